/- For every bound and every script of writes the statement BufferKeeps answers true: the bound holds, no cell stands twice, a write changes its cell alone, and the last number of each cell is told; where no buffer may be none is made. No condition. -/
import Derived.Test.YtlebjdohneiaaaaYO
import Derived.Test.YtlebjdohneiaaaaYS4
import Derived.Deep.DeepCutAuto
import Derived.Deep.Cut
import Derived.Deep.CutRange
namespace Go.Proofs.Ytlebjdohneiaaaa.bufferKeeps
open Go.ChangeShapes Go.WideShapes Go.ChangeAt Go.RowKit

open Num
attribute [local go_sem] run_store_float frombits_run bits_run
set_option maxHeartbeats 8000000 in
set_option maxRecDepth 100000 in
theorem walk (a0 : Int) (ao : Option Addr) (len cap : Nat) (K C : Nat → Int) (X : Nat → Nat) (_w0 : (Lit.int .i64 a0).wf = true) (hmax : len ≤ maxLen) (W : World) (hops : BopsAt W ao len K C X) : Calls Try.prog 5 #[.int .i64 a0, .slice ao len cap] W fun r W2 => r = .returned (.bool true) ∧ Below W.heap.size W W2 := by
  have hmm : len ≤ 9223372036854775807 := hmax
  have HOPS := Lib.hid hops
  clear hops hmax _w0
  cases hn : mayM a0
  · have HN := Lib.hid (fun w => new_none hn w)
    unfold mayM at hn
    simp at hn
    by_cases h1 : a0 < 1
    · clear hn
      go_enter Try.func5, Try.ntmps5
      go_wp2_with (first
        | (go_at_call 9; refine (live_any _).mono ?_; rintro e w1 ⟨rfl, hb⟩; have HB1 := Lib.hid hb; clear hb)
        | (go_at_call 7; refine (HN.out _).mono ?_; rintro e w2 ⟨rfl, hw⟩; subst w2))
      go_ret
      exact ⟨by simp, HB1.out⟩
    · have h2 : 32 < a0 := hn (by omega)
      clear hn
      go_enter Try.func5, Try.ntmps5
      go_wp2_with (first
        | (go_at_call 9; refine (live_any _).mono ?_; rintro e w1 ⟨rfl, hb⟩; have HB1 := Lib.hid hb; clear hb)
        | (go_at_call 7; refine (HN.out _).mono ?_; rintro e w2 ⟨rfl, hw⟩; subst w2))
      go_ret
      exact ⟨by simp, HB1.out⟩
  · have HN := Lib.hid (fun w => new_some hn w)
    have h0 : 1 ≤ a0 ∧ a0 ≤ 32 := by unfold mayM at hn; simpa using hn
    have h1 : ¬ a0 < 1 := by omega
    have h2 : ¬ 32 < a0 := by omega
    clear hn h0
    go_enter Try.func5, Try.ntmps5
    go_wp2_with (first
      | (go_at_call 7; refine (HN.out _).mono ?_; rintro e w2 ⟨bm, F, rfl, hc, ha, hb⟩; have HG3 : Hid (Lone W w2 bm a0) := ⟨_, _, hc, below_chain HB1.out hb, ha.mono HB1.out.size⟩; clear hc ha hb)
      | (go_at_call 9; refine (live_any _).mono ?_; rintro e w1 ⟨rfl, hb⟩; have HB1 := Lib.hid hb; clear hb))
    clear HB1 HN
    go_loopw [56] (fun vi wr => ∃ (i : Nat), vi = .int .i64 i ∧ i ≤ len ∧ Hid (Lone W wr bm a0)) (fun vi _ => len - (intOf vi).toNat)
    case atStart => exact ⟨0, rfl, Nat.zero_le _, HG3⟩
    case round =>
      clear HG3
      obtain ⟨i, rfl, hi, HG⟩ := hrel
      obtain ⟨F, l, hp⟩ := HG.out
      by_cases hlt : i < len
      · have hlt' : (i : Int) < (len : Int) := by omega
        obtain ⟨b0, off, hao, hbW, k0, k1, k2, hwf, _⟩ := HOPS.out i hlt
        subst hao
        rw [← hp.below.cell (p := ⟨b0, off + i * 3, none⟩) hbW] at k0
        rw [← hp.below.cell (p := ⟨b0, off + i * 3 + 1, none⟩) hbW] at k1
        rw [← hp.below.cell (p := ⟨b0, off + i * 3 + 2, none⟩) hbW] at k2
        have hbw : b0 < wr.heap.size := Nat.lt_of_lt_of_le hbW hp.below.size
        generalize K i = kk at k0
        have HW := Lib.hid hwf
        clear hwf
        generalize C i = cc at k1 HW
        generalize X i = xx at k2
        obtain ⟨n, hnn⟩ : ∃ n, l.length = n := ⟨_, rfl⟩
        have hn32 : n ≤ 32 := by have := hp.m.few; omega
        have HO := Lib.hid hp
        have HA : Hid (Calls Try.prog 17 #[.pointer (some ⟨bm, 0, none⟩)] (wr.alloc (.cells #[.int .i64 kk, .int .i64 cc, .int .u64 xx] 34)) fun e w' => e = .returned (.slice (some ⟨wr.heap.size + 1, 0, none⟩) n n) ∧ TRow w' (some ⟨wr.heap.size + 1, 0, none⟩) n l ∧ Below (wr.alloc (.cells #[.int .i64 kk, .int .i64 cc, .int .u64 xx] 34)).heap.size (wr.alloc (.cells #[.int .i64 kk, .int .i64 cc, .int .u64 xx] 34)) w') := by
          have := all_any' (hp.m.alloc (.cells #[.int .i64 kk, .int .i64 cc, .int .u64 xx] 34)) hnn
          have e1 : (wr.alloc (.cells #[.int .i64 kk, .int .i64 cc, .int .u64 xx] 34)).heap.size = wr.heap.size + 1 := by simp
          rw [e1] at this ⊢
          exact this
        have HX := Lib.hid (heap_alloc_new wr (.cells #[.int .i64 kk, .int .i64 cc, .int .u64 xx] 34))
        have HNN := Lib.hid hnn
        clear hp HG hbW HOPS hnn
        go_wp2_with (go_at_call 17; refine HA.out.mono ?_; rintro e w1 ⟨rfl, hr, hb⟩; have HPUT := kput HO.out hr hb HW.out xx; obtain ⟨p0, p1, p2, p3⟩ := cells3 ((hb.block wr.heap.size (by simp)).trans HX.out); clear hr hb)
        clear HA
        obtain ⟨pe, hpe⟩ : ∃ e, e = putE a0 l cc := ⟨_, rfl⟩
        obtain ⟨pf, hpf⟩ : ∃ f, f = putF a0 l cc := ⟨_, rfl⟩
        obtain ⟨l2, hl2⟩ : ∃ l2, l2 = putL a0 l cc xx := ⟨_, rfl⟩
        rw [← hpe, ← hpf, ← hl2] at HPUT
        have HEQ := Lib.hid (And.intro hpe (And.intro hpf hl2))
        clear hpe hpf hl2
        go_region_held (fun w' => w'.cell? ⟨wr.heap.size, 1, none⟩ = some (.int .i64 cc) ∧ w'.cell? ⟨wr.heap.size, 2, none⟩ = some (.int .u64 xx)) (go_keep) (first
          | (go_at_call 19; refine (raw7_any _ _).mono ?_; rintro e w2 ⟨rfl, hw⟩; subst w2)
          | (go_at_call 18; refine (HPUT.out _ (by first | exact Same.refl _ | exact Same.drew _ | exact Same.drewN _ _)).mono ?_; rintro e w2 ⟨rfl, ⟨F2, ho⟩, hr, hx⟩; have HO2 := Lib.hid ho; have HR2 := Lib.hid hr; have HX2 := Lib.hid (hx.trans HX.out); obtain ⟨q0, q1, q2, q3⟩ := cells3 HX2.out; clear ho hr hx))
        clear HPUT HX HO
        obtain ⟨n2, hn2⟩ : ∃ n2, l2.length = n2 := ⟨_, rfl⟩
        have hn232 : n2 ≤ 32 := by have := HO2.out.m.few; omega
        have HA2 := Lib.hid (all_any' HO2.out.m hn2)
        have HN2 := Lib.hid hn2
        clear hn2
        go_upto_region 11 with (go_at_call 17; refine HA2.out.mono ?_; rintro e w3 ⟨rfl, hr, hb⟩; have HTA := Lib.hid hr; have HTB := Lib.hid (HR2.out.on hb); have HO3 := Lib.hid (HO2.out.on hb); obtain ⟨s0, s1, s2, s3⟩ := cells3 ((hb.block wr.heap.size q3).trans HX2.out); clear hr hb)
        clear HA2 HO2 HR2 HX2 p0 p1 p2 p3 q0 q1 q2 q3 k0 k1 k2
        have hfew : (n2 : Int) ≤ a0 := by have := HO3.out.m.few; have := HN2.out; omega
        have HBC : Hid ((hasC l cc = true ∧ n2 = n ∧ pf = false ∧ pe = 0) ∨ (hasC l cc = false ∧ (n : Int) < a0 ∧ n2 = n + 1 ∧ pf = true ∧ pe = 0) ∨ (hasC l cc = false ∧ ¬ (n : Int) < a0 ∧ n2 = n ∧ pf = false ∧ pe = 70)) := by
          have := put_ways (m := a0) (l := l) (c := cc) (x := xx)
          rw [← HEQ.out.1, ← HEQ.out.2.1, ← HEQ.out.2.2, HN2.out, HNN.out] at this
          exact this
        have HTOLD : Hid ((pe = 0 ∧ hasC l2 cc = true ∧ getC l2 cc = fixB xx) ∨ (pe = 70 ∧ hasC l2 cc = false)) := by
          have := put_told (m := a0) (l := l) (c := cc) (x := xx)
          rw [← HEQ.out.1, ← HEQ.out.2.2] at this
          exact this
        have HSTAY : Hid (∀ k, k < n → (l2.getD k (0, 0)).1 = (l.getD k (0, 0)).1 ∧ ((l2.getD k (0, 0)).1 = cc ∨ (l2.getD k (0, 0)).2 = (l.getD k (0, 0)).2)) := fun k hk => by
          rw [HEQ.out.2.2]
          exact put_stays (by rw [HNN.out]; exact hk)
        clear HEQ
        have HND : Hid (∀ j k, k < n2 → j < k → (l2.getD j (0, 0)).1 ≠ (l2.getD k (0, 0)).1) := fun j k hk hj => nod_ne HO3.out.m.nod (by rw [HN2.out]; exact hk) hj
        refine seg11 _  _ (by kernel_rfl) _ _ _ _ _ _ _ _ _ _ _ _ _ _ _ _ _ _ _ _ _ _ _ _ _ _ _ _ _ _ _ _ _ _ _ _ _ _ _ _ _ _ _ _ _ _ _ _ _ _ _ _ _ _ _ _ _ _ _ _ _ _ _ _ _ _ _ _ _ _ _ _ _ _ _ _ _ _ _ _ _ _ _ _ _ _ _ _ _ _ _ _ _ _ _ _ _ _ _ _ _ _ _ _ _ _ _ _ _ _ _ _ _ _ _ _ _ _ _ _ _ _ _ _ _ _ _ _ _ _ _ _ _ _ _ _ _ _ _ _ _ _ _ _ _ _ _ _ _ _ _ _ _ _ _ _ _ _ _ _ _ _ _ _ _ _ _ _ _ _ _ _ _ _ _ _ _ _ _ _ _ _ _ _ _ _ _ _ _ _ _ _ _ _ _ _ _ _ _ _ _ _ _ _ _ _ _ _ _ _ _ _ _ _ _ _ _ _ _ _ _ _ _ _ _ _ _ _ _ _ _ _ _ _ _ _ _ _ _ _ _ _ _ _ _ _ _ _ _ _ _ _ _ _ _ _ _ _ _ _ _ _ _ _ _ _ _ _ _ _ _ _ _ _ _ _ _ _ _ _ _ _ _ _ _ _ ?_
        skip
        go_step
        go_step
        go_step
        refine seg12 _ hn32 HNN HTB s1 s3 _ (by kernel_rfl) _ _ _ _ _ _ _ _ _ _ _ _ _ _ _ _ _ _ _ _ _ _ _ _ _ _ _ _ _ _ _ _ _ _ _ _ _ _ _ _ _ _ _ _ _ _ _ _ _ _ _ _ _ _ _ _ _ _ _ _ _ _ _ _ _ _ _ _ _ _ _ _ _ _ _ _ _ _ _ _ _ _ _ _ _ _ _ _ _ _ _ _ _ _ _ _ _ _ _ _ _ _ _ _ _ _ _ _ _ _ _ _ _ _ _ _ _ _ _ _ _ _ _ _ _ _ _ _ _ _ _ _ _ _ _ _ _ _ _ _ _ _ _ _ _ _ _ _ _ _ _ _ _ _ _ _ _ _ _ _ _ _ _ _ _ _ _ _ _ _ _ _ _ _ _ _ _ _ _ _ _ _ _ _ _ _ _ _ _ _ _ _ _ _ _ _ _ _ _ _ _ _ _ _ _ _ _ _ _ _ _ _ _ _ _ _ _ _ _ _ _ _ _ _ _ _ _ _ _ _ _ _ _ _ _ _ _ _ _ _ _ _ _ _ _ _ _ _ _ _ _ _ _ _ _ _ _ _ _ _ _ _ _ _ _ _ _ _ _ _ _ _ _ _ _ _ _ _ _ _ _ _ _ ?_
        intro _ _ _ _ _ _ _ _ _ _ _ _ _ _ _ _ _ _ d1
        go_step
        go_step
        go_step
        refine seg16 _  _ (by kernel_rfl) _ _ _ _ _ _ _ _ _ _ _ _ _ _ _ _ _ _ _ _ _ _ _ _ _ _ _ _ _ _ _ _ _ _ _ _ _ _ _ _ _ _ _ _ _ _ _ _ _ _ _ _ _ _ _ _ _ _ _ _ _ _ _ _ _ _ _ _ _ _ _ _ _ _ _ _ _ _ _ _ _ _ _ _ _ _ _ _ _ _ _ _ _ _ _ _ _ _ _ _ _ _ _ _ _ _ _ _ _ _ _ _ _ _ _ _ _ _ _ _ _ _ _ _ _ _ _ _ _ _ _ _ _ _ _ _ _ _ _ _ _ _ _ _ _ _ _ _ _ _ _ _ _ _ _ _ _ _ _ _ _ _ _ _ _ _ _ _ _ _ _ _ _ _ _ _ _ _ _ _ _ _ _ _ _ _ _ _ _ _ _ _ _ _ _ _ _ _ _ _ _ _ _ _ _ _ _ _ _ _ _ _ _ _ _ _ _ _ _ _ _ _ _ _ _ _ _ _ _ _ _ _ _ _ _ _ _ _ _ _ _ _ _ _ _ _ _ _ _ _ _ _ _ _ _ _ _ _ _ _ _ _ _ _ _ _ _ _ _ _ _ _ _ _ _ _ _ _ _ _ _ _ _ _ _ ?_
        intro _ _
        go_step
        go_step
        go_step
        refine seg17 _ hn32 HBC _ (by kernel_rfl) _ _ _ _ _ _ _ _ _ _ _ _ _ _ _ _ _ _ _ _ _ _ _ _ _ _ _ _ _ _ _ _ _ _ _ _ _ _ _ _ _ _ _ _ _ _ _ _ _ _ _ _ _ _ _ _ _ _ _ _ _ _ _ _ _ _ _ _ _ _ _ _ _ _ _ _ _ _ _ _ _ _ _ _ _ _ _ _ _ _ _ _ _ _ _ _ _ _ _ _ _ _ _ _ _ _ _ _ _ _ _ _ _ _ _ _ _ _ _ _ _ _ _ _ _ _ _ _ _ _ _ _ _ _ _ _ _ _ _ _ _ _ _ _ _ _ _ _ _ _ _ _ _ _ _ _ _ _ _ _ _ _ _ _ _ _ _ _ _ _ _ _ _ _ _ _ _ _ _ _ _ _ _ _ _ _ _ _ _ _ _ _ _ _ _ _ _ _ _ _ _ _ _ _ _ _ _ _ _ _ _ _ _ _ _ _ _ _ _ _ _ _ _ _ _ _ _ _ _ _ _ _ _ _ _ _ _ _ _ _ _ _ _ _ _ _ _ _ _ _ _ _ _ _ _ _ _ _ _ _ _ _ _ _ _ _ _ _ _ _ _ _ _ _ _ _ _ _ _ _ _ _ _ ?_
        intro _ _ _ _ _ _ _ _
        go_step
        go_step
        go_step
        refine seg19 _ hn32 hn232 hfew HBC (Lib.hid (len_at (HO3.out.m.same (Same.drewN w3 d1)) HN2.out)) _ (by kernel_rfl) _ _ _ _ _ _ _ _ _ _ _ _ _ _ _ _ _ _ _ _ _ _ _ _ _ _ _ _ _ _ _ _ _ _ _ _ _ _ _ _ _ _ _ _ _ _ _ _ _ _ _ _ _ _ _ _ _ _ _ _ _ _ _ _ _ _ _ _ _ _ _ _ _ _ _ _ _ _ _ _ _ _ _ _ _ _ _ _ _ _ _ _ _ _ _ _ _ _ _ _ _ _ _ _ _ _ _ _ _ _ _ _ _ _ _ _ _ _ _ _ _ _ _ _ _ _ _ _ _ _ _ _ _ _ _ _ _ _ _ _ _ _ _ _ _ _ _ _ _ _ _ _ _ _ _ _ _ _ _ _ _ _ _ _ _ _ _ _ _ _ _ _ _ _ _ _ _ _ _ _ _ _ _ _ _ _ _ _ _ _ _ _ _ _ _ _ _ _ _ _ _ _ _ _ _ _ _ _ _ _ _ _ _ _ _ _ _ _ _ _ _ _ _ _ _ _ _ _ _ _ _ _ _ _ _ _ _ _ _ _ _ _ _ _ _ _ _ _ _ _ _ _ _ _ _ _ _ _ _ _ _ _ _ _ _ _ _ _ _ _ _ _ _ _ _ _ _ _ ?_
        intro _ _ _ _ _ _ _ _ _ _ _ _ _ _ _ _ _ _ _ _ _ _ _ _ _ _ _ _ _ _ _ _ _ _ _ _ _ _ _ _ _ _ _ _ _
        go_step
        go_step
        go_step
        refine seg21 _ hn32 hn232 HN2 HNN (Lib.hid (HTA.out.same (Same.drewN w3 d1))) (Lib.hid (HTB.out.same (Same.drewN w3 d1))) HSTAY HND (Lib.hid (HO3.out.m.same (Same.drewN w3 d1))) (by simpa using s1) (by simpa using s3) _ (by kernel_rfl) _ _ _ _ _ _ _ _ _ _ _ _ _ _ _ _ _ _ _ _ _ _ _ _ _ _ _ _ _ _ _ _ _ _ _ _ _ _ _ _ _ _ _ _ _ _ _ _ _ _ _ _ _ _ _ _ _ _ _ _ _ _ _ _ _ _ _ _ _ _ _ _ _ _ _ _ _ _ _ _ _ _ _ _ _ _ _ _ _ _ _ _ _ _ _ _ _ _ _ _ _ _ _ _ _ _ _ _ _ _ _ _ _ _ _ _ _ _ _ _ _ _ _ _ _ _ _ _ _ _ _ _ _ _ _ _ _ _ _ _ _ _ _ _ _ _ _ _ _ _ _ _ _ _ _ _ _ _ _ _ _ _ _ _ _ _ _ _ _ _ _ _ _ _ _ _ _ _ _ _ _ _ _ _ _ _ _ _ _ _ _ _ _ _ _ _ _ _ _ _ _ _ _ _ _ _ _ _ _ _ _ _ _ _ _ _ _ _ _ _ _ _ _ _ _ _ _ _ _ _ _ _ _ _ _ _ _ _ _ _ _ _ _ _ _ _ _ _ _ _ _ _ _ _ _ _ _ _ _ _ _ _ _ _ _ _ _ _ _ _ _ _ _ _ _ _ _ _ _ _ _ _ ?_
        intro _ _ _ _ _ _ _ _ _ _ _ _ _ _ _ _ _ _ _ _ _ _ _ _ _ _ _ _ _ _ _ _ _ _ _ _ _ _ _ _ _ _ _ _ _ _ _ _ _ _ _ _ _ _ _ _ _ _ _ _ _ _ _ _ _ _ _ _ _ _ _ _ _ _ _ _ _ _ _ _ _ _ _ _ _ _ _ _ _ _ _ _ _ _ _ _ _ d2
        go_step
        go_step
        go_step
        have HS33 : Hid (Same w3 ((w3.drewN d1).drewN d2)) := (Same.drewN w3 d1).trans (Same.drewN _ d2)
        have HGET := Lib.hid (get_any (HO3.out.m.same HS33.out) HW.out)
        have s1' : ((w3.drewN d1).drewN d2).cell? ⟨wr.heap.size, 1, none⟩ = some (.int .i64 cc) := by simpa using s1
        have s2' : ((w3.drewN d1).drewN d2).cell? ⟨wr.heap.size, 2, none⟩ = some (.int .u64 xx) := by simpa using s2
        have s3' : wr.heap.size < ((w3.drewN d1).drewN d2).heap.size := by simpa using s3
        refine seg33 _ HGET s1' s3' _ (by kernel_rfl) _ _ _ _ _ _ _ _ _ _ _ _ _ _ _ _ _ _ _ _ _ _ _ _ _ _ _ _ _ _ _ _ _ _ _ _ _ _ _ _ _ _ _ _ _ _ _ _ _ _ _ _ _ _ _ _ _ _ _ _ _ _ _ _ _ _ _ _ _ _ _ _ _ _ _ _ _ _ _ _ _ _ _ _ _ _ _ _ _ _ _ _ _ _ _ _ _ _ _ _ _ _ _ _ _ _ _ _ _ _ _ _ _ _ _ _ _ _ _ _ _ _ _ _ _ _ _ _ _ _ _ _ _ _ _ _ _ _ _ _ _ _ _ _ _ _ _ _ _ _ _ _ _ _ _ _ _ _ _ _ _ _ _ _ _ _ _ _ _ _ _ _ _ _ _ _ _ _ _ _ _ _ _ _ _ _ _ _ _ _ _ _ _ _ _ _ _ _ _ _ _ _ _ _ _ _ _ _ _ _ _ _ _ _ _ _ _ _ _ _ _ _ _ _ _ _ _ _ _ _ _ _ _ _ _ _ _ _ _ _ _ _ _ _ _ _ _ _ _ _ _ _ _ _ _ _ _ _ _ _ _ _ _ _ _ _ _ _ _ _ _ _ _ _ _ _ _ _ _ _ _ _ _ _ ?_
        intro _ _ _ _ _ _ _
        go_step
        go_step
        go_step
        refine seg34 _ s2' s3' _ (by kernel_rfl) _ _ _ _ _ _ _ _ _ _ _ _ _ _ _ _ _ _ _ _ _ _ _ _ _ _ _ _ _ _ _ _ _ _ _ _ _ _ _ _ _ _ _ _ _ _ _ _ _ _ _ _ _ _ _ _ _ _ _ _ _ _ _ _ _ _ _ _ _ _ _ _ _ _ _ _ _ _ _ _ _ _ _ _ _ _ _ _ _ _ _ _ _ _ _ _ _ _ _ _ _ _ _ _ _ _ _ _ _ _ _ _ _ _ _ _ _ _ _ _ _ _ _ _ _ _ _ _ _ _ _ _ _ _ _ _ _ _ _ _ _ _ _ _ _ _ _ _ _ _ _ _ _ _ _ _ _ _ _ _ _ _ _ _ _ _ _ _ _ _ _ _ _ _ _ _ _ _ _ _ _ _ _ _ _ _ _ _ _ _ _ _ _ _ _ _ _ _ _ _ _ _ _ _ _ _ _ _ _ _ _ _ _ _ _ _ _ _ _ _ _ _ _ _ _ _ _ _ _ _ _ _ _ _ _ _ _ _ _ _ _ _ _ _ _ _ _ _ _ _ _ _ _ _ _ _ _ _ _ _ _ _ _ _ _ _ _ _ _ _ _ _ _ _ _ _ _ _ _ _ _ _ _ _ _ ?_
        intro _ _ _ _ _ _ _ d3
        go_step
        go_step
        have s2'' : (((w3.drewN d1).drewN d2).drewN d3).cell? ⟨wr.heap.size, 2, none⟩ = some (.int .u64 xx) := by simpa using s2
        have s3'' : wr.heap.size < (((w3.drewN d1).drewN d2).drewN d3).heap.size := by simpa using s3
        rcases HTOLD.out with ⟨z1, z2, z3⟩ | ⟨z1, z2⟩
        · rw [z2, z3]
          subst z1
          cases hnn : nan xx
          · rw [fixB_num hnn]
            refine seg35a _ s2'' s3'' _ (by kernel_rfl) _ _ _ _ _ _ _ _ _ _ _ _ _ _ _ _ _ _ _ _ _ _ _ _ _ _ _ _ _ _ _ _ _ _ _ _ _ _ _ _ _ _ _ _ _ _ _ _ _ _ _ _ _ _ _ _ _ _ _ _ _ _ _ _ _ _ _ _ _ _ _ _ _ _ _ _ _ _ _ _ _ _ _ _ _ _ _ _ _ _ _ _ _ _ _ _ _ _ _ _ _ _ _ _ _ _ _ _ _ _ _ _ _ _ _ _ _ _ _ _ _ _ _ _ _ _ _ _ _ _ _ _ _ _ _ _ _ _ _ _ _ _ _ _ _ _ _ _ _ _ _ _ _ _ _ _ _ _ _ _ _ _ _ _ _ _ _ _ _ _ _ _ _ _ _ _ _ _ _ _ _ _ _ _ _ _ _ _ _ _ _ _ _ _ _ _ _ _ _ _ _ _ _ _ _ _ _ _ _ _ _ _ _ _ _ _ _ _ _ _ _ _ _ _ _ _ _ _ _ _ _ _ _ _ _ _ _ _ _ _ _ _ _ _ _ _ _ _ _ _ _ _ _ _ _ _ _ _ _ _ _ _ _ _ _ _ _ _ _ _ _ _ _ _ _ _ _ _ _ _ _ ?_
            intro _ _ _ _ _ _ _ _ _ _ _ _ _ _ _ _ _ _ _ _ _ _ _ _ _ _ _ _ _ _ _ _ d4
            go_wp2
            exact ⟨⟨i + 1, by first | rfl | (congr 1), by omega, ⟨_, _, HO3.out.same (Same.drewN _ _)⟩⟩, by simp [intOf]; omega⟩
          · rw [fixB_nan hnn]
            refine seg35b _  _ (by kernel_rfl) _ _ _ _ _ _ _ _ _ _ _ _ _ _ _ _ _ _ _ _ _ _ _ _ _ _ _ _ _ _ _ _ _ _ _ _ _ _ _ _ _ _ _ _ _ _ _ _ _ _ _ _ _ _ _ _ _ _ _ _ _ _ _ _ _ _ _ _ _ _ _ _ _ _ _ _ _ _ _ _ _ _ _ _ _ _ _ _ _ _ _ _ _ _ _ _ _ _ _ _ _ _ _ _ _ _ _ _ _ _ _ _ _ _ _ _ _ _ _ _ _ _ _ _ _ _ _ _ _ _ _ _ _ _ _ _ _ _ _ _ _ _ _ _ _ _ _ _ _ _ _ _ _ _ _ _ _ _ _ _ _ _ _ _ _ _ _ _ _ _ _ _ _ _ _ _ _ _ _ _ _ _ _ _ _ _ _ _ _ _ _ _ _ _ _ _ _ _ _ _ _ _ _ _ _ _ _ _ _ _ _ _ _ _ _ _ _ _ _ _ _ _ _ _ _ _ _ _ _ _ _ _ _ _ _ _ _ _ _ _ _ _ _ _ _ _ _ _ _ _ _ _ _ _ _ _ _ _ _ _ _ _ _ _ _ _ _ _ _ _ _ _ _ _ _ _ _ _ _ _ _ _ ?_
            intro _ _ _ _ _ _ _ _ _ _ _ _ _ _ _ _ _ _ _ _ _ _ _ _ _ _ _ _ _ _ _ _ d4
            go_wp2
            exact ⟨⟨i + 1, by first | rfl | (congr 1), by omega, ⟨_, _, HO3.out.same (Same.drewN _ _)⟩⟩, by simp [intOf]; omega⟩
        · rw [z2]
          subst z1
          refine seg35c _  _ (by kernel_rfl) _ _ _ _ _ _ _ _ _ _ _ _ _ _ _ _ _ _ _ _ _ _ _ _ _ _ _ _ _ _ _ _ _ _ _ _ _ _ _ _ _ _ _ _ _ _ _ _ _ _ _ _ _ _ _ _ _ _ _ _ _ _ _ _ _ _ _ _ _ _ _ _ _ _ _ _ _ _ _ _ _ _ _ _ _ _ _ _ _ _ _ _ _ _ _ _ _ _ _ _ _ _ _ _ _ _ _ _ _ _ _ _ _ _ _ _ _ _ _ _ _ _ _ _ _ _ _ _ _ _ _ _ _ _ _ _ _ _ _ _ _ _ _ _ _ _ _ _ _ _ _ _ _ _ _ _ _ _ _ _ _ _ _ _ _ _ _ _ _ _ _ _ _ _ _ _ _ _ _ _ _ _ _ _ _ _ _ _ _ _ _ _ _ _ _ _ _ _ _ _ _ _ _ _ _ _ _ _ _ _ _ _ _ _ _ _ _ _ _ _ _ _ _ _ _ _ _ _ _ _ _ _ _ _ _ _ _ _ _ _ _ _ _ _ _ _ _ _ _ _ _ _ _ _ _ _ _ _ _ _ _ _ _ _ _ _ _ _ _ _ _ _ _ _ _ _ _ _ _ _ _ _ _ _ ?_
          intro _ _ _ _ _ _ _ _ _ _ _ _ _ _ _ _ _ _ _ _ _ _ _ _ _ _ _ _ _ _ _ _ d4
          go_wp2
          exact ⟨⟨i + 1, by first | rfl | (congr 1), by omega, ⟨_, _, HO3.out.same (Same.drewN _ _)⟩⟩, by simp [intOf]; omega⟩
      · have hlt' : ¬ (i : Int) < (len : Int) := by omega
        have HP := Lib.hid hp.below
        clear hp HG hlt hi HOPS
        go_wp2
        go_ret
        exact ⟨rfl, HP.out⟩

set_option maxRecDepth 100000 in
theorem lifted (os : Os) (started : os.Started) (H : Type) (enc : TypeId × Value → H) :
    ReturnsInHanded {} Try.checked os 5 .any (Rows.bufferKeepsSpec.pre6 enc Try.prog Try.f5 Rows.bufferKeepsRow.domain false) (Rows.bufferKeepsSpec.post enc Try.prog Try.f5 false true false false) := by
  refine returnsInHanded_of_change (C := Try.checked) ownK started (by kernel_rfl) Try.func5
    (ChangeSpec.witness6 (enc := enc) (C := Try.checked) false ⟨#[], #[.int .i64 0, .slice none 0 0], []⟩ 8 (by kernel_rfl) (by kernel_rfl) (by kernel_rfl) (by kernel_rfl)) ?_
  intro W base args ds gs before hval0 hW _ _
  have hval : ∀ (j : Nat) t v, Try.f5.params[j]? = some t → args[j]? = some v → Value.okWide Try.prog W .any base t v := hval0
  have hW2 := hW
  obtain ⟨p, q, hA0, hV, rfl, _, _⟩ := hW
  have hA : DataW.TrodAll enc Try.prog W 0 (fun _ => true) true Try.f5.params.toList args.toList ds p := hA0
  rw [Try.params5] at hA hval
  obtain ⟨v0, vs0, d0, ds0, p0, q0, hargs, rfl, rfl, h0, r0⟩ := trodAll_cons hA
  obtain ⟨v1, vs1, d1, ds1, p1, q1, rfl, rfl, rfl, h1, r1⟩ := trodAll_cons r0
  obtain ⟨rfl, rfl, rfl⟩ := trodAll_nil r1
  obtain rfl : args = #[v0, v1] := by cases args; simp_all
  obtain ⟨rfl, rfl⟩ := trodVars_none hV
  obtain ⟨a0, rfl, rfl, rfl, w0⟩ := open_int Try.underlying3 (hval 0 3 v0 rfl rfl) h0
  obtain ⟨o1, l1, c1, K1, C1, X1, rfl, fm1, fW1⟩ := open_bops (hval 1 28 v1 rfl rfl) h1
  clear hA0 hval0
  simp only [List.append_nil] at hW2
  have hlt : ∀ x ∈ p1, x.block < W.heap.size := fun x hx => by simpa using hW2.lt x (by simpa using hx)
  refine (walk a0 o1 l1 c1 K1 C1 X1 w0 fm1 W fW1).mono fun e W2 ⟨he, hnx⟩ => ?_
  subst he
  exact ⟨_, rfl, _, _, _, [], _, [], hW2, trodAll_mk1 (shut_bool Try.underlying4 _), (trodAll_cons_mk (shut_int Try.underlying3 w0) (trodAll_cons_mk (Below.trod laidOut (by kernel_rfl) (of_decide_eq_true (by kernel_rfl)) h1 hnx (fun x hx => hlt x (by first | simpa using hx | (simp at hx ⊢; simp [hx])))) trodAll_mk0)), rfl, hnx.frame _, fun h => by cases h⟩

/-- the statement -/
theorem proved : Rows.BufferKeepsSaid :=
  OpenClaim.holds_of_wide 5 Try.f5 rfl rfl rfl rfl rfl rfl rfl ⟨rfl, rfl, rfl, rfl, rfl⟩ rfl rfl rfl rfl rfl (by kernel_rfl) Try.func5 (by kernel_rfl)
    (of_decide_eq_true (by kernel_rfl)) (by unfold Func.isWrapper; first | (rw [if_pos (by decide +kernel)]; kernel_rfl) | (rw [if_neg (by decide +kernel)]; exact ⟨rfl, rfl⟩))
    (fun os started H enc _ => lifted os started H enc)
end Go.Proofs.Ytlebjdohneiaaaa.bufferKeeps
