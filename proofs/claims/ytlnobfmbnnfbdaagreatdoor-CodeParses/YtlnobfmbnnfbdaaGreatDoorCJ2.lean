/- the document's Parse -/
import Derived.Test.YtlnobfmbnnfbdaaGreatDoorCJ
import Derived.Deep.AppendLies
namespace Go.Proofs.YtlnobfmbnnfbdaaGreatDoor
open Go.ChangeShapes Go.WideShapes Go.ChangeAt Go.RowKit Num
attribute [local go_sem] run_store_float

theorem RP.cells {w wr : World} {t : Int} {c : List Ins} {v : Value} (h : RP w wr t c v) : (wr.cell? ⟨w.heap.size, 0, none⟩ = some (.int .i64 0) ∧ wr.cell? ⟨w.heap.size, 1, none⟩ = some (.slice none 0 0) ∧ w.heap.size < wr.heap.size ∧ wr.frozen? ⟨w.heap.size, 0, none⟩ = false ∧ wr.frozen? ⟨w.heap.size, 1, none⟩ = false) ∧
    (wr.cell? ⟨w.heap.size + 1, 0, none⟩ = some (.int .i64 0) ∧ wr.cell? ⟨w.heap.size + 1, 1, none⟩ = some (.slice none 0 0) ∧ w.heap.size + 1 < wr.heap.size) ∧
    (wr.cell? ⟨w.heap.size + 1 + 1, 0, none⟩ = some (.int .i64 t) ∧ wr.cell? ⟨w.heap.size + 1 + 1, 1, none⟩ = some v ∧ w.heap.size + 1 + 1 < wr.heap.size ∧ wr.frozen? ⟨w.heap.size + 1 + 1, 0, none⟩ = false ∧ wr.frozen? ⟨w.heap.size + 1 + 1, 1, none⟩ = false) := by
  obtain ⟨a0, a1, a2⟩ := cells2_of h.rbox
  obtain ⟨b0, b1, b2⟩ := cells2_of h.nbox
  obtain ⟨c0, c1, c2⟩ := cells2_of h.pbox
  exact ⟨⟨a0, a1, a2, frozen_of_row _ _ 0 _ _ h.rbox, frozen_of_row _ _ 1 _ _ h.rbox⟩, ⟨b0, b1, b2⟩, ⟨c0, c1, c2, frozen_of_row _ _ 0 _ _ h.pbox, frozen_of_row _ _ 1 _ _ h.pbox⟩⟩
theorem bytes_lit (l : List UInt8) (h : l.length ≤ 65536) : (⟨l.toArray⟩ : ByteArray).size ≤ 65536 := by
  rw [size_list]
  simpa using h
theorem box_second (w : World) (X Y : Obj) : ((w.alloc X).alloc Y).heap[w.heap.size + 1]? = some Y := by
  have e := heap_alloc_new (w.alloc X) Y
  have hz : (w.alloc X).heap.size = w.heap.size + 1 := by simp
  rw [hz] at e
  exact e
theorem rp_start (w : World) : RP w (((w.alloc (.cells #[.int .i64 0, .slice none 0 0] 24)).alloc (.cells #[.int .i64 0, .slice none 0 0] 24)).alloc (.cells #[.int .i64 0, .slice none 0 0] 24)) 0 [] (.slice none 0 0) := by
  have e0 := heap_alloc_new w (.cells #[.int .i64 0, .slice none 0 0] 24)
  have e1 := heap_alloc_new (w.alloc (.cells #[.int .i64 0, .slice none 0 0] 24)) (.cells #[.int .i64 0, .slice none 0 0] 24)
  have e2 := heap_alloc_new ((w.alloc (.cells #[.int .i64 0, .slice none 0 0] 24)).alloc (.cells #[.int .i64 0, .slice none 0 0] 24)) (.cells #[.int .i64 0, .slice none 0 0] 24)
  have z1 : (w.alloc (.cells #[.int .i64 0, .slice none 0 0] 24)).heap.size = w.heap.size + 1 := by simp
  have z2 : ((w.alloc (.cells #[.int .i64 0, .slice none 0 0] 24)).alloc (.cells #[.int .i64 0, .slice none 0 0] 24)).heap.size = w.heap.size + 2 := by simp
  rw [z1] at e1
  rw [z2] at e2
  refine ⟨?_, ?_, e2, row_nil _ _, bl_alloc _ (bl_alloc _ (box5 _ _)), fun _ h => (by cases h)⟩
  · unfold PBox
    rw [heap_alloc_old _ _ (by simp; omega), heap_alloc_old _ _ (by simp)]
    exact e0
  · unfold PBox
    rw [heap_alloc_old _ _ (by simp)]
    exact e1
set_option maxHeartbeats 4000000 in
set_option maxRecDepth 100000 in
theorem refParse5_any (s : ByteArray) (w : World) : Calls Tryz.prog 21 #[.string s] w fun e w' => ParseR w w' s.data.toList e ∧ Below w.heap.size w w' := by
  have HL := Lib.hid (size_list s)
  obtain ⟨i0, hi0, hz0, hz1, hz2⟩ := info_parts instrInfo
  by_cases hsz : 65536 < s.size
  · have hp := parse_over (l := s.data.toList) (by rw [← size_list]; exact hsz)
    have hz' : (65536 : Int) < (s.size : Int) := by omega
    have HPE : Hid (∀ w' e, e = .returned (.tuple #[.agg #[.int .i64 0, .slice none 0 0], .int .i64 2, .int .i64 0]) → ParseR w w' s.data.toList e) := fun w' e he => parseR_err hp he
    clear hp
    go_enter Tryz.func21, Tryz.ntmps21
    go_wp2
    exact bodyPost_ret (v := .tuple #[.agg #[.int .i64 0, .slice none 0 0], .int .i64 2, .int .i64 0]) (by simp [results, Tryz.results21, go_sem]) rfl ⟨HPE.out _ _ rfl, (by repeat (first | exact Below.refl _ _ | refine below_put _ ?_ (Nat.le_refl _) | apply bl_alloc))⟩
  · have hz' : ¬ (65536 : Int) < (s.size : Int) := by omega
    have HST := Lib.hid (rp_start w)
    go_enter Tryz.func21, Tryz.ntmps21
    go_wp2
    go_loopw [7, 8] (fun vk vf wr => ∃ (k fr : Nat) (t : Int) (c : List Ins) (v : Value), vk = .int .i64 k ∧ vf = .int .i64 fr ∧ fr ≤ s.size + 1 ∧ Hid (SoFar s.data.toList k fr t c) ∧ Hid (RP w wr t c v)) (fun _ vf _ => s.size + 1 - (intOf vf).toNat)
    case atStart => exact ⟨0, 0, 0, [], .slice none 0 0, rfl, rfl, Nat.zero_le _, .inl ⟨rfl, rfl, rfl, rfl⟩, HST⟩
    case round =>
      obtain ⟨k, fr, t, c, v, rfl, rfl, hfr, HF, HP⟩ := hrel
      have hk : k ≤ 1025 := HF.out.le
      by_cases hlt : fr < s.size
      · have hlt' : (fr : Int) < (s.size : Int) := by omega
        have HER : Hid (∀ x ln : Int, parseP s.data.toList = .error (x, ln) → ∀ w', ParseR w w' s.data.toList (.returned (.tuple #[.agg #[.int .i64 0, .slice none 0 0], .int .i64 x, .int .i64 ln]))) := fun x ln hp w' => parseR_err hp rfl
        have hls : Hid (s.data.toList.length ≤ 65536) := by show _ ≤ _; rw [← HL.out]; omega
        have hll : Hid (fr < s.data.toList.length) := by show _ < _; rw [← HL.out]; exact hlt
        obtain ⟨⟨a0, a1, a2, a3, a4⟩, ⟨b0, b1, b2⟩, ⟨c0, c1, c2, c3, c4⟩⟩ := HP.out.cells
        go_wp2
        go_loop [9] (fun ve => ∃ e : Nat, ve = .int .i64 e ∧ fr ≤ e ∧ e ≤ s.size ∧ Hid (10 ∉ (s.data.toList.drop fr).take (e - fr))) (fun ve => s.size - (intOf ve).toNat)
        case atStart => exact ⟨fr, rfl, Nat.le_refl _, by omega, by show 10 ∉ _; simp⟩
        case round =>
          obtain ⟨e, rfl, hfe, hes, HN⟩ := hrel
          have hsl := sl_part s hfe hes
          by_cases hee : e < s.size
          · have hee' : (e : Int) < (s.size : Int) := by omega
            have hq0 : ((e : Int) == (s.size : Int)) = false := by rw [beq_eq_false_iff_ne]; omega
            have hix := sl_idx s e hee
            obtain ⟨ch, hch⟩ : ∃ ch, ch = s.data.toList.getD e 0 := ⟨_, rfl⟩
            rw [← hch] at hix
            have hc256 : ch.toNat < 256 := ch.toNat_lt
            by_cases h10 : ch = 10
            · have hq : ((ch.toNat : Int) != 10) = false := by rw [h10]; rfl
              have HCUT : Hid (cutB 10 (s.data.toList.drop fr) = ((s.data.toList.drop fr).take (e - fr), s.data.toList.drop (e + 1), true)) := cut_here hfe (by rw [← HL.out]; exact hee) HN.out (by rw [← hch]; exact h10)
              obtain ⟨A, hA⟩ : ∃ A, A = (s.data.toList.drop fr).take (e - fr) := ⟨_, rfl⟩
              rw [← hA] at hsl HCUT
              have HAL : Hid (A.length ≤ 65536) := by
                show _ ≤ _
                rw [hA, List.length_take, List.length_drop]
                have := hls.out
                omega
              clear hA HN hch h10
              by_cases hov : 1025 < k + 1
              · have hov' : (1025 : Int) < (k : Int) + 1 := by omega
                have HE1 := Lib.hid (HER.out _ _ (HF.out.over hov hll.out))
                clear HER HCUT HAL
                go_wp2
                exact bodyPost_ret (v := .tuple #[.agg #[.int .i64 0, .slice none 0 0], .int .i64 50, .int .i64 ((k : Int) + 1)]) (by simp [results, Tryz.results21, go_sem, a0, a1]) rfl ⟨HE1.out _, (by repeat (first | exact HP.out.bl | refine below_put _ ?_ (Nat.le_refl _) | apply bl_alloc))⟩
              · have hov' : ¬ (1025 : Int) < (k : Int) + 1 := by omega
                have HC2 : Hid ((cutB 10 (s.data.toList.drop fr)).2.2 = true ∧ (cutB 10 (s.data.toList.drop fr)).1 = A ∧ (cutB 10 (s.data.toList.drop fr)).2.1 = s.data.toList.drop (e + 1)) := by
                  show _ ∧ _ ∧ _
                  rw [HCUT.out]
                  exact ⟨rfl, rfl, rfl⟩
                clear HCUT
                by_cases hk0 : k = 0
                · subst hk0
                  have HTG := Lib.hid (HF.out.tagged hls.out HC2.out.1)
                  rw [HC2.out.2.1, HC2.out.2.2] at HTG
                  clear HC2
                  by_cases h1 : A = readsB
                  · have HS1 := Lib.hid (HTG.out.1 1 (by rw [h1]; rfl) (e + 1) rfl)
                    have HP1 := Lib.hid (HP.out.tag 1)
                    unfold readsB at h1
                    subst h1
                    clear HTG HER
                    go_wp2
                    exact ⟨⟨1, e + 1, 1, c, v, rfl, by first | rfl | (congr 1), by omega, HS1, HP1⟩, by simp [intOf]; omega⟩
                  · by_cases h2 : A = updatesB
                    · have HS1 := Lib.hid (HTG.out.1 2 (by rw [h2]; rfl) (e + 1) rfl)
                      have HP1 := Lib.hid (HP.out.tag 2)
                      unfold updatesB at h2
                      subst h2
                      clear HTG HER h1
                      go_wp2
                      exact ⟨⟨1, e + 1, 2, c, v, rfl, by first | rfl | (congr 1), by omega, HS1, HP1⟩, by simp [intOf]; omega⟩
                    · have HE1 := Lib.hid (HER.out _ _ (HTG.out.2 (by unfold tagOf; rw [if_neg h1, if_neg h2])))
                      unfold readsB at h1
                      unfold updatesB at h2
                      have h1' : (A == [114, 101, 97, 100, 115]) = false := by rw [beq_eq_false_iff_ne]; exact h1
                      have h2' : (A == [117, 112, 100, 97, 116, 101, 115]) = false := by rw [beq_eq_false_iff_ne]; exact h2
                      clear HTG HER
                      go_wp2
                      exact bodyPost_ret (v := .tuple #[.agg #[.int .i64 0, .slice none 0 0], .int .i64 20, .int .i64 1]) (by simp [results, Tryz.results21, go_sem, a0, a1]) rfl ⟨HE1.out _, (by repeat (first | exact HP.out.bl | refine below_put _ ?_ (Nat.le_refl _) | apply bl_alloc))⟩
                · have hk1 : (((k : Int) + 1) == 1) = false := by rw [beq_eq_false_iff_ne]; omega
                  have HLN := Lib.hid (HF.out.lined hk0 hov hll.out HC2.out.1)
                  rw [HC2.out.2.1, HC2.out.2.2] at HLN
                  have HRD := Lib.hid (fun w' => refReadLine_any ⟨A.toArray⟩ w' (bytes_lit A HAL.out))
                  clear HC2
                  cases hri : readI A with
                  | none =>
                    have HR0 : Hid (∀ w', Calls Tryz.prog 36 #[.string ⟨A.toArray⟩] w' fun e w2 => (∃ (zo zn : Int) (zx : Nat), e = .returned (.tuple #[.agg #[.int .i64 zo, .int .i64 zn, .float .f64 zx], .bool false])) ∧ Below w'.heap.size w' w2) := fun w' => (HRD.out w').mono fun e w2 ⟨h1, h2⟩ => ⟨by
                      unfold ReadE at h1
                      rw [hri] at h1
                      obtain ⟨⟨zo, zn, zx⟩, h1⟩ := h1
                      exact ⟨zo, zn, zx, h1⟩, h2⟩
                    have HE1 := Lib.hid (HER.out _ _ (HLN.out.2 hri))
                    clear HRD HLN HER hri
                    go_wp2_with (first
                      | (go_at_call 36; refine (HR0.out _).mono ?_; rintro e' w4 ⟨⟨zo, zn, zx, rfl⟩, hb⟩; have HP4 := Lib.hid (HP.out.on hb); obtain ⟨⟨a0, a1, a2, a3, a4⟩, ⟨b0, b1, b2⟩, ⟨c0, c1, c2, c3, c4⟩⟩ := HP4.out.cells; clear hb))
                    exact bodyPost_ret (v := .tuple #[.agg #[.int .i64 0, .slice none 0 0], .int .i64 20, .int .i64 ((k : Int) + 1)]) (by simp [results, Tryz.results21, go_sem, a0, a1, a2]) rfl ⟨HE1.out _, (by repeat (first | exact HP4.out.bl | refine below_put _ ?_ (Nat.le_refl _) | apply bl_alloc))⟩
                  | some i =>
                    obtain ⟨zo, zn, zx⟩ := i
                    have HR0 : Hid (∀ w', Calls Tryz.prog 36 #[.string ⟨A.toArray⟩] w' fun e w2 => e = .returned (.tuple #[.agg #[.int .i64 zo, .int .i64 zn, .float .f64 zx], .bool true]) ∧ Below w'.heap.size w' w2) := fun w' => (HRD.out w').mono fun e w2 ⟨h1, h2⟩ => ⟨by
                      unfold ReadE at h1
                      rw [hri] at h1
                      exact h1, h2⟩
                    have HS1 := Lib.hid (HLN.out.1 _ hri (e + 1) rfl)
                    have HGI := Lib.hid (read_line hri).2
                    clear HRD HLN HER hri
                    have hcl : c.length ≤ 1024 := by
                      rcases HF.out with ⟨_, _, _, q⟩ | ⟨_, _, q, _⟩
                      · rw [q]; decide
                      · omega
                    go_wp2_with (first
                      | (at_builtin; have hRow := HP4.out.row; refine wpList_append_lies _ rfl _ _ 22 rfl w.heap.size 42 i0 _ 3 24 Tryz.underlying22 hi0 hz0 hz1 hz2 rfl (by omega) v c.length (c.flatMap insC) rfl (World.ownsRow.alloc (World.ownsRow.alloc hRow _) _) ⟨w4.heap.size + 1, 0, none⟩ 1 1 [.int .i64 zo, .int .i64 zn, .float .f64 zx] rfl rfl (World.news_of_block (cs := #[.int .i64 zo, .int .i64 zn, .float .f64 zx]) (t := 42) (fr := (0, 0)) (box_second w4 _ _)) (by simp [Value.oneCell']) (by omega) (by unfold maxLen; omega) (by omega) (by have := HP4.out.bl.size; simp; omega) (w4.heap.size + 2) (by simp) ?_; intro g cap5 w5 hown5 hgrow5 hat5 hlt5; have hbu := bl_alloc (.cells #[.int .i64 zo, .int .i64 zn, .float .f64 zx] 42) (box5 w4 (.cells #[.int .i64 zo, .int .i64 zn, .float .f64 zx] 42)); have hU := HP4.out.on hbu; have p5 := (hgrow5.block _ (lt_of_block hU.pbox) (fun q => row_ne hU.row hU.pbox (by decide) q.symm)).trans hU.pbox; have d1 : w5.cell? ⟨w.heap.size + 1 + 1, 1, none⟩ = some v := (cells2_of p5).2.1; have d2 : w.heap.size + 1 + 1 < w5.heap.size := (cells2_of p5).2.2; have d3 : w5.frozen? ⟨w.heap.size + 1 + 1, 1, none⟩ = false := frozen_of_row _ _ 1 _ _ p5; have HP5 := Lib.hid (HP4.out.next hbu HGI.out hown5 hgrow5 (hat5.imp id (fun q => q.trans (by simp)))); clear hown5 hgrow5 hat5 hbu hU p5 hRow)
                      | (go_at_call 36; refine (HR0.out _).mono ?_; rintro e' w4 ⟨rfl, hb⟩; have HP4 := Lib.hid (HP.out.on hb); obtain ⟨⟨a0, a1, a2, a3, a4⟩, ⟨b0, b1, b2⟩, ⟨c0, c1, c2, c3, c4⟩⟩ := HP4.out.cells; clear hb))
                    exact ⟨⟨k + 1, e + 1, t, c ++ [⟨zo, zn, zx⟩], .slice (some ⟨g, 0, none⟩) (c.length + 1) cap5, by first | rfl | (congr 1), by first | rfl | (congr 1), by omega, HS1, HP5⟩, by simp [intOf]; omega⟩
            · have hq : ((ch.toNat : Int) != 10) = true := by
                rw [bne_iff_ne]
                intro q
                exact h10 (UInt8.toNat_inj.1 (by show ch.toNat = 10; omega))
              have HN2 : Hid (10 ∉ (s.data.toList.drop fr).take (e + 1 - fr)) := cut_on hfe (by rw [← HL.out]; exact hee) HN.out (by rw [← hch]; exact h10)
              clear HN hch h10 hsl
              go_wp2
              exact ⟨⟨e + 1, by first | rfl | (congr 1), by omega, by omega, HN2⟩, by simp [intOf]; omega⟩
          · have hee' : ¬ (e : Int) < (s.size : Int) := by omega
            have hq0 : ((e : Int) == (s.size : Int)) = true := by rw [beq_iff_eq]; omega
            have HC2 : Hid ((cutB 10 (s.data.toList.drop fr)).2.2 = false) := by
              show _ = false
              rw [cut_none (by rw [← HL.out, show s.size - fr = e - fr by omega]; exact HN.out)]
            generalize (s.data.toList.drop fr).take (e - fr) = A at *
            by_cases hov : 1025 < k + 1
            · have hov' : (1025 : Int) < (k : Int) + 1 := by omega
              have HE1 := Lib.hid (HER.out _ _ (HF.out.over hov hll.out))
              clear HER HC2 HN
              go_wp2
              exact bodyPost_ret (v := .tuple #[.agg #[.int .i64 0, .slice none 0 0], .int .i64 50, .int .i64 ((k : Int) + 1)]) (by simp [results, Tryz.results21, go_sem, a0, a1]) rfl ⟨HE1.out _, (by repeat (first | exact HP.out.bl | refine below_put _ ?_ (Nat.le_refl _) | apply bl_alloc))⟩
            · have hov' : ¬ (1025 : Int) < (k : Int) + 1 := by omega
              have HE1 := Lib.hid (HER.out _ _ (HF.out.noEnd hls.out hov hll.out HC2.out))
              clear HER HC2 HN
              go_wp2
              exact bodyPost_ret (v := .tuple #[.agg #[.int .i64 0, .slice none 0 0], .int .i64 20, .int .i64 ((k : Int) + 1)]) (by simp [results, Tryz.results21, go_sem, a0, a1]) rfl ⟨HE1.out _, (by repeat (first | exact HP.out.bl | refine below_put _ ?_ (Nat.le_refl _) | apply bl_alloc))⟩
      · have hlt' : ¬ (fr : Int) < (s.size : Int) := by omega
        have HER : Hid (∀ x ln : Int, parseP s.data.toList = .error (x, ln) → ∀ w', ParseR w w' s.data.toList (.returned (.tuple #[.agg #[.int .i64 0, .slice none 0 0], .int .i64 x, .int .i64 ln]))) := fun x ln hp w' => parseR_err hp rfl
        have hls : Hid (s.data.toList.length ≤ 65536) := by show _ ≤ _; rw [← HL.out]; omega
        obtain ⟨ao, cap, hv⟩ : ∃ ao cap, v = .slice ao c.length cap := by
          rcases HP.out.row.2 with ⟨hv, q⟩ | ⟨g2, cap2, cur, hv, _⟩
          · exact ⟨none, 0, by rw [hv, q]⟩
          · exact ⟨_, _, hv⟩
        subst hv
        obtain ⟨⟨a0, a1, a2, a3, a4⟩, ⟨b0, b1, b2⟩, ⟨c0, c1, c2, c3, c4⟩⟩ := HP.out.cells
        by_cases hc : c = []
        · subst hc
          have HE1 := Lib.hid (HER.out _ _ (HF.out.bare hls.out (by rw [← HL.out]; omega)))
          clear HER
          go_wp2
          exact bodyPost_ret (v := .tuple #[.agg #[.int .i64 0, .slice none 0 0], .int .i64 20, .int .i64 ((k : Int) + 1)]) (by simp [results, Tryz.results21, go_sem, a0, a1]) rfl ⟨HE1.out _, (by repeat (first | exact HP.out.bl | refine below_put _ ?_ (Nat.le_refl _) | apply bl_alloc))⟩
        · have hcl : ((c.length : Int) == 0) = false := by
            rw [beq_eq_false_iff_ne]
            intro q
            exact hc (List.eq_nil_of_length_eq_zero (by omega))
          have HPL := Lib.hid (HF.out.done hc (by rw [← HL.out]; omega))
          have hcl4 : c.length ≤ 1024 := by
            rcases HF.out with ⟨_, _, _, q⟩ | ⟨_, _, q, _⟩
            · rw [q]; decide
            · omega
          have HCA := Lib.hid HP.out.row.codeAt
          go_wp2
          go_loopw [91] (fun vi wq => ∃ j : Nat, vi = .int .i64 j ∧ j ≤ c.length ∧ Hid (∀ m, m < j → outAt c m = false) ∧ Hid (Below wr.heap.size wr wq)) (fun vi _ => c.length - (intOf vi).toNat)
          case atStart => exact ⟨0, rfl, Nat.zero_le _, fun m hm => absurd hm (Nat.not_lt_zero m), Below.refl _ _⟩
          case round =>
            obtain ⟨j, rfl, hj, HN, HB⟩ := hrel
            have HPQ := Lib.hid (HP.out.on HB.out)
            clear a0 a1 a2 a3 a4 b0 b1 b2 c0 c1 c2 c3 c4
            obtain ⟨⟨a0, a1, a2, a3, a4⟩, ⟨b0, b1, b2⟩, ⟨c0, c1, c2, c3, c4⟩⟩ := HPQ.out.cells
            by_cases hjl : j < c.length
            · have hjl' : (j : Int) < (c.length : Int) := by omega
              obtain ⟨g0, off, hao, hg0, k0, k1, k2⟩ := (HCA.out.on HB.out) j hjl
              subst hao
              have HMB := Lib.hid (fun w' => may_any (ci c j) c.length w' hcl4)
              have hmay : mayB (ci c j) c.length = !outAt c j := (HP.out.good _ (ci_mem hjl)).may c.length
              rw [hmay] at HMB
              clear hmay
              cases hout : outAt c j with
              | true =>
                have HE1 := Lib.hid (HER.out 50 ((j : Int) + 2) (by rw [HPL.out]; unfold placed; rw [findOut_some hjl hout HN.out]))
                rw [hout] at HMB
                generalize ci c j = z at k0 k1 k2 HMB
                obtain ⟨zo, zn, zx⟩ := z
                unfold insV at HMB
                simp only at k0 k1 k2 HMB
                clear hout HER HN
                go_wp2_with (first
                  | (go_at_call 24; refine (HMB.out _).mono ?_; rintro e' w6 ⟨rfl, hb⟩; have hb6 := chain5 (box5 _ _) hb; have HP6 := Lib.hid (HPQ.out.on hb6); obtain ⟨⟨a0, a1, a2, a3, a4⟩, ⟨b0, b1, b2⟩, ⟨c0, c1, c2, c3, c4⟩⟩ := HP6.out.cells; clear hb hb6))
                exact bodyPost_ret (v := .tuple #[.agg #[.int .i64 0, .slice none 0 0], .int .i64 50, .int .i64 ((j : Int) + 2)]) (by simp [results, Tryz.results21, go_sem, a0, a1]) rfl ⟨HE1.out _, (by repeat (first | exact HP6.out.bl | refine below_put _ ?_ (Nat.le_refl _) | apply bl_alloc))⟩
              | false =>
                have HN2 : Hid (∀ m, m < j + 1 → outAt c m = false) := fun m hm => by
                  rcases Nat.lt_succ_iff_lt_or_eq.1 hm with q | rfl
                  · exact HN.out m q
                  · exact hout
                rw [hout] at HMB
                generalize ci c j = z at k0 k1 k2 HMB
                obtain ⟨zo, zn, zx⟩ := z
                unfold insV at HMB
                simp only at k0 k1 k2 HMB
                clear hout HER HN
                go_wp2_with (first
                  | (go_at_call 24; refine (HMB.out _).mono ?_; rintro e' w6 ⟨rfl, hb⟩; have HB6 := Lib.hid (chain5 HB.out (chain5 (box5 _ _) hb)); clear hb))
                exact ⟨⟨j + 1, by first | rfl | (congr 1), by omega, HN2, HB6⟩, by simp [intOf]; omega⟩
            · have hjl' : ¬ (j : Int) < (c.length : Int) := by omega
              have HOK : Hid (∀ w', CodeRow w.heap.size w' (.slice ao c.length cap) c → ParseR w w' s.data.toList (.returned (.tuple #[.agg #[.int .i64 t, .slice ao c.length cap], .int .i64 0, .int .i64 0]))) := fun w' hr => by
                unfold ParseR
                have hq : parseP s.data.toList = .ok (t, c) := by
                  rw [HPL.out]
                  unfold placed
                  rw [findOut_none.2 (fun m hm => HN.out m (by omega))]
                rw [hq]
                exact ⟨ao, cap, rfl, hr⟩
              have HRW := Lib.hid (row_put (o := 1) (x := .slice ao c.length cap) (row_put (o := 0) (x := .int .i64 t) HPQ.out.row (row_ne HPQ.out.row HPQ.out.rbox (by decide))) (row_ne HPQ.out.row HPQ.out.rbox (by decide)))
              clear HER HN HPL
              go_wp2
              exact bodyPost_ret (v := .tuple #[.agg #[.int .i64 t, .slice ao c.length cap], .int .i64 0, .int .i64 0]) (by simp [results, Tryz.results21, go_sem, a0, a1]) rfl ⟨HOK.out _ HRW.out, (by repeat (first | exact HPQ.out.bl | refine below_put _ ?_ (Nat.le_refl _) | apply bl_alloc))⟩
end Go.Proofs.YtlnobfmbnnfbdaaGreatDoor
