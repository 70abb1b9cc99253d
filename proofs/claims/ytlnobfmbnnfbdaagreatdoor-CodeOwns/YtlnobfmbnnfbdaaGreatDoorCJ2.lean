import Derived.Test.YtlnobfmbnnfbdaaGreatDoorCI2
import Derived.Test.YtlnobfmbnnfbdaaGreatDoorCP3
import Derived.Deep.AppendLies
namespace Go.Proofs.YtlnobfmbnnfbdaaGreatDoor
open Go.ChangeShapes Go.WideShapes Go.ChangeAt Go.RowKit Num

theorem pf_over {r : List UInt8} {c : List Ins} (h : r ≠ []) : instrsF 0 r c = .error (50, 1026) := by
  unfold instrsF
  rw [if_neg (fun q => h q.1)]
theorem pf_end {m : Nat} {r : List UInt8} {c : List Ins} (h : ¬ (r = [] ∧ c ≠ [])) (hc : (cutB 10 r).2.2 = false) : instrsF (m + 1) r c = .error (20, 1025 - m) := by
  unfold instrsF
  rw [if_neg h, if_pos hc]
theorem pf_bad {m : Nat} {r : List UInt8} {c : List Ins} (h : r ≠ []) (hc : (cutB 10 r).2.2 = true) (hr : readI (cutB 10 r).1 = none) : instrsF (m + 1) r c = .error (20, 1025 - m) := by
  unfold instrsF
  rw [if_neg (fun q => h q.1), if_neg (by rw [hc]; decide), hr]
theorem pf_got {m : Nat} {r : List UInt8} {c : List Ins} {i : Ins} (h : r ≠ []) (hc : (cutB 10 r).2.2 = true) (hr : readI (cutB 10 r).1 = some i) : instrsF (m + 1) r c = instrsF m (cutB 10 r).2.1 (c ++ [i]) := by
  conv => lhs; unfold instrsF
  rw [if_neg (fun q => h q.1), if_neg (by rw [hc]; decide), hr]
theorem pf_done {m : Nat} {c : List Ins} (h : c ≠ []) : instrsF m [] c = .ok c := by
  cases m <;> (unfold instrsF; rw [if_pos ⟨rfl, h⟩])
theorem cut_here {l : List UInt8} {fr e : Nat} (hfe : fr ≤ e) (he : e < l.length) (hn : 10 ∉ (l.drop fr).take (e - fr)) (hc : l.getD e 0 = 10) : cutB 10 (l.drop fr) = ((l.drop fr).take (e - fr), l.drop (e + 1), true) := by
  have h1 : e - fr < (l.drop fr).length := by rw [List.length_drop]; omega
  have h2 : (l.drop fr).getD (e - fr) 0 = 10 := by
    rw [← hc]
    simp only [List.getD_eq_getElem?_getD, List.getElem?_drop]
    congr 2
    omega
  have h3 := split_at (l.drop fr) h1 h2
  have h4 : (l.drop fr).drop (e - fr + 1) = l.drop (e + 1) := by rw [List.drop_drop]; congr 1; omega
  rw [h4] at h3
  conv => lhs; rw [h3]
  exact cutB_mk 10 _ _ hn
theorem cut_none {l : List UInt8} {fr : Nat} (hn : 10 ∉ (l.drop fr).take (l.length - fr)) : cutB 10 (l.drop fr) = (l.drop fr, [], false) := by
  rw [List.take_of_length_le (by rw [List.length_drop]; omega)] at hn
  exact cutB_mk0 10 _ hn
theorem cut_on {l : List UInt8} {fr e : Nat} (hfe : fr ≤ e) (he : e < l.length) (hn : 10 ∉ (l.drop fr).take (e - fr)) (hc : l.getD e 0 ≠ 10) : 10 ∉ (l.drop fr).take (e + 1 - fr) := by
  rw [show e + 1 - fr = e - fr + 1 by omega]
  refine take_succ_not (by rw [List.length_drop]; omega) hn ?_
  simp only [List.getD_eq_getElem?_getD, List.getElem?_drop] at hc ⊢
  rw [show fr + (e - fr) = e by omega]
  exact hc
theorem drop_some {l : List UInt8} {fr : Nat} (h : fr < l.length) : l.drop fr ≠ [] := fun q => by
  have := congrArg List.length q
  rw [List.length_drop] at this
  simp at this
  omega
/-- how far reading has come: k lines, up to the place fr -/
def SoFar (l : List UInt8) (k fr : Nat) (t : Int) (c : List Ins) : Prop := (k = 0 ∧ fr = 0 ∧ t = 0 ∧ c = []) ∨ (1 ≤ k ∧ k ≤ 1025 ∧ c.length + 1 = k ∧ parseP l = ended t (instrsF (1025 - k) (l.drop fr) c))
section
variable {l : List UInt8} {k fr e : Nat} {t : Int} {c : List Ins}
theorem SoFar.le (h : SoFar l k fr t c) : k ≤ 1025 := by rcases h with ⟨h, _⟩ | ⟨_, h, _⟩ <;> omega
theorem SoFar.over (h : SoFar l k fr t c) (hk : 1025 < k + 1) (hf : fr < l.length) : parseP l = .error (50, (k : Int) + 1) := by
  rcases h with ⟨h1, _⟩ | ⟨h1, h2, h3, h4⟩
  · omega
  · rw [h4, show 1025 - k = 0 by omega, pf_over (drop_some hf)]
    show Except.error ((50 : Int), (1026 : Int)) = _
    rw [show (k : Int) + 1 = 1026 by omega]
theorem SoFar.noEnd (h : SoFar l k fr t c) (hl : l.length ≤ 65536) (hk : ¬ 1025 < k + 1) (hf : fr < l.length) (hc : (cutB 10 (l.drop fr)).2.2 = false) : parseP l = .error (20, (k : Int) + 1) := by
  rcases h with ⟨h1, h2, h3, h4⟩ | ⟨h1, h2, h3, h4⟩
  · subst h1 h2
    unfold parseP
    rw [if_neg (by omega)]
    rw [List.drop_zero] at hc
    rw [if_pos hc]
    rfl
  · obtain ⟨m, hm⟩ : ∃ m, 1025 - k = m + 1 := ⟨1024 - k, by omega⟩
    rw [h4, hm, pf_end (fun q => drop_some hf q.1) hc]
    show Except.error ((20 : Int), (1025 : Int) - m) = _
    rw [show (1025 : Int) - m = (k : Int) + 1 by omega]
theorem SoFar.tagged (h : SoFar l 0 fr t c) (hl : l.length ≤ 65536) (hc : (cutB 10 (l.drop fr)).2.2 = true) : (∀ t', tagOf (cutB 10 (l.drop fr)).1 = some t' → ∀ fr', (cutB 10 (l.drop fr)).2.1 = l.drop fr' → SoFar l 1 fr' t' c) ∧ (tagOf (cutB 10 (l.drop fr)).1 = none → parseP l = .error (20, 1)) := by
  rcases h with ⟨_, h2, h3, h4⟩ | ⟨h1, _⟩
  · subst h2 h4
    rw [List.drop_zero] at hc ⊢
    refine ⟨fun t' ht fr' hfr => .inr ⟨by decide, by decide, rfl, ?_⟩, fun ht => ?_⟩
    · unfold parseP
      rw [if_neg (by omega), if_neg (by rw [hc]; decide), ht, hfr]
    · unfold parseP
      rw [if_neg (by omega), if_neg (by rw [hc]; decide), ht]
  · omega
theorem SoFar.lined (h : SoFar l k fr t c) (hk0 : k ≠ 0) (hk : ¬ 1025 < k + 1) (hf : fr < l.length) (hc : (cutB 10 (l.drop fr)).2.2 = true) : (∀ i, readI (cutB 10 (l.drop fr)).1 = some i → ∀ fr', (cutB 10 (l.drop fr)).2.1 = l.drop fr' → SoFar l (k + 1) fr' t (c ++ [i])) ∧ (readI (cutB 10 (l.drop fr)).1 = none → parseP l = .error (20, (k : Int) + 1)) := by
  rcases h with ⟨h1, _⟩ | ⟨h1, h2, h3, h4⟩
  · exact absurd h1 hk0
  · obtain ⟨m, hm⟩ : ∃ m, 1025 - k = m + 1 := ⟨1024 - k, by omega⟩
    refine ⟨fun i hi fr' hfr => .inr ⟨by omega, by omega, by simp; omega, ?_⟩, fun hi => ?_⟩
    · rw [h4, hm, pf_got (drop_some hf) hc hi, hfr, show 1025 - (k + 1) = m by omega]
    · rw [h4, hm, pf_bad (drop_some hf) hc hi]
      show Except.error ((20 : Int), (1025 : Int) - m) = _
      rw [show (1025 : Int) - m = (k : Int) + 1 by omega]
theorem SoFar.bare (h : SoFar l k fr t []) (hl : l.length ≤ 65536) (hf : l.length ≤ fr) : parseP l = .error (20, (k : Int) + 1) := by
  rcases h with ⟨h1, h2, _⟩ | ⟨h1, h2, h3, h4⟩
  · subst h1 h2
    have : l = [] := List.eq_nil_of_length_eq_zero (by omega)
    subst this
    rfl
  · have hk : k = 1 := by simpa using h3.symm
    subst hk
    rw [h4, List.drop_eq_nil_of_le hf]
    rfl
theorem SoFar.done (h : SoFar l k fr t c) (hc : c ≠ []) (hf : l.length ≤ fr) : parseP l = placed t c := by
  rcases h with ⟨_, _, _, h4⟩ | ⟨h1, h2, h3, h4⟩
  · exact absurd h4 hc
  · rw [h4, List.drop_eq_nil_of_le hf, pf_done hc]
    rfl
end
theorem parse_over {l : List UInt8} (h : 65536 < l.length) : parseP l = .error (2, 0) := by
  unfold parseP
  rw [if_pos h]
/-- Parse's boxes -/
def PBox (w : World) (b : Nat) (t : Int) (v : Value) : Prop := w.heap[b]? = some (.cells #[.int .i64 t, v] 24 (0, 0))
theorem PBox.on {w w' : World} {b : Nat} {t : Int} {v : Value} (h : PBox w b t v) (hb : Below w.heap.size w w') : PBox w' b t v := (hb.block b (lt_of_block h)).trans h
/-- what the loop keeps -/
structure RP (w wr : World) (t : Int) (c : List Ins) (v : Value) : Prop where
  rbox : PBox wr w.heap.size 0 (.slice none 0 0)
  nbox : PBox wr (w.heap.size + 1) 0 (.slice none 0 0)
  pbox : PBox wr (w.heap.size + 2) t v
  row : CodeRow w.heap.size wr v c
  bl : Below w.heap.size w wr
  good : ∀ i ∈ c, Good i
section
variable {w wr wr' : World} {t : Int} {c : List Ins} {v : Value}
theorem RP.on (h : RP w wr t c v) (hb : Below wr.heap.size wr wr') : RP w wr' t c v :=
  ⟨h.rbox.on hb, h.nbox.on hb, h.pbox.on hb, ownsOn h.row hb, chain5 h.bl hb, h.good⟩
theorem RP.tag (h : RP w wr t c v) (t' : Int) : RP w (wr.setCell ⟨w.heap.size + 2, 0, none⟩ (.int .i64 t')) t' c v :=
  ⟨(heap_setCell_other _ _ _ _ (by simp)).trans h.rbox, (heap_setCell_other _ _ _ _ (by simp)).trans h.nbox, (heap_setCell_same wr (w.heap.size + 2) 0 _ _ _ h.pbox).trans rfl, row_put h.row (row_ne h.row h.pbox (by decide)), below_put _ h.bl (by omega), h.good⟩
/-- behind an append and the store -/
theorem RP.next {u w5 : World} {g cap : Nat} {i : Ins} (h : RP w wr t c v) (hb : Below wr.heap.size wr u) (hi : Good i)
    (hown : w5.ownsRow w.heap.size 42 3 (.slice (some ⟨g, 0, none⟩) (c.length + 1) cap) (c.length + 1) (c.flatMap insC ++ insC i)) (hg : u.grownBy w5 v.ownBlock) (hat : v.ownBlock = some g ∨ g = u.heap.size) :
    RP w (w5.setCell ⟨w.heap.size + 2, 1, none⟩ (.slice (some ⟨g, 0, none⟩) (c.length + 1) cap)) t (c ++ [i]) (.slice (some ⟨g, 0, none⟩) (c.length + 1) cap) := by
  have h1 := h.on hb
  have nr := row_ne h1.row h1.rbox (by decide)
  have nn := row_ne h1.row h1.nbox (by decide)
  have np := row_ne h1.row h1.pbox (by decide)
  have k5 : ∀ j, j < u.heap.size → v.ownBlock ≠ some j → w5.heap[j]? = u.heap[j]? := fun j hj hn => hg.block j hj (fun q => hn q.symm)
  have r5 := (k5 _ (lt_of_block h1.rbox) nr).trans h1.rbox
  have n5 := (k5 _ (lt_of_block h1.nbox) nn).trans h1.nbox
  have p5 := (k5 _ (lt_of_block h1.pbox) np).trans h1.pbox
  have gp : g ≠ w.heap.size + 2 := by
    rcases hat with q | q
    · rintro rfl; exact np q
    · have := lt_of_block h1.pbox; omega
  have e1 : (c ++ [i]).length = c.length + 1 := by simp
  have e2 : (c ++ [i]).flatMap insC = c.flatMap insC ++ insC i := by simp
  have row5 : CodeRow w.heap.size w5 (.slice (some ⟨g, 0, none⟩) (c.length + 1) cap) (c ++ [i]) := by
    unfold CodeRow
    rw [e1, e2]
    exact hown
  have bl5 : Below w.heap.size w w5 := ⟨hg.os.trans h1.bl.os, hg.tape.trans h1.bl.tape, hg.output.trans h1.bl.output, Nat.le_trans h1.bl.size hg.size, fun j hj => (k5 j (Nat.lt_of_lt_of_le hj h1.bl.size) (fun q => by have := (h1.row.lt j q).1; omega)).trans (h1.bl.block j hj)⟩
  refine ⟨(heap_setCell_other _ _ _ _ (by simp)).trans r5, (heap_setCell_other _ _ _ _ (by simp)).trans n5, (heap_setCell_same w5 (w.heap.size + 2) 1 _ _ _ p5).trans rfl, row_put row5 (by simpa [Value.ownBlock] using gp), below_put _ bl5 (by omega), fun j hj => ?_⟩
  rcases List.mem_append.1 hj with q | q
  · exact h.good j q
  · rw [List.mem_singleton] at q
    subst q
    exact hi
end
end Go.Proofs.YtlnobfmbnnfbdaaGreatDoor
namespace Go.Proofs.YtlnobfmbnnfbdaaGreatDoor
open Go.ChangeShapes Go.WideShapes Go.ChangeAt Go.RowKit Num
attribute [local go_sem] run_store_float

theorem RP.cells {w wr : World} {t : Int} {c : List Ins} {v : Value} (h : RP w wr t c v) : (wr.cell? ⟨w.heap.size, 0, none⟩ = some (.int .i64 0) ∧ wr.cell? ⟨w.heap.size, 1, none⟩ = some (.slice none 0 0) ∧ w.heap.size < wr.heap.size ∧ wr.frozen? ⟨w.heap.size, 0, none⟩ = false ∧ wr.frozen? ⟨w.heap.size, 1, none⟩ = false) ∧
    (wr.cell? ⟨w.heap.size + 1, 0, none⟩ = some (.int .i64 0) ∧ wr.cell? ⟨w.heap.size + 1, 1, none⟩ = some (.slice none 0 0) ∧ w.heap.size + 1 < wr.heap.size) ∧
    (wr.cell? ⟨w.heap.size + 1 + 1, 0, none⟩ = some (.int .i64 t) ∧ wr.cell? ⟨w.heap.size + 1 + 1, 1, none⟩ = some v ∧ w.heap.size + 1 + 1 < wr.heap.size ∧ wr.frozen? ⟨w.heap.size + 1 + 1, 0, none⟩ = false ∧ wr.frozen? ⟨w.heap.size + 1 + 1, 1, none⟩ = false) := by
  obtain ⟨a0, a1, a2⟩ := cells2_of h.rbox
  obtain ⟨b0, b1, b2⟩ := cells2_of h.nbox
  obtain ⟨c0, c1, c2⟩ := cells2_of h.pbox
  exact ⟨⟨a0, a1, a2, frozen_of_row _ _ 0 _ _ h.rbox, frozen_of_row _ _ 1 _ _ h.rbox⟩, ⟨b0, b1, b2⟩, ⟨c0, c1, c2, frozen_of_row _ _ 0 _ _ h.pbox, frozen_of_row _ _ 1 _ _ h.pbox⟩⟩
theorem bytes_lit (l : List UInt8) (h : l.length ≤ 65536) : (⟨l.toArray⟩ : ByteArray).size ≤ 65536 := by
  rw [size_list]
  simpa using h
theorem box_second (w : World) (X Y : Obj) : ((w.alloc X).alloc Y).heap[w.heap.size + 1]? = some Y := by
  have e := heap_alloc_new (w.alloc X) Y
  have hz : (w.alloc X).heap.size = w.heap.size + 1 := by simp
  rw [hz] at e
  exact e
theorem rp_start (w : World) : RP w (((w.alloc (.cells #[.int .i64 0, .slice none 0 0] 24)).alloc (.cells #[.int .i64 0, .slice none 0 0] 24)).alloc (.cells #[.int .i64 0, .slice none 0 0] 24)) 0 [] (.slice none 0 0) := by
  have e0 := heap_alloc_new w (.cells #[.int .i64 0, .slice none 0 0] 24)
  have e1 := heap_alloc_new (w.alloc (.cells #[.int .i64 0, .slice none 0 0] 24)) (.cells #[.int .i64 0, .slice none 0 0] 24)
  have e2 := heap_alloc_new ((w.alloc (.cells #[.int .i64 0, .slice none 0 0] 24)).alloc (.cells #[.int .i64 0, .slice none 0 0] 24)) (.cells #[.int .i64 0, .slice none 0 0] 24)
  have z1 : (w.alloc (.cells #[.int .i64 0, .slice none 0 0] 24)).heap.size = w.heap.size + 1 := by simp
  have z2 : ((w.alloc (.cells #[.int .i64 0, .slice none 0 0] 24)).alloc (.cells #[.int .i64 0, .slice none 0 0] 24)).heap.size = w.heap.size + 2 := by simp
  rw [z1] at e1
  rw [z2] at e2
  refine ⟨?_, ?_, e2, row_nil _ _, bl_alloc _ (bl_alloc _ (box5 _ _)), fun _ h => (by cases h)⟩
  · unfold PBox
    rw [heap_alloc_old _ _ (by simp; omega), heap_alloc_old _ _ (by simp)]
    exact e0
  · unfold PBox
    rw [heap_alloc_old _ _ (by simp)]
    exact e1
set_option maxHeartbeats 4000000 in
set_option maxRecDepth 100000 in
theorem refParse5_any (s : ByteArray) (w : World) : Calls Tryz.prog 21 #[.string s] w fun e w' => ParseR w w' s.data.toList e ∧ Below w.heap.size w w' := by
  have HL := Lib.hid (size_list s)
  obtain ⟨i0, hi0, hz0, hz1, hz2⟩ := info_parts instrInfo
  by_cases hsz : 65536 < s.size
  · have hp := parse_over (l := s.data.toList) (by rw [← size_list]; exact hsz)
    have hz' : (65536 : Int) < (s.size : Int) := by omega
    have HPE : Hid (∀ w' e, e = .returned (.tuple #[.agg #[.int .i64 0, .slice none 0 0], .int .i64 2, .int .i64 0]) → ParseR w w' s.data.toList e) := fun w' e he => parseR_err hp he
    clear hp
    go_enter Tryz.func21, Tryz.ntmps21
    go_wp2
    exact bodyPost_ret (v := .tuple #[.agg #[.int .i64 0, .slice none 0 0], .int .i64 2, .int .i64 0]) (by simp [results, Tryz.results21, go_sem]) rfl ⟨HPE.out _ _ rfl, (by repeat (first | exact Below.refl _ _ | refine below_put _ ?_ (Nat.le_refl _) | apply bl_alloc))⟩
  · have hz' : ¬ (65536 : Int) < (s.size : Int) := by omega
    have HST := Lib.hid (rp_start w)
    go_enter Tryz.func21, Tryz.ntmps21
    go_wp2
    go_loopw [7, 8] (fun vk vf wr => ∃ (k fr : Nat) (t : Int) (c : List Ins) (v : Value), vk = .int .i64 k ∧ vf = .int .i64 fr ∧ fr ≤ s.size + 1 ∧ Hid (SoFar s.data.toList k fr t c) ∧ Hid (RP w wr t c v)) (fun _ vf _ => s.size + 1 - (intOf vf).toNat)
    case atStart => exact ⟨0, 0, 0, [], .slice none 0 0, rfl, rfl, Nat.zero_le _, .inl ⟨rfl, rfl, rfl, rfl⟩, HST⟩
    case round =>
      obtain ⟨k, fr, t, c, v, rfl, rfl, hfr, HF, HP⟩ := hrel
      have hk : k ≤ 1025 := HF.out.le
      by_cases hlt : fr < s.size
      · have hlt' : (fr : Int) < (s.size : Int) := by omega
        have HER : Hid (∀ x ln : Int, parseP s.data.toList = .error (x, ln) → ∀ w', ParseR w w' s.data.toList (.returned (.tuple #[.agg #[.int .i64 0, .slice none 0 0], .int .i64 x, .int .i64 ln]))) := fun x ln hp w' => parseR_err hp rfl
        have hls : Hid (s.data.toList.length ≤ 65536) := by show _ ≤ _; rw [← HL.out]; omega
        have hll : Hid (fr < s.data.toList.length) := by show _ < _; rw [← HL.out]; exact hlt
        obtain ⟨⟨a0, a1, a2, a3, a4⟩, ⟨b0, b1, b2⟩, ⟨c0, c1, c2, c3, c4⟩⟩ := HP.out.cells
        go_wp2
        go_loop [9] (fun ve => ∃ e : Nat, ve = .int .i64 e ∧ fr ≤ e ∧ e ≤ s.size ∧ Hid (10 ∉ (s.data.toList.drop fr).take (e - fr))) (fun ve => s.size - (intOf ve).toNat)
        case atStart => exact ⟨fr, rfl, Nat.le_refl _, by omega, by show 10 ∉ _; simp⟩
        case round =>
          obtain ⟨e, rfl, hfe, hes, HN⟩ := hrel
          have hsl := sl_part s hfe hes
          by_cases hee : e < s.size
          · have hee' : (e : Int) < (s.size : Int) := by omega
            have hq0 : ((e : Int) == (s.size : Int)) = false := by rw [beq_eq_false_iff_ne]; omega
            have hix := sl_idx s e hee
            obtain ⟨ch, hch⟩ : ∃ ch, ch = s.data.toList.getD e 0 := ⟨_, rfl⟩
            rw [← hch] at hix
            have hc256 : ch.toNat < 256 := ch.toNat_lt
            by_cases h10 : ch = 10
            · have hq : ((ch.toNat : Int) != 10) = false := by rw [h10]; rfl
              have HCUT : Hid (cutB 10 (s.data.toList.drop fr) = ((s.data.toList.drop fr).take (e - fr), s.data.toList.drop (e + 1), true)) := cut_here hfe (by rw [← HL.out]; exact hee) HN.out (by rw [← hch]; exact h10)
              obtain ⟨A, hA⟩ : ∃ A, A = (s.data.toList.drop fr).take (e - fr) := ⟨_, rfl⟩
              rw [← hA] at hsl HCUT
              have HAL : Hid (A.length ≤ 65536) := by
                show _ ≤ _
                rw [hA, List.length_take, List.length_drop]
                have := hls.out
                omega
              clear hA HN hch h10
              by_cases hov : 1025 < k + 1
              · have hov' : (1025 : Int) < (k : Int) + 1 := by omega
                have HE1 := Lib.hid (HER.out _ _ (HF.out.over hov hll.out))
                clear HER HCUT HAL
                go_wp2
                exact bodyPost_ret (v := .tuple #[.agg #[.int .i64 0, .slice none 0 0], .int .i64 50, .int .i64 ((k : Int) + 1)]) (by simp [results, Tryz.results21, go_sem, a0, a1]) rfl ⟨HE1.out _, (by repeat (first | exact HP.out.bl | refine below_put _ ?_ (Nat.le_refl _) | apply bl_alloc))⟩
              · have hov' : ¬ (1025 : Int) < (k : Int) + 1 := by omega
                have HC2 : Hid ((cutB 10 (s.data.toList.drop fr)).2.2 = true ∧ (cutB 10 (s.data.toList.drop fr)).1 = A ∧ (cutB 10 (s.data.toList.drop fr)).2.1 = s.data.toList.drop (e + 1)) := by
                  show _ ∧ _ ∧ _
                  rw [HCUT.out]
                  exact ⟨rfl, rfl, rfl⟩
                clear HCUT
                by_cases hk0 : k = 0
                · subst hk0
                  have HTG := Lib.hid (HF.out.tagged hls.out HC2.out.1)
                  rw [HC2.out.2.1, HC2.out.2.2] at HTG
                  clear HC2
                  by_cases h1 : A = readsB
                  · have HS1 := Lib.hid (HTG.out.1 1 (by rw [h1]; rfl) (e + 1) rfl)
                    have HP1 := Lib.hid (HP.out.tag 1)
                    unfold readsB at h1
                    subst h1
                    clear HTG HER
                    go_wp2
                    exact ⟨⟨1, e + 1, 1, c, v, rfl, by first | rfl | (congr 1), by omega, HS1, HP1⟩, by simp [intOf]; omega⟩
                  · by_cases h2 : A = updatesB
                    · have HS1 := Lib.hid (HTG.out.1 2 (by rw [h2]; rfl) (e + 1) rfl)
                      have HP1 := Lib.hid (HP.out.tag 2)
                      unfold updatesB at h2
                      subst h2
                      clear HTG HER h1
                      go_wp2
                      exact ⟨⟨1, e + 1, 2, c, v, rfl, by first | rfl | (congr 1), by omega, HS1, HP1⟩, by simp [intOf]; omega⟩
                    · have HE1 := Lib.hid (HER.out _ _ (HTG.out.2 (by unfold tagOf; rw [if_neg h1, if_neg h2])))
                      unfold readsB at h1
                      unfold updatesB at h2
                      have h1' : (A == [114, 101, 97, 100, 115]) = false := by rw [beq_eq_false_iff_ne]; exact h1
                      have h2' : (A == [117, 112, 100, 97, 116, 101, 115]) = false := by rw [beq_eq_false_iff_ne]; exact h2
                      clear HTG HER
                      go_wp2
                      exact bodyPost_ret (v := .tuple #[.agg #[.int .i64 0, .slice none 0 0], .int .i64 20, .int .i64 1]) (by simp [results, Tryz.results21, go_sem, a0, a1]) rfl ⟨HE1.out _, (by repeat (first | exact HP.out.bl | refine below_put _ ?_ (Nat.le_refl _) | apply bl_alloc))⟩
                · have hk1 : (((k : Int) + 1) == 1) = false := by rw [beq_eq_false_iff_ne]; omega
                  have HLN := Lib.hid (HF.out.lined hk0 hov hll.out HC2.out.1)
                  rw [HC2.out.2.1, HC2.out.2.2] at HLN
                  have HRD := Lib.hid (fun w' => refReadLine_any ⟨A.toArray⟩ w' (bytes_lit A HAL.out))
                  clear HC2
                  cases hri : readI A with
                  | none =>
                    have HR0 : Hid (∀ w', Calls Tryz.prog 36 #[.string ⟨A.toArray⟩] w' fun e w2 => (∃ (zo zn : Int) (zx : Nat), e = .returned (.tuple #[.agg #[.int .i64 zo, .int .i64 zn, .float .f64 zx], .bool false])) ∧ Below w'.heap.size w' w2) := fun w' => (HRD.out w').mono fun e w2 ⟨h1, h2⟩ => ⟨by
                      unfold ReadE at h1
                      rw [hri] at h1
                      obtain ⟨⟨zo, zn, zx⟩, h1⟩ := h1
                      exact ⟨zo, zn, zx, h1⟩, h2⟩
                    have HE1 := Lib.hid (HER.out _ _ (HLN.out.2 hri))
                    clear HRD HLN HER hri
                    go_wp2_with (first
                      | (go_at_call 36; refine (HR0.out _).mono ?_; rintro e' w4 ⟨⟨zo, zn, zx, rfl⟩, hb⟩; have HP4 := Lib.hid (HP.out.on hb); obtain ⟨⟨a0, a1, a2, a3, a4⟩, ⟨b0, b1, b2⟩, ⟨c0, c1, c2, c3, c4⟩⟩ := HP4.out.cells; clear hb))
                    exact bodyPost_ret (v := .tuple #[.agg #[.int .i64 0, .slice none 0 0], .int .i64 20, .int .i64 ((k : Int) + 1)]) (by simp [results, Tryz.results21, go_sem, a0, a1, a2]) rfl ⟨HE1.out _, (by repeat (first | exact HP4.out.bl | refine below_put _ ?_ (Nat.le_refl _) | apply bl_alloc))⟩
                  | some i =>
                    obtain ⟨zo, zn, zx⟩ := i
                    have HR0 : Hid (∀ w', Calls Tryz.prog 36 #[.string ⟨A.toArray⟩] w' fun e w2 => e = .returned (.tuple #[.agg #[.int .i64 zo, .int .i64 zn, .float .f64 zx], .bool true]) ∧ Below w'.heap.size w' w2) := fun w' => (HRD.out w').mono fun e w2 ⟨h1, h2⟩ => ⟨by
                      unfold ReadE at h1
                      rw [hri] at h1
                      exact h1, h2⟩
                    have HS1 := Lib.hid (HLN.out.1 _ hri (e + 1) rfl)
                    have HGI := Lib.hid (read_line hri).2
                    clear HRD HLN HER hri
                    have hcl : c.length ≤ 1024 := by
                      rcases HF.out with ⟨_, _, _, q⟩ | ⟨_, _, q, _⟩
                      · rw [q]; decide
                      · omega
                    go_wp2_with (first
                      | (at_builtin; have hRow := HP4.out.row; refine wpList_append_lies _ rfl _ _ 22 rfl w.heap.size 42 i0 _ 3 24 Tryz.underlying22 hi0 hz0 hz1 hz2 rfl (by omega) v c.length (c.flatMap insC) rfl (World.ownsRow.alloc (World.ownsRow.alloc hRow _) _) ⟨w4.heap.size + 1, 0, none⟩ 1 1 [.int .i64 zo, .int .i64 zn, .float .f64 zx] rfl rfl (World.news_of_block (cs := #[.int .i64 zo, .int .i64 zn, .float .f64 zx]) (t := 42) (fr := (0, 0)) (box_second w4 _ _)) (by simp [Value.oneCell']) (by omega) (by unfold maxLen; omega) (by omega) (by have := HP4.out.bl.size; simp; omega) (w4.heap.size + 2) (by simp) ?_; intro g cap5 w5 hown5 hgrow5 hat5 hlt5; have hbu := bl_alloc (.cells #[.int .i64 zo, .int .i64 zn, .float .f64 zx] 42) (box5 w4 (.cells #[.int .i64 zo, .int .i64 zn, .float .f64 zx] 42)); have hU := HP4.out.on hbu; have p5 := (hgrow5.block _ (lt_of_block hU.pbox) (fun q => row_ne hU.row hU.pbox (by decide) q.symm)).trans hU.pbox; have d1 : w5.cell? ⟨w.heap.size + 1 + 1, 1, none⟩ = some v := (cells2_of p5).2.1; have d2 : w.heap.size + 1 + 1 < w5.heap.size := (cells2_of p5).2.2; have d3 : w5.frozen? ⟨w.heap.size + 1 + 1, 1, none⟩ = false := frozen_of_row _ _ 1 _ _ p5; have HP5 := Lib.hid (HP4.out.next hbu HGI.out hown5 hgrow5 (hat5.imp id (fun q => q.trans (by simp)))); clear hown5 hgrow5 hat5 hbu hU p5 hRow)
                      | (go_at_call 36; refine (HR0.out _).mono ?_; rintro e' w4 ⟨rfl, hb⟩; have HP4 := Lib.hid (HP.out.on hb); obtain ⟨⟨a0, a1, a2, a3, a4⟩, ⟨b0, b1, b2⟩, ⟨c0, c1, c2, c3, c4⟩⟩ := HP4.out.cells; clear hb))
                    exact ⟨⟨k + 1, e + 1, t, c ++ [⟨zo, zn, zx⟩], .slice (some ⟨g, 0, none⟩) (c.length + 1) cap5, by first | rfl | (congr 1), by first | rfl | (congr 1), by omega, HS1, HP5⟩, by simp [intOf]; omega⟩
            · have hq : ((ch.toNat : Int) != 10) = true := by
                rw [bne_iff_ne]
                intro q
                exact h10 (UInt8.toNat_inj.1 (by show ch.toNat = 10; omega))
              have HN2 : Hid (10 ∉ (s.data.toList.drop fr).take (e + 1 - fr)) := cut_on hfe (by rw [← HL.out]; exact hee) HN.out (by rw [← hch]; exact h10)
              clear HN hch h10 hsl
              go_wp2
              exact ⟨⟨e + 1, by first | rfl | (congr 1), by omega, by omega, HN2⟩, by simp [intOf]; omega⟩
          · have hee' : ¬ (e : Int) < (s.size : Int) := by omega
            have hq0 : ((e : Int) == (s.size : Int)) = true := by rw [beq_iff_eq]; omega
            have HC2 : Hid ((cutB 10 (s.data.toList.drop fr)).2.2 = false) := by
              show _ = false
              rw [cut_none (by rw [← HL.out, show s.size - fr = e - fr by omega]; exact HN.out)]
            generalize (s.data.toList.drop fr).take (e - fr) = A at *
            by_cases hov : 1025 < k + 1
            · have hov' : (1025 : Int) < (k : Int) + 1 := by omega
              have HE1 := Lib.hid (HER.out _ _ (HF.out.over hov hll.out))
              clear HER HC2 HN
              go_wp2
              exact bodyPost_ret (v := .tuple #[.agg #[.int .i64 0, .slice none 0 0], .int .i64 50, .int .i64 ((k : Int) + 1)]) (by simp [results, Tryz.results21, go_sem, a0, a1]) rfl ⟨HE1.out _, (by repeat (first | exact HP.out.bl | refine below_put _ ?_ (Nat.le_refl _) | apply bl_alloc))⟩
            · have hov' : ¬ (1025 : Int) < (k : Int) + 1 := by omega
              have HE1 := Lib.hid (HER.out _ _ (HF.out.noEnd hls.out hov hll.out HC2.out))
              clear HER HC2 HN
              go_wp2
              exact bodyPost_ret (v := .tuple #[.agg #[.int .i64 0, .slice none 0 0], .int .i64 20, .int .i64 ((k : Int) + 1)]) (by simp [results, Tryz.results21, go_sem, a0, a1]) rfl ⟨HE1.out _, (by repeat (first | exact HP.out.bl | refine below_put _ ?_ (Nat.le_refl _) | apply bl_alloc))⟩
      · have hlt' : ¬ (fr : Int) < (s.size : Int) := by omega
        have HER : Hid (∀ x ln : Int, parseP s.data.toList = .error (x, ln) → ∀ w', ParseR w w' s.data.toList (.returned (.tuple #[.agg #[.int .i64 0, .slice none 0 0], .int .i64 x, .int .i64 ln]))) := fun x ln hp w' => parseR_err hp rfl
        have hls : Hid (s.data.toList.length ≤ 65536) := by show _ ≤ _; rw [← HL.out]; omega
        obtain ⟨ao, cap, hv⟩ : ∃ ao cap, v = .slice ao c.length cap := by
          rcases HP.out.row.2 with ⟨hv, q⟩ | ⟨g2, cap2, cur, hv, _⟩
          · exact ⟨none, 0, by rw [hv, q]⟩
          · exact ⟨_, _, hv⟩
        subst hv
        obtain ⟨⟨a0, a1, a2, a3, a4⟩, ⟨b0, b1, b2⟩, ⟨c0, c1, c2, c3, c4⟩⟩ := HP.out.cells
        by_cases hc : c = []
        · subst hc
          have HE1 := Lib.hid (HER.out _ _ (HF.out.bare hls.out (by rw [← HL.out]; omega)))
          clear HER
          go_wp2
          exact bodyPost_ret (v := .tuple #[.agg #[.int .i64 0, .slice none 0 0], .int .i64 20, .int .i64 ((k : Int) + 1)]) (by simp [results, Tryz.results21, go_sem, a0, a1]) rfl ⟨HE1.out _, (by repeat (first | exact HP.out.bl | refine below_put _ ?_ (Nat.le_refl _) | apply bl_alloc))⟩
        · have hcl : ((c.length : Int) == 0) = false := by
            rw [beq_eq_false_iff_ne]
            intro q
            exact hc (List.eq_nil_of_length_eq_zero (by omega))
          have HPL := Lib.hid (HF.out.done hc (by rw [← HL.out]; omega))
          have hcl4 : c.length ≤ 1024 := by
            rcases HF.out with ⟨_, _, _, q⟩ | ⟨_, _, q, _⟩
            · rw [q]; decide
            · omega
          have HCA := Lib.hid HP.out.row.codeAt
          go_wp2
          go_loopw [91] (fun vi wq => ∃ j : Nat, vi = .int .i64 j ∧ j ≤ c.length ∧ Hid (∀ m, m < j → outAt c m = false) ∧ Hid (Below wr.heap.size wr wq)) (fun vi _ => c.length - (intOf vi).toNat)
          case atStart => exact ⟨0, rfl, Nat.zero_le _, fun m hm => absurd hm (Nat.not_lt_zero m), Below.refl _ _⟩
          case round =>
            obtain ⟨j, rfl, hj, HN, HB⟩ := hrel
            have HPQ := Lib.hid (HP.out.on HB.out)
            clear a0 a1 a2 a3 a4 b0 b1 b2 c0 c1 c2 c3 c4
            obtain ⟨⟨a0, a1, a2, a3, a4⟩, ⟨b0, b1, b2⟩, ⟨c0, c1, c2, c3, c4⟩⟩ := HPQ.out.cells
            by_cases hjl : j < c.length
            · have hjl' : (j : Int) < (c.length : Int) := by omega
              obtain ⟨g0, off, hao, hg0, k0, k1, k2⟩ := (HCA.out.on HB.out) j hjl
              subst hao
              have HMB := Lib.hid (fun w' => may_any (ci c j) c.length w' hcl4)
              have hmay : mayB (ci c j) c.length = !outAt c j := (HP.out.good _ (ci_mem hjl)).may c.length
              rw [hmay] at HMB
              clear hmay
              cases hout : outAt c j with
              | true =>
                have HE1 := Lib.hid (HER.out 50 ((j : Int) + 2) (by rw [HPL.out]; unfold placed; rw [findOut_some hjl hout HN.out]))
                rw [hout] at HMB
                generalize ci c j = z at k0 k1 k2 HMB
                obtain ⟨zo, zn, zx⟩ := z
                unfold insV at HMB
                simp only at k0 k1 k2 HMB
                clear hout HER HN
                go_wp2_with (first
                  | (go_at_call 24; refine (HMB.out _).mono ?_; rintro e' w6 ⟨rfl, hb⟩; have hb6 := chain5 (box5 _ _) hb; have HP6 := Lib.hid (HPQ.out.on hb6); obtain ⟨⟨a0, a1, a2, a3, a4⟩, ⟨b0, b1, b2⟩, ⟨c0, c1, c2, c3, c4⟩⟩ := HP6.out.cells; clear hb hb6))
                exact bodyPost_ret (v := .tuple #[.agg #[.int .i64 0, .slice none 0 0], .int .i64 50, .int .i64 ((j : Int) + 2)]) (by simp [results, Tryz.results21, go_sem, a0, a1]) rfl ⟨HE1.out _, (by repeat (first | exact HP6.out.bl | refine below_put _ ?_ (Nat.le_refl _) | apply bl_alloc))⟩
              | false =>
                have HN2 : Hid (∀ m, m < j + 1 → outAt c m = false) := fun m hm => by
                  rcases Nat.lt_succ_iff_lt_or_eq.1 hm with q | rfl
                  · exact HN.out m q
                  · exact hout
                rw [hout] at HMB
                generalize ci c j = z at k0 k1 k2 HMB
                obtain ⟨zo, zn, zx⟩ := z
                unfold insV at HMB
                simp only at k0 k1 k2 HMB
                clear hout HER HN
                go_wp2_with (first
                  | (go_at_call 24; refine (HMB.out _).mono ?_; rintro e' w6 ⟨rfl, hb⟩; have HB6 := Lib.hid (chain5 HB.out (chain5 (box5 _ _) hb)); clear hb))
                exact ⟨⟨j + 1, by first | rfl | (congr 1), by omega, HN2, HB6⟩, by simp [intOf]; omega⟩
            · have hjl' : ¬ (j : Int) < (c.length : Int) := by omega
              have HOK : Hid (∀ w', CodeRow w.heap.size w' (.slice ao c.length cap) c → ParseR w w' s.data.toList (.returned (.tuple #[.agg #[.int .i64 t, .slice ao c.length cap], .int .i64 0, .int .i64 0]))) := fun w' hr => by
                unfold ParseR
                have hq : parseP s.data.toList = .ok (t, c) := by
                  rw [HPL.out]
                  unfold placed
                  rw [findOut_none.2 (fun m hm => HN.out m (by omega))]
                rw [hq]
                exact ⟨ao, cap, rfl, hr⟩
              have HRW := Lib.hid (row_put (o := 1) (x := .slice ao c.length cap) (row_put (o := 0) (x := .int .i64 t) HPQ.out.row (row_ne HPQ.out.row HPQ.out.rbox (by decide))) (row_ne HPQ.out.row HPQ.out.rbox (by decide)))
              clear HER HN HPL
              go_wp2
              exact bodyPost_ret (v := .tuple #[.agg #[.int .i64 t, .slice ao c.length cap], .int .i64 0, .int .i64 0]) (by simp [results, Tryz.results21, go_sem, a0, a1]) rfl ⟨HOK.out _ HRW.out, (by repeat (first | exact HPQ.out.bl | refine below_put _ ?_ (Nat.le_refl _) | apply bl_alloc))⟩
end Go.Proofs.YtlnobfmbnnfbdaaGreatDoor
