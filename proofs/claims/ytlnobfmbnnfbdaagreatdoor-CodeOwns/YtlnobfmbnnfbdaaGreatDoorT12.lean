import Derived.Test.YtlnobfmbnnfbdaaGreatDoorT11
namespace Go.Proofs.YtlnobfmbnnfbdaaGreatDoor
open Go.ChangeShapes Go.WideShapes Go.ChangeAt Go.RowKit Num
attribute [local go_sem] frombits_run bits_run

/-! Parse, by a guess -/
def parseR (l : List UInt8) : Nat × Int := if printT (gT l) = l then (gT l, 0) else (0, 20)
theorem itoa_length {z : Int} (h0 : -9007199254740992 < z) (h1 : z < 9007199254740992) : (Lib.itoa z).length ≤ 21 := Lib.itoa_length_le z (by omega) (by omega)
theorem printT_length {b : Nat} : (printT b).length ≤ 30 := by
  unfold printT
  split
  · decide
  · split
    · decide
    · split
      · decide
      · split
        · decide
        · split
          · rename_i hw
            have := intB_lt (wholeB_rung hw)
            have := itoa_length this.1 this.2
            omega
          · rw [List.length_cons, hexN_length]; decide

set_option maxHeartbeats 4000000 in
set_option maxRecDepth 100000 in
theorem parse_any (s : ByteArray) (w : World) (hT : Tabs w) (hs : s.size ≤ 281474976710656) :
    Calls Tryz.prog 83 #[.string s] w fun e w' => e = .returned (.tuple #[.float .f64 (parseR s.data.toList).1, .int .i64 (parseR s.data.toList).2]) ∧ Below w.heap.size w w' := by
  have HC := Lib.hid (guess_any s w hT hs)
  have HT := Lib.hid hT
  have HL := Lib.hid (gT_lt s.data.toList)
  by_cases h : printT (gT s.data.toList) = s.data.toList
  · have e : parseR s.data.toList = (gT s.data.toList, 0) := by unfold parseR; rw [if_pos h]
    rw [e]
    have hq : (printT (gT s.data.toList) == s.toList) = true := by rw [beq_iff_eq, ByteArray.toList_eq]; exact h
    clear e h hT hs
    generalize gT s.data.toList = x at *
    go_enter Tryz.func83, Tryz.ntmps83
    go_wp2_with (first | (go_at_call 99; refine HC.out.mono ?_; rintro e w1 ⟨rfl, hw⟩) | (go_at_call 42; refine (print_any _ _ HL.out (HT.out.on hw)).mono ?_; rintro e w2 ⟨rfl, hw2⟩))
    go_ret2
    exact ⟨rfl, below_chain hw hw2⟩
  · have e : parseR s.data.toList = (0, 20) := by unfold parseR; rw [if_neg h]
    rw [e]
    have hq : (printT (gT s.data.toList) == s.toList) = false := by rw [beq_eq_false_iff_ne, ByteArray.toList_eq]; exact h
    clear e h hT hs
    generalize gT s.data.toList = x at *
    go_enter Tryz.func83, Tryz.ntmps83
    go_wp2_with (first | (go_at_call 99; refine HC.out.mono ?_; rintro e w1 ⟨rfl, hw⟩) | (go_at_call 42; refine (print_any _ _ HL.out (HT.out.on hw)).mono ?_; rintro e w2 ⟨rfl, hw2⟩))
    go_ret2
    exact ⟨rfl, below_chain hw hw2⟩

/-! the document's guess -/
def spN : Nat → Nat
  | 0 => 9221120237041090560
  | 1 => 9218868437227405312
  | 2 => 18442240474082181120
  | _ => 9223372036854775808
def spT (i : Nat) : List UInt8 := printT (spN i)
def grT (l : List UInt8) : Nat :=
  if l.length = 17 ∧ l.head? = some 120 then fixB (readR 16 l.tail).1 else if l.head? = some 45 then floatOfInt .f64 (readR 10 l.tail).1 ^^^ 9223372036854775808 else floatOfInt .f64 (readR 10 l).1
def gR (l : List UInt8) : Nat := if l = spT 0 then spN 0 else if l = spT 1 then spN 1 else if l = spT 2 then spN 2 else if l = spT 3 then spN 3 else grT l
theorem gR_hit (l : List UInt8) (j : Nat) (hj : j < 4) (hn : ∀ i, i < j → l ≠ spT i) (h : l = spT j) : gR l = spN j := by
  unfold gR
  match j, hj with
  | 0, _ => rw [if_pos h]
  | 1, _ => rw [if_neg (hn 0 (by decide)), if_pos h]
  | 2, _ => rw [if_neg (hn 0 (by decide)), if_neg (hn 1 (by decide)), if_pos h]
  | 3, _ => rw [if_neg (hn 0 (by decide)), if_neg (hn 1 (by decide)), if_neg (hn 2 (by decide)), if_pos h]
theorem gR_rest (l : List UInt8) (hn : ∀ i, i < 4 → l ≠ spT i) : gR l = grT l := by
  unfold gR
  rw [if_neg (hn 0 (by decide)), if_neg (hn 1 (by decide)), if_neg (hn 2 (by decide)), if_neg (hn 3 (by decide))]
theorem spN_fix : ∀ i, fixB (spN i) = spN i
  | 0 => by decide
  | 1 => by decide
  | 2 => by decide
  | _ + 3 => by show fixB 9223372036854775808 = 9223372036854775808; decide
theorem spN_lt : ∀ i, spN i < 18446744073709551616
  | 0 => by decide
  | 1 => by decide
  | 2 => by decide
  | _ + 3 => by show 9223372036854775808 < 18446744073709551616; decide

set_option maxHeartbeats 4000000 in
set_option maxRecDepth 100000 in
theorem refGuess_any (s : ByteArray) (w : World) :
    Calls Tryz.prog 74 #[.string s] w fun e w' => e = .returned (.float .f64 (gR s.data.toList)) ∧ Below w.heap.size w w' := by
  obtain ⟨g, hg⟩ : ∃ g, g = gR s.data.toList := ⟨_, rfl⟩
  rw [← hg]
  have HG := Lib.hid hg
  clear hg
  go_enter Tryz.func74, Tryz.ntmps74
  go_wp2
  obtain ⟨W1, hW1⟩ : ∃ W1, W1 = w.alloc (.cells #[.int .u64 9221120237041090560, .int .u64 9218868437227405312, .int .u64 18442240474082181120, .int .u64 9223372036854775808] 45) := ⟨_, rfl⟩
  rw [← hW1]
  have HB : Hid (Below w.heap.size w W1) := by rw [hW1]; exact Below.alloc (Below.refl _ _) (Nat.le_refl _) _
  have hcell : ∀ k : Nat, k < 4 → W1.cell? ⟨w.heap.size, k, none⟩ = some (.int .u64 (spN k : Int)) := by
    intro k hk
    rw [hW1, World.cell?_alloc_new]
    match k, hk with
    | 0, _ => rfl
    | 1, _ => rfl
    | 2, _ => rfl
    | 3, _ => rfl
  have HCE := Lib.hid hcell
  clear hcell hW1
  go_loop [15] (fun vi => ∃ (i : Int), vi = .int .i64 i ∧ 0 ≤ i ∧ i ≤ 4 ∧ Hid (∀ j : Nat, (j : Int) < i → s.data.toList ≠ spT j)) (fun vi => (4 - intOf vi).toNat)
  case atStart => exact ⟨0, rfl, by omega, by omega, fun j hj => absurd hj (by omega)⟩
  case round =>
    obtain ⟨i, rfl, hi0, hi1, HN⟩ := hrel
    by_cases hi : i < 4
    · have hc := HCE.out i.toNat (by omega)
      have hfx := spN_fix i.toNat
      have HX := Lib.hid (spN_lt i.toNat)
      by_cases hm : s.data.toList = spT i.toNat
      · have hg : g = spN i.toNat := by rw [HG.out]; exact gR_hit _ _ (by omega) (fun j hj => HN.out j (by omega)) hm
        unfold spT at hm
        have hq := str_eq hm
        have HGX := Lib.hid hg
        clear hm HN HG HCE hg
        generalize spN i.toNat = x at *
        go_wp2_with (first | (go_at_call 85; refine (refOf_any _ _).mono ?_; rintro e w' ⟨rfl, hw⟩; subst w') | (go_at_call 44; refine (refPrint_any _ _ HX.out).mono ?_; rintro e w' ⟨rfl, hw⟩; subst w'))
        go_ret
        exact ⟨by rw [HGX.out]; rfl, HB.out⟩
      · have HN2 : Hid (∀ j : Nat, (j : Int) < i + 1 → s.data.toList ≠ spT j) := by
          intro j hj
          by_cases hj2 : (j : Int) < i
          · exact HN.out j hj2
          · rw [show j = i.toNat by omega]; exact hm
        unfold spT at hm
        have hq := str_ne hm
        clear hm HN HG HCE
        generalize spN i.toNat = x at *
        go_wp2_with (first | (go_at_call 85; refine (refOf_any _ _).mono ?_; rintro e w' ⟨rfl, hw⟩; subst w') | (go_at_call 44; refine (refPrint_any _ _ HX.out).mono ?_; rintro e w' ⟨rfl, hw⟩; subst w'))
        exact ⟨⟨i + 1, rfl, by omega, by omega, HN2⟩, by simp [intOf]; omega⟩
    · have hg : g = grT s.data.toList := by rw [HG.out]; exact gR_rest _ (fun j hj => HN.out j (by omega))
      clear HN HG HCE
      unfold grT at hg
      by_cases h0 : s.size = 0
      · have es : s = ⟨#[]⟩ := bytes_eq (List.eq_nil_of_length_eq_zero (by rw [← size_list]; exact h0))
        subst es
        have hg2 : g = floatOfInt .f64 (readR 10 []).1 := hg
        subst hg2
        clear hg h0
        go_wp2_with (go_at_call 86; refine (refRead_any _ 10 _ (.inl rfl)).mono ?_; rintro e w' ⟨rfl, hw⟩; subst w')
        go_ret
        exact ⟨rfl, HB.out⟩
      · obtain ⟨c, hc⟩ : ∃ c, s.data.toList.head? = some c := by
          cases hd : s.data.toList with
          | nil => exact absurd (by rw [size_list, hd]; rfl) h0
          | cons a b => exact ⟨a, rfl⟩
        have hix := head_index s c hc
        have hts := tail_slice s (by omega)
        have hp : (0 : Int) < (s.size : Int) := by omega
        have hc256 : c.toNat < 256 := c.toNat_lt
        rw [← size_list] at hg
        by_cases h45 : c = 45
        · have hq1 : ((c.toNat : Int) == 120) = false := by rw [h45]; decide
          have hq2 : ((c.toNat : Int) == 45) = true := by rw [h45]; decide
          rw [if_neg (fun q => by rw [hc, h45] at q; exact absurd q.2 (by decide)), if_pos (by rw [hc, h45])] at hg
          subst hg
          have hu : ∀ b W, (Op.unary .neg (.float .f64 b)).run Tryz.prog W = .ok (.float .f64 (b ^^^ 9223372036854775808)) W := unary_neg
          clear hc h45
          by_cases h17 : ((s.size : Int) == 17) = true
          · go_wp2_with (go_at_call 86; refine (refRead_any _ 10 _ (.inl rfl)).mono ?_; rintro e w' ⟨rfl, hw⟩; subst w')
            go_ret
            exact ⟨rfl, HB.out⟩
          · have h17' : ((s.size : Int) == 17) = false := by simpa using h17
            clear h17
            go_wp2_with (go_at_call 86; refine (refRead_any _ 10 _ (.inl rfl)).mono ?_; rintro e w' ⟨rfl, hw⟩; subst w')
            go_ret
            exact ⟨rfl, HB.out⟩
        · have hq2 : ((c.toNat : Int) == 45) = false := by
            rw [beq_eq_false_iff_ne]
            intro q
            exact h45 (UInt8.toNat_inj.1 (by show c.toNat = 45; omega))
          have hh : s.data.toList.head? ≠ some 45 := fun q => h45 (by rw [hc] at q; exact Option.some.inj q)
          by_cases h120 : c = 120
          · have hq1 : ((c.toNat : Int) == 120) = true := by rw [h120]; decide
            by_cases h17 : s.size = 17
            · have h17' : ((s.size : Int) == 17) = true := by rw [h17]; rfl
              rw [if_pos ⟨h17, by rw [hc, h120]⟩] at hg
              subst hg
              clear hc h45 hh h120 h17
              go_wp2_with (first | (go_at_call 86; refine (refRead_any _ 16 _ (.inr rfl)).mono ?_; rintro e w' ⟨rfl, hw⟩; subst w') | (go_at_call 85; refine (refOf_any _ _).mono ?_; rintro e w' ⟨rfl, hw⟩; subst w'))
              go_ret
              exact ⟨rfl, HB.out⟩
            · have h17' : ((s.size : Int) == 17) = false := by rw [beq_eq_false_iff_ne]; omega
              rw [if_neg (fun q => h17 q.1), if_neg hh] at hg
              subst hg
              clear hc h45 hh h120 h17
              go_wp2_with (first | (go_at_call 86; refine (refRead_any _ 10 _ (.inl rfl)).mono ?_; rintro e w' ⟨rfl, hw⟩; subst w'))
              go_ret
              exact ⟨rfl, HB.out⟩
          · have hq1 : ((c.toNat : Int) == 120) = false := by
              rw [beq_eq_false_iff_ne]
              intro q
              exact h120 (UInt8.toNat_inj.1 (by show c.toNat = 120; omega))
            rw [if_neg (fun q => h120 (by rw [hc] at q; exact Option.some.inj q.2)), if_neg hh] at hg
            subst hg
            clear hc h45 hh h120
            by_cases h17 : ((s.size : Int) == 17) = true
            · go_wp2_with (first | (go_at_call 86; refine (refRead_any _ 10 _ (.inl rfl)).mono ?_; rintro e w' ⟨rfl, hw⟩; subst w'))
              go_ret
              exact ⟨rfl, HB.out⟩
            · have h17' : ((s.size : Int) == 17) = false := by simpa using h17
              clear h17
              go_wp2_with (first | (go_at_call 86; refine (refRead_any _ 10 _ (.inl rfl)).mono ?_; rintro e w' ⟨rfl, hw⟩; subst w'))
              go_ret
              exact ⟨rfl, HB.out⟩
end Go.Proofs.YtlnobfmbnnfbdaaGreatDoor
