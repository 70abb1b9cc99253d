import Derived.Test.YtlnobfmbnnfbdaaGreatDoorCT3
namespace Go.Proofs.YtlnobfmbnnfbdaaGreatDoor
open Go.ChangeShapes Go.WideShapes Go.ChangeAt Go.RowKit Num
attribute [local go_sem] run_store_float

/-- what taking an instruction comes to -/
abbrev Step := Except Int (Ins × List UInt8)
def stepI (rest : List UInt8) (line : Int) : Step :=
  if line = 1025 then .error 50 else if (cutB 10 rest).2.2 = false then .error 20
  else match readI (cutB 10 rest).1 with
    | none => .error 20
    | some i => .ok (i, (cutB 10 rest).2.1)
theorem kind_of_named {l : List UInt8} {k n : Nat} (h : namedW l = some (k, n)) : ((shp k).kind = 0 ∨ (shp k).kind = 4 ∨ (shp k).kind = 5) ∨ (shp k).kind = 1 ∧ n = 0 ∨ (shp k).kind = 2 ∧ n = 0 ∨ (shp k).kind = 3 ∧ n = 0 := by
  obtain ⟨h1, h2, h3⟩ := named_facts h
  simp only at h1 h2 h3
  rcases h3 with ⟨a, _, _⟩ | ⟨a, _⟩ | ⟨a, _⟩
  · rcases kind_all k h1 with e | e | e | e | e | e
    · exact .inl (.inl e)
    · exact .inr (.inl ⟨e, a⟩)
    · exact .inr (.inr (.inl ⟨e, a⟩))
    · exact .inr (.inr (.inr ⟨e, a⟩))
    · exact .inl (.inr (.inl e))
    · exact .inl (.inr (.inr e))
  · subst a; exact .inl (.inr (.inl shp_9.1))
  · subst a; exact .inl (.inr (.inr shp_10.1))
section
variable {W w : World} {b : Nat} {rest : List UInt8} {line : Int}
theorem instr_got {i : Ins} {r : List UInt8} (hT : Tabs5 W) (hB : Below W.heap.size W w) (hb : W.heap.size ≤ b) (h : RdAt w b rest line) (h0 : 0 ≤ line) (hl : line ≤ 1025) (hr : rest.length ≤ 65536) (hs : stepI rest line = .ok (i, r)) :
    Calls Tryz.prog 49 #[.pointer (some ⟨b, 0, none⟩)] w fun e w' => e = .returned (insV i) ∧ RdAt w' b r (line + 1) ∧ Turn [b] [b] w w' := by
  unfold stepI at hs
  split at hs
  · cases hs
  · rename_i hne
    have hl' : line < 1025 := by omega
    split at hs
    · cases hs
    · rename_i hcut
      split at hs
      · cases hs
      · rename_i i' hi
        cases hs
        obtain ⟨x, y, e, hx, hc⟩ : ∃ x y, rest = x ++ 10 :: y ∧ 10 ∉ x ∧ cutB 10 rest = (x, y, true) := by
          rcases cutB_cases 10 rest with ⟨a, b, e, ha, hc⟩ | ⟨ha, hc⟩
          · exact ⟨a, b, e, ha, hc⟩
          · rw [hc] at hcut; exact absurd rfl hcut
        rw [hc] at hi ⊢
        simp only at hi ⊢
        unfold readI at hi
        split at hi
        · cases hi
        · rename_i q hq
          obtain ⟨k, n⟩ := q
          simp only at hi hq
          rcases kind_of_named hq with hk | ⟨hk, rfl⟩ | ⟨hk, rfl⟩ | ⟨hk, rfl⟩
          · have h1 : ¬ (shp k).kind = 1 := by omega
            have h2 : ¬ ((shp k).kind = 2 ∨ (shp k).kind = 3) := by omega
            rw [if_neg h1, if_neg h2] at hi
            split at hi
            · cases hi
            · rename_i hm
              cases hi
              have hm' : (cutB 32 x).2.2 = false := by simpa using hm
              rcases hk with hk | hk | hk
              · exact instr_b0 hT hB hb h h0 hl' hr hc hq hk hm'
              · exact instr_b4 hT hB hb h h0 hl' hr hc hq hk hm'
              · exact instr_b5 hT hB hb h h0 hl' hr hc hq hk hm'
          · rw [if_pos hk] at hi
            split at hi
            · rename_i hp
              cases hi
              exact instr_num hT hB hb h h0 hl' hr hc hq hk hp
            · cases hi
          · rw [if_neg (by omega), if_pos (.inl hk)] at hi
            split at hi
            · rename_i hp
              cases hi
              exact instr_n hT hB hb h h0 hl' hr hc hq hk hp.1 hp.2
            · cases hi
          · rw [if_neg (by omega), if_pos (.inr hk)] at hi
            split at hi
            · rename_i hp
              cases hi
              exact instr_place hT hB hb h h0 hl' hr hc hq hk hp.1 hp.2
            · cases hi
theorem instr_fail {e : Int} (hT : Tabs5 W) (hB : Below W.heap.size W w) (hb : W.heap.size ≤ b) (h : RdAt w b rest line) (h0 : 0 ≤ line) (hl : line ≤ 1025) (hr : rest.length ≤ 65536) (hs : stepI rest line = .error e) :
    Calls Tryz.prog 49 #[.pointer (some ⟨b, 0, none⟩)] w fun r w' => r = gaveUp e (line + 1) ∧ Turn [b] [b] w w' := by
  unfold stepI at hs
  split at hs
  · rename_i hline
    cases hs
    subst hline
    exact instr_bad0 fun w1 h1 => next_far (h.on h1) rfl
  · rename_i hne
    have hl' : line < 1025 := by omega
    split at hs
    · rename_i hcut
      cases hs
      exact instr_bad0 fun w1 h1 => next_end hT (hB.trans (h1.mono hB.size)) hb (h.on h1) h0 hl' hr hcut
    · rename_i hcut
      split at hs
      · rename_i hi
        cases hs
        obtain ⟨x, y, e, hx, hc⟩ : ∃ x y, rest = x ++ 10 :: y ∧ 10 ∉ x ∧ cutB 10 rest = (x, y, true) := by
          rcases cutB_cases 10 rest with ⟨a, b, e, ha, hc⟩ | ⟨ha, hc⟩
          · exact ⟨a, b, e, ha, hc⟩
          · rw [hc] at hcut; exact absurd rfl hcut
        rw [hc] at hi
        simp only at hi
        unfold readI at hi
        split at hi
        · rename_i hq
          exact instr_bad1 hT hB hb h h0 hl' hr hc hq
        · rename_i q hq
          obtain ⟨k, n⟩ := q
          simp only at hi hq
          rcases kind_of_named hq with hk | ⟨hk, _⟩ | ⟨hk, _⟩ | ⟨hk, _⟩
          · have h1 : ¬ (shp k).kind = 1 := by omega
            have h2 : ¬ ((shp k).kind = 2 ∨ (shp k).kind = 3) := by omega
            rw [if_neg h1, if_neg h2] at hi
            split at hi
            · rename_i hm
              rcases hk with hk | hk | hk
              · exact instr_b0_no hT hB hb h h0 hl' hr hc hq hk hm
              · exact instr_b4_no hT hB hb h h0 hl' hr hc hq hk hm
              · exact instr_b5_no hT hB hb h h0 hl' hr hc hq hk hm
            · cases hi
          · rw [if_pos hk] at hi
            split at hi
            · cases hi
            · rename_i hp
              exact instr_num_no hT hB hb h h0 hl' hr hc hq hk hp
          · rw [if_neg (by omega), if_pos (.inl hk)] at hi
            split at hi
            · cases hi
            · rename_i hp
              exact instr_n_no hT hB hb h h0 hl' hr hc hq hk hp
          · rw [if_neg (by omega), if_pos (.inr hk)] at hi
            split at hi
            · cases hi
            · rename_i hp
              exact instr_place_no hT hB hb h h0 hl' hr hc hq hk hp
      · cases hs
end
def placesE (c : List Ins) : Ending := match findOut c with
  | some k => gaveUp 50 (2 + k)
  | none => .returned (.tuple #[])
set_option maxHeartbeats 2000000 in
set_option maxRecDepth 100000 in
theorem places_any {w : World} {ao : Option Addr} {c : List Ins} (cap : Nat) (hT : Shaped5 w) (hc : CodeAt w ao c) (hl : c.length ≤ 1024) (hg : ∀ i ∈ c, Good i) :
    Calls Tryz.prog 50 #[.slice ao c.length cap] w fun e w' => e = placesE c ∧ Below w.heap.size w w' := by
  have HC := Lib.hid hc
  have HT := Lib.hid hT
  have HG := Lib.hid hg
  clear hc hT hg
  go_enter Tryz.func50, Tryz.ntmps50
  go_wp2
  go_loopw [6] (fun vi wr => ∃ (i : Nat), vi = .int .i64 i ∧ i ≤ c.length ∧ Hid (∀ j, j < i → outAt c j = false) ∧ Hid (Below w.heap.size w wr)) (fun vi _ => c.length - (intOf vi).toNat)
  case atStart => exact ⟨0, rfl, Nat.zero_le _, fun j hj => absurd hj (Nat.not_lt_zero j), Below.refl _ _⟩
  case round =>
    obtain ⟨i, rfl, hi, HM, HB⟩ := hrel
    by_cases hlt : i < c.length
    · have hlt' : (i : Int) < (c.length : Int) := by omega
      obtain ⟨b0, off, hao, hbW, k0, k1, k2⟩ := HC.out i hlt
      subst hao
      rw [← HB.out.cell (p := ⟨b0, off + i * 3, none⟩) hbW] at k0
      rw [← HB.out.cell (p := ⟨b0, off + i * 3 + 1, none⟩) hbW] at k1
      rw [← HB.out.cell (p := ⟨b0, off + i * 3 + 2, none⟩) hbW] at k2
      have hbw : b0 < wr.heap.size := Nat.lt_of_lt_of_le hbW HB.out.size
      have hgi := HG.out _ (ci_mem hlt)
      obtain ⟨k, hk⟩ : ∃ k : Nat, (ci c i).op = k := ⟨(ci c i).op.toNat, by have := hgi.lo; omega⟩
      have hk21 : k < 21 := by have := hgi.hi; omega
      have HO := Lib.hid (fun w' h => outside_any k (ci c i).n (ci c i).x c.length w' h hk21)
      have ho : outAt c i = outB k (ci c i).n c.length := by unfold outAt; rw [hk]; rfl
      rw [hk] at k0
      have HM2 : Hid (outAt c i = false → ∀ j, j < i + 1 → outAt c j = false) := fun hq j hj => by
        rcases Nat.lt_succ_iff_lt_or_eq.1 hj with q | rfl
        · exact HM.out j q
        · exact hq
      have HE : Hid (outAt c i = true → placesE c = gaveUp 50 (2 + (i : Int))) := fun hq => by
        unfold placesE
        rw [findOut_some hlt hq HM.out]
      rw [ho] at HM2 HE
      generalize outB k (ci c i).n c.length = v at HO HM2 HE
      generalize (ci c i).n = zn at k1 HO
      generalize (ci c i).x = zx at k2 HO
      clear hbW HM ho hgi hk
      cases v with
      | true =>
        have HE2 := Lib.hid (HE.out rfl)
        clear HE HM2
        go_wp2_with (first
          | (go_at_call 38; refine (HO.out _ (HT.out.on (chain5 HB.out (box5 _ _)))).mono ?_; rintro e w2 ⟨rfl, hw⟩; subst w2))
        exact ⟨rfl, by rw [HE2.out], chain5 HB.out (bl_alloc _ (box5 _ _))⟩
      | false =>
        have HM3 := Lib.hid (HM2.out rfl)
        clear HE HM2
        go_wp2_with (first
          | (go_at_call 38; refine (HO.out _ (HT.out.on (chain5 HB.out (box5 _ _)))).mono ?_; rintro e w2 ⟨rfl, hw⟩; subst w2))
        exact ⟨⟨i + 1, by first | rfl | (congr 1), by omega, HM3, chain5 HB.out (bl_alloc _ (box5 _ _))⟩, by simp [intOf]; omega⟩
    · have hlt' : ¬ (i : Int) < (c.length : Int) := by omega
      have HE : Hid (placesE c = .returned (.tuple #[])) := by
        show placesE c = _
        unfold placesE
        rw [findOut_none.2 (fun k hk => HM.out k (by omega))]
      go_wp2
      go_end0
      exact ⟨by rw [HE.out], HB.out⟩
end Go.Proofs.YtlnobfmbnnfbdaaGreatDoor
