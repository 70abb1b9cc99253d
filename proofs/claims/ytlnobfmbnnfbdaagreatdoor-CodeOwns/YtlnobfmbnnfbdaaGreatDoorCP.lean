import Derived.Test.YtlnobfmbnnfbdaaGreatDoorCA
namespace Go.Proofs.YtlnobfmbnnfbdaaGreatDoor
open Go.ChangeShapes Go.WideShapes Go.ChangeAt Go.RowKit Num
attribute [local go_sem] run_store_float

theorem one_len : ∀ k, k < 9 → (oneW k).length ≤ 6 := by decide +kernel
theorem two_len : ∀ k, k < 13 → (twoW k).length ≤ 6 := by decide +kernel
theorem line_len {i : Ins} {many : Nat} (h : mayB i many = true) : (lineI i).length ≤ 40 := by
  obtain ⟨h1, h2, h3, h4, _, _⟩ := may_parts h
  have hk : i.op.toNat < 21 := by omega
  have hw := word_len _ hk
  unfold lineI
  rcases kind_all _ hk with e | e | e | e | e | e
  · rw [e]; simp; omega
  · rw [e]
    have := printT_length (b := i.x)
    simp; omega
  · have := dec_len (n := i.n) (by have := kind_2 _ hk e; omega)
    rw [e]; simp; omega
  · have := dec_len (n := i.n) (by have := kind_3 _ hk e; omega)
    rw [e]; simp; omega
  · have := one_len i.n.toNat (by have := kind_4 _ hk e; omega)
    rw [e]; simp; omega
  · have := two_len i.n.toNat (by have := kind_5 _ hk e; omega)
    rw [e]; simp; omega
theorem body_len {many : Nat} : ∀ c : List Ins, (∀ i ∈ c, mayB i many = true) → (bodyT c).length ≤ 41 * c.length
  | [], _ => by simp [bodyT]
  | i :: c, h => by
    have h1 := line_len (h i (List.mem_cons_self ..))
    have h2 := body_len c (fun j hj => h j (List.mem_cons_of_mem _ hj))
    simp [bodyT]
    omega
theorem take_ci {c : List Ins} {k : Nat} (h : k < c.length) : c.take (k + 1) = c.take k ++ [ci c k] := by
  rw [List.take_add_one, ci_lt h]
  rfl
theorem tag_len (t : Int) : (tagB t).length ≤ 7 := by unfold tagB; split <;> decide
def headT (t : Int) (c : List Ins) (k : Nat) : List UInt8 := tagB t ++ [10] ++ bodyT (c.take k)
theorem headT_len {t : Int} {c : List Ins} (h : checkB t c = true) (k : Nat) (hk : k ≤ c.length) : (headT t c k).length ≤ 41992 := by
  obtain ⟨_, _, h3, h4⟩ := check_parts.1 h
  have h1 := tag_len t
  have h2 := body_len (many := c.length) (c.take k) (fun i hi => by
    obtain ⟨j, hj, rfl⟩ := mem_ci (List.mem_of_mem_take hi)
    exact h4 j hj)
  have h5 : (c.take k).length ≤ 1024 := by simp; omega
  unfold headT
  simp only [List.length_append, List.length_cons, List.length_nil]
  omega
theorem headT_succ {t : Int} {c : List Ins} {k : Nat} (h : k < c.length) : headT t c (k + 1) = headT t c k ++ lineI (ci c k) ++ [10] := by
  unfold headT
  rw [take_ci h, bodyT_append]
  simp
theorem headT_all (t : Int) (c : List Ins) : headT t c c.length = textP t c := by
  unfold headT textP
  rw [List.take_length]
  simp
def printP (t : Int) (c : List Ins) : List UInt8 := if checkB t c then textP t c else []
set_option maxHeartbeats 4000000 in
set_option maxRecDepth 100000 in
theorem print5_any {w : World} (t : Int) {ao : Option Addr} {c : List Ins} (cap : Nat) (hT : Tabs5 w) (hc : CodeAt w ao c) (hl : c.length ≤ 9223372036854775807) (hx : ∀ i ∈ c, i.x < 18446744073709551616) :
    Calls Tryz.prog 18 #[progV t ao c.length cap] w fun e w' => e = .returned (.tuple #[.string ⟨(printP t c).toArray⟩, .int .i64 (checkE t c)]) ∧ Below w.heap.size w w' := by
  have HCK := Lib.hid (check_any t cap (hT.on (box5 w (.cells #[.int .i64 t, .slice ao c.length cap] 24))).sh (hc.on (box5 w (.cells #[.int .i64 t, .slice ao c.length cap] 24))) hl)
  unfold progV at HCK ⊢
  cases hb : checkB t c with
  | false =>
    rw [checkE_no hb] at HCK ⊢
    have e : printP t c = [] := by unfold printP; rw [hb]; rfl
    rw [e]
    clear hT hc hx hl e hb
    go_enter Tryz.func18, Tryz.ntmps18
    go_wp2_with (first
      | (go_at_call 11; refine HCK.out.mono ?_; rintro e w2 ⟨rfl, hb2⟩; have HB2 := Lib.hid (chain5 (box5 _ _) hb2); clear hb2))
    go_ret2
    exact ⟨rfl, HB2.out⟩
  | true =>
    rw [checkE_yes hb] at HCK ⊢
    have e : printP t c = headT t c c.length := by unfold printP; rw [hb, headT_all]; rfl
    rw [e]
    obtain ⟨p1, p2, p3, p4⟩ := check_parts.1 hb
    have HP1 := Lib.hid p1
    have HP4 := Lib.hid p4
    have HLEN := Lib.hid (fun k hk => headT_len hb k hk)
    have HT := Lib.hid hT
    have HC := Lib.hid hc
    have HXS := Lib.hid hx
    have HX := Lib.hid (heap_alloc_new w (.cells #[.int .i64 t, .slice ao c.length cap] 24))
    clear hT hc hx e hb p1 p2 p4
    go_enter Tryz.func18, Tryz.ntmps18
    go_wp2_with (first
      | (go_at_call 11; refine HCK.out.mono ?_; rintro e w2 ⟨rfl, hb2⟩; obtain ⟨q0, q1, q2⟩ := cells2_of ((hb2.block w.heap.size (by simp)).trans HX.out); have HB2 := Lib.hid (chain5 (box5 _ _) hb2); have HBD := Lib.hid (bld_new w2); clear hb2)
      | (go_at_call 29; refine (tagLine_any t HP1.out _).mono ?_; rintro e w3 ⟨rfl, hw⟩; subst w3)
      | (go_at_call 28; refine (writeString_any HBD.out (by simp) (tagB t) (by have := tag_len t; simp; omega)).mono ?_; rintro e w4 ⟨rfl, hbd, hb4⟩; have HBD4 := Lib.hid hbd; have HR4 := Lib.hid ((box5 w2 _).trans hb4); clear hbd hb4)
      | (go_at_call 30; refine (writeByte_any HBD4.out HR4.out.size 10 (by have := tag_len t; simp; omega)).mono ?_; rintro e w5 ⟨rfl, hbd, hb5⟩; have HBD5 := Lib.hid hbd; have HR5 := Lib.hid (HR4.out.trans hb5); have q5 := (HR5.out.cell (p := ⟨w.heap.size, 1, none⟩) q2).trans q1; have q6 : w.heap.size < w5.heap.size := Nat.lt_of_lt_of_le q2 HR5.out.size; clear hbd hb5))
    go_loopw [21] (fun vi wr => ∃ (i : Nat), vi = .int .i64 i ∧ i ≤ c.length ∧ Hid (Bld w2.heap.size wr w2.heap.size (headT t c i)) ∧ Hid (Below w2.heap.size w2 wr)) (fun vi _ => c.length - (intOf vi).toNat)
    case atStart =>
      refine ⟨0, rfl, Nat.zero_le _, ?_, HR5⟩
      have e : headT t c 0 = [] ++ tagB t ++ [10] := by unfold headT; simp [bodyT]
      rw [e]
      exact HBD5
    case round =>
      clear HBD HBD4 HBD5 HR4 HR5 q5 q6
      obtain ⟨i, rfl, hi, HD, HR⟩ := hrel
      have HBW := Lib.hid (HB2.out.trans (HR.out.mono HB2.out.size))
      by_cases hlt : i < c.length
      · have hlt' : (i : Int) < (c.length : Int) := by omega
        obtain ⟨b0, off, hao, hbW, k0, k1, k2⟩ := HC.out i hlt
        subst hao
        rw [← HBW.out.cell (p := ⟨b0, off + i * 3, none⟩) hbW] at k0
        rw [← HBW.out.cell (p := ⟨b0, off + i * 3 + 1, none⟩) hbW] at k1
        rw [← HBW.out.cell (p := ⟨b0, off + i * 3 + 2, none⟩) hbW] at k2
        have hbw : b0 < wr.heap.size := Nat.lt_of_lt_of_le hbW HBW.out.size
        have HIL := Lib.hid (fun w' h => instrLine_any (ci c i) c.length w' h (HP4.out i hlt) (HXS.out _ (ci_mem hlt)))
        have HN : Hid (headT t c (i + 1) = headT t c i ++ lineI (ci c i) ++ [10]) := headT_succ hlt
        have HL1 : Hid ((headT t c i).length + (lineI (ci c i)).length ≤ 140737488355328) := by
          show (headT t c i).length + (lineI (ci c i)).length ≤ _
          have := HLEN.out i (by omega)
          have := line_len (HP4.out i hlt)
          omega
        have HL2 : Hid ((headT t c i ++ lineI (ci c i)).length + 1 ≤ 140737488355328) := by
          show (headT t c i ++ lineI (ci c i)).length + 1 ≤ _
          have := HLEN.out i (by omega)
          have := line_len (HP4.out i hlt)
          rw [List.length_append]
          omega
        generalize lineI (ci c i) = ln at HIL HN HL1 HL2
        generalize ci c i = z at k0 k1 k2 HIL
        obtain ⟨zo, zn, zx⟩ := z
        unfold insV at HIL
        simp only at k0 k1 k2 HIL
        clear hbW
        go_wp2_with (first
          | (go_at_call 31; refine (HIL.out _ (HT.out.on (chain5 HBW.out (box5 _ _)))).mono ?_; rintro e w6 ⟨rfl, hb6⟩; have HD6 := Lib.hid (HD.out.on (chain5 (box5 _ _) hb6)); have HR6 := Lib.hid (HR.out.trans ((chain5 (box5 _ _) hb6).mono HR.out.size)); clear hb6)
          | (go_at_call 28; refine (writeString_any HD6.out HR6.out.size ln HL1.out).mono ?_; rintro e w7 ⟨rfl, hbd, hb7⟩; have HD7 := Lib.hid hbd; have HR7 := Lib.hid (HR6.out.trans hb7); clear hbd hb7)
          | (go_at_call 30; refine (writeByte_any HD7.out HR7.out.size 10 HL2.out).mono ?_; rintro e w8 ⟨rfl, hbd, hb8⟩; have HD8 := Lib.hid hbd; have HR8 := Lib.hid (HR7.out.trans hb8); clear hbd hb8))
        exact ⟨⟨i + 1, by first | rfl | (congr 1), by omega, by rw [HN.out]; exact HD8, HR8⟩, by simp [intOf]; omega⟩
      · have hlt' : ¬ (i : Int) < (c.length : Int) := by omega
        obtain rfl : i = c.length := by omega
        go_wp2_with (first
          | (go_at_call 32; refine (string_any HD.out HR.out.size).mono ?_; rintro e w6 ⟨rfl, hb6⟩; have HR6 := Lib.hid (HBW.out.trans (hb6.mono HB2.out.size)); clear hb6))
        go_ret2
        exact ⟨rfl, HR6.out⟩
end Go.Proofs.YtlnobfmbnnfbdaaGreatDoor
