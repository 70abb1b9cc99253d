import Derived.Test.YtlnobfmbnnfbdaaGreatDoorTTxt
namespace Go.Proofs.YtlnobfmbnnfbdaaGreatDoor
open Go.ChangeShapes Go.WideShapes Go.ChangeAt Go.RowKit Num

/-! strconv.ParseInt -/
theorem parseInt_ok (B : Nat) (hB : B = 32 ∨ B = 64) (s : ByteArray) (v : Int) (w : World) (hs : s.size ≤ 281474976710656) (h : Lib.parseIntB B s.data.toList = .ok v) :
    Calls Tryz.prog 100 #[.string s, .int .i64 10, .int .i64 B] w fun e w' => e = .returned (.tuple #[.int .i64 v, .nilIface]) ∧ Below w.heap.size w w' := by
  have hb : ∀ w' : World, (w' = w ∨ ∃ t, w' = Lib.bytesWorld w 5 t) → Below w.heap.size w w' := fun w' h => by
    rcases h with rfl | ⟨t, rfl⟩
    · exact Below.refl _ _
    · exact Lib.bytesWorld_below w 5 t
  rcases hB with rfl | rfl
  · exact (Any.strconv_ParseInt_10_at32_ok Tryz.laysC174 s (by omega) v h w).mono fun e w' ⟨he, hw⟩ => ⟨he, hb w' hw⟩
  · exact (Any.strconv_ParseInt_10_at64_ok Tryz.laysC174 s (by omega) v h w).mono fun e w' ⟨he, hw⟩ => ⟨he, hb w' hw⟩
theorem parseInt_err (B : Nat) (hB : B = 32 ∨ B = 64) (s : ByteArray) (w : World) (hT : Tabs w) (hs : s.size ≤ 281474976710656) (h : ∀ v, Lib.parseIntB B s.data.toList ≠ .ok v) :
    Calls Tryz.prog 100 #[.string s, .int .i64 10, .int .i64 B] w fun e w' => ∃ v t p, e = .returned (.tuple #[.int .i64 v, .iface t p]) ∧ Below w.heap.size w w' := by
  obtain ⟨t1, p1, h1⟩ := hT.syn
  obtain ⟨t2, p2, h2⟩ := hT.rng
  cases hc : Lib.parseIntB B s.data.toList
  · exact absurd hc (h _)
  · rcases hB with rfl | rfl
    · exact (Any.strconv_ParseInt_10_at32_syntax_var Tryz.laysC174 s hs hc _ _ w h1).mono fun e w' ⟨N, he, _, _, hw⟩ => ⟨_, _, _, he, hw⟩
    · exact (Any.strconv_ParseInt_10_at64_syntax_var Tryz.laysC174 s hs hc _ _ w h1).mono fun e w' ⟨N, he, _, _, hw⟩ => ⟨_, _, _, he, hw⟩
  · rcases hB with rfl | rfl
    · exact (Any.strconv_ParseInt_10_at32_range_var Tryz.laysC174 s hs hc _ _ w h2).mono fun e w' ⟨N, he, _, _, hw⟩ => ⟨_, _, _, he, hw⟩
    · exact (Any.strconv_ParseInt_10_at64_range_var Tryz.laysC174 s hs hc _ _ w h2).mono fun e w' ⟨N, he, _, _, hw⟩ => ⟨_, _, _, he, hw⟩

/-! whole numbers -/
def wholeR (l : List UInt8) : Int × Int := match readL 10 0 l with
  | some n => if n ≤ 2147483647 ∧ Lib.decDigits n = l then ((n : Int), 0) else (0, 20)
  | none => (0, 20)
theorem wholeR_dec {n : Nat} (h : n ≤ 2147483647) : wholeR (Lib.decDigits n) = ((n : Int), 0) := by
  unfold wholeR
  rw [readL_dec]
  show (if n ≤ 2147483647 ∧ Lib.decDigits n = Lib.decDigits n then ((n : Int), (0 : Int)) else (0, 20)) = _
  rw [if_pos ⟨h, rfl⟩]
theorem wholeR_none {l : List UInt8} (h : ∀ n, n ≤ 2147483647 → Lib.decDigits n ≠ l) : wholeR l = (0, 20) := by
  unfold wholeR
  split
  · rw [if_neg (fun q => h _ q.1 q.2)]
  · rfl
theorem wholeR_read (l : List UInt8) : wholeR l = if (readR 10 l).2 = true ∧ (readR 10 l).1 ≤ 2147483647 ∧ ¬ (1 < l.length ∧ l.head? = some 48) then (((readR 10 l).1 : Int), 0) else (0, 20) := by
  unfold readR
  by_cases hl : l.length = 0 ∨ 16 < l.length
  · rw [if_pos hl, if_neg (fun q => by cases q.1)]
    apply wholeR_none
    intro n hn he
    have := Lib.decDigits_length n
    rw [he] at this
    have h2 := nDigits_of_lt 10 n (by omega) (by decide)
    have h3 := Lib.nDigits_pos n
    omega
  · rw [if_neg hl]
    cases hr : readL 10 0 l with
    | none => rw [if_neg (fun q => by cases q.1)]; unfold wholeR; rw [hr]
    | some n =>
      show wholeR l = if true = true ∧ n ≤ 2147483647 ∧ ¬ (1 < l.length ∧ l.head? = some 48) then ((n : Int), 0) else (0, 20)
      unfold wholeR
      rw [hr]
      show (if n ≤ 2147483647 ∧ Lib.decDigits n = l then ((n : Int), (0 : Int)) else (0, 20)) = _
      by_cases hc : 1 < l.length ∧ l.head? = some 48
      · have hno : ¬ (n ≤ 2147483647 ∧ Lib.decDigits n = l) := by
          rintro ⟨_, rfl⟩
          exact dec_canon n hc
        rw [if_neg hno, if_neg (fun q => q.2.2 hc)]
      · have e := canon (l.length - 1) l n (by omega) hr hc
        by_cases hm : n ≤ 2147483647
        · rw [if_pos ⟨hm, e⟩, if_pos ⟨rfl, hm, hc⟩]
        · rw [if_neg (fun q => hm q.1), if_neg (fun q => hm q.2.1)]

set_option maxHeartbeats 4000000 in
set_option maxRecDepth 100000 in
theorem whole_any (s : ByteArray) (w : World) (hT : Tabs w) (hs : s.size ≤ 281474976710656) :
    Calls Tryz.prog 84 #[.string s] w fun e w' => e = .returned (.tuple #[.int .i64 (wholeR s.data.toList).1, .int .i64 (wholeR s.data.toList).2]) ∧ Below w.heap.size w w' := by
  have HT := Lib.hid hT
  by_cases hok : ∃ v, Lib.parseIntB 32 s.data.toList = .ok v
  · obtain ⟨v, hv⟩ := hok
    have hb := Lib.parseIntB_bounds hv
    have hb1 : v ≤ 2147483647 := by have := hb.2; omega
    have hb0 : -2147483648 ≤ v := by have := hb.1; omega
    have HC := Lib.hid (parseInt_ok 32 (.inl rfl) s v w hs hv)
    by_cases h0 : v < 0
    · have e : wholeR s.data.toList = (0, 20) := wholeR_none fun n hn he => by
        rw [← he, parseIntB_dec 32 n (.inl rfl) (by omega)] at hv
        injection hv with hv
        omega
      rw [e]
      clear hv hb e hT hs
      go_enter Tryz.func84, Tryz.ntmps84
      go_wp2_with (go_at_call 100; refine HC.out.mono ?_; rintro e w' ⟨rfl, hw⟩)
      go_ret2
      exact ⟨rfl, hw⟩
    · obtain ⟨n, rfl⟩ : ∃ n : Nat, v = n := ⟨v.toNat, by omega⟩
      by_cases he : Lib.decDigits n = s.data.toList
      · have e : wholeR s.data.toList = ((n : Int), 0) := by rw [← he]; exact wholeR_dec (by omega)
        rw [e]
        have es : (⟨(Lib.itoa (n : Int)).toArray⟩ : ByteArray) = s := bytes_eq (by rw [Lib.itoa_nonneg]; exact he)
        have HES := Lib.hid es
        clear hv hb e hT hs he es
        go_enter Tryz.func84, Tryz.ntmps84
        go_wp2_with (first | (go_at_call 100; refine HC.out.mono ?_; rintro e w1 ⟨rfl, hw⟩) | (go_at_call 62; refine (formatInt_any _ (by omega) (by omega) _ (HT.out.on hw)).mono ?_; rintro e w2 ⟨rfl, hw2⟩; rw [HES.out]))
        go_ret2
        exact ⟨rfl, below_chain hw hw2⟩
      · have e : wholeR s.data.toList = (0, 20) := wholeR_none fun m hm hq => by
          rw [← hq, parseIntB_dec 32 m (.inl rfl) (by omega)] at hv
          injection hv with hv
          have : m = n := by omega
          subst this
          exact he hq
        rw [e]
        have es : (Lib.itoa (n : Int) == s.toList) = false := by
          rw [beq_eq_false_iff_ne, Lib.itoa_nonneg, ByteArray.toList_eq]
          exact he
        clear hv hb e hT hs he
        go_enter Tryz.func84, Tryz.ntmps84
        go_wp2_with (first | (go_at_call 100; refine HC.out.mono ?_; rintro e w1 ⟨rfl, hw⟩) | (go_at_call 62; refine (formatInt_any _ (by omega) (by omega) _ (HT.out.on hw)).mono ?_; rintro e w2 ⟨rfl, hw2⟩))
        go_ret2
        exact ⟨rfl, below_chain hw hw2⟩
  · have hno : ∀ v, Lib.parseIntB 32 s.data.toList ≠ .ok v := fun v h => hok ⟨v, h⟩
    have HC := Lib.hid (parseInt_err 32 (.inl rfl) s w hT hs hno)
    have e : wholeR s.data.toList = (0, 20) := wholeR_none fun n hn he => hno n (by rw [← he]; exact parseIntB_dec 32 n (.inl rfl) (by omega))
    rw [e]
    clear hok hno e hT hs
    go_enter Tryz.func84, Tryz.ntmps84
    go_wp2_with (go_at_call 100; refine HC.out.mono ?_; rintro e w' ⟨v, t, p, rfl, hw⟩)
    go_ret2
    exact ⟨rfl, hw⟩

theorem head_index (s : ByteArray) (c : UInt8) (h : s.data.toList.head? = some c) (W : World) : (Instr.index 9 (.string s) (.int .i64 0)).run Tryz.prog W = .ok (.int .u8 (c.toNat : Int)) W := by
  have hl : 0 < s.size := by
    rw [size_list]
    cases hd : s.data.toList with
    | nil => rw [hd] at h; cases h
    | cons a b => simp
  rw [run_index_string W 9 s .i64 0 Tryz.underlying9, dif_pos ⟨by omega, by omega⟩]
  have e : s[(0 : Int).toNat]'(by simpa using hl) = c := by
    rw [Lib.getD_at s _ (by simpa using hl)]
    cases hd : s.data.toList with
    | nil => rw [hd] at h; cases h
    | cons a b => rw [hd] at h; exact Option.some.inj h
  rw [e]
end Go.Proofs.YtlnobfmbnnfbdaaGreatDoor
