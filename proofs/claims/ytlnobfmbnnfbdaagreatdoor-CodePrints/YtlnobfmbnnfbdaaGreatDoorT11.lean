import Derived.Test.YtlnobfmbnnfbdaaGreatDoorT10
import Derived.Lib.IfaceEq
namespace Go.Proofs.YtlnobfmbnnfbdaaGreatDoor
open Go.ChangeShapes Go.WideShapes Go.ChangeAt Go.RowKit Num
attribute [local go_sem] frombits_run bits_run

def pu16 (l : List UInt8) : Lib.NumEnd Nat := if l = [] then noNum else parse16 0 l
set_option maxRecDepth 100000 in
theorem iParseUint16_any (t : ByteArray) (hmax : t.size ≤ 9223372036854775806) (w : World) :
    Calls Tryz.prog 132 #[.string t, .int .i64 16, .int .i64 64] w fun e w' => e = .returned (Lib.uintTuple 148 (pu16 t.data.toList)) ∧ Below w.heap.size w w' := by
  by_cases h : t.size = 0
  · have ht : t = ⟨#[]⟩ := bytes_eq (List.eq_nil_of_length_eq_zero (by rw [← size_list]; exact h))
    subst ht
    clear h hmax
    go_enter Tryz.func132, Tryz.ntmps132
    go_wp2
    go_ret2
    exact ⟨rfl, Below.refl _ _⟩
  · refine (iParseUint16 t h hmax w).mono fun e w' ⟨he, hw⟩ => ⟨?_, by rw [hw]; exact Lib.bytesWorld_below w 5 t⟩
    unfold pu16
    rw [if_neg (fun q => h (by rw [size_list, q]; rfl))]
    exact he
theorem uintTuple_ok (T : TypeId) (n : Nat) : Lib.uintTuple T (.ok n) = .tuple #[.int .u64 n, .nilIface] := rfl
theorem parseUint_ok (s : ByteArray) (n : Nat) (w : World) (hs : s.size ≤ 281474976710656) (h : pu16 s.data.toList = .ok n) :
    Calls Tryz.prog 130 #[.string s, .int .i64 16, .int .i64 64] w fun e w' => e = .returned (.tuple #[.int .u64 n, .nilIface]) ∧ Below w.heap.size w w' := by
  have c := iParseUint16_any s (by omega) w
  rw [h, uintTuple_ok] at c
  have HC := Lib.hid c
  clear c h hs
  go_enter Tryz.func130, Tryz.ntmps130
  go_wp2_with (go_at_call 132; refine HC.out.mono ?_; rintro e w1 ⟨rfl, hw⟩)
  go_ret2
  exact ⟨rfl, hw⟩
theorem var_cell1 {w : World} {tp : TypeId} {p : Value} (h : w.var? Tryz.prog "strconv.ErrSyntax" = some #[.iface tp p]) : w.cell? ⟨8, 0, none⟩ = some (.iface tp p) := by
  simpa using World.var?_cell (g := 8) (by kernel_rfl) h 0
theorem var_cell2 {w : World} {tp : TypeId} {p : Value} (h : w.var? Tryz.prog "strconv.ErrRange" = some #[.iface tp p]) : w.cell? ⟨9, 0, none⟩ = some (.iface tp p) := by
  simpa using World.var?_cell (g := 9) (by kernel_rfl) h 0
theorem toErr1 (fn s : ByteArray) (hs : s.size ≤ 281474976710656) (w1 : World) {tp : TypeId} {q : Value} (h : w1.cell? ⟨9, 0, none⟩ = some (.iface tp q)) :
    Calls Tryz.prog 122 #[.string fn, .string s, .int .i64 16, .int .i64 64, .iface 148 (.int .i64 1)] w1 fun e w' => ∃ t p, e = .returned (.iface t p) ∧ Below w1.heap.size w1 w' :=
  (Any.strconv_toError_range Tryz.laysC245 fn s 16 64 _ w1 hs h (.inr ⟨_, _, rfl⟩)).mono fun _ _ ⟨_, he, _, _, hw⟩ => ⟨_, _, he, hw⟩
theorem toErr2 (fn s : ByteArray) (hs : s.size ≤ 281474976710656) (w1 : World) {tp : TypeId} {q : Value} (h : w1.cell? ⟨8, 0, none⟩ = some (.iface tp q)) :
    Calls Tryz.prog 122 #[.string fn, .string s, .int .i64 16, .int .i64 64, .iface 148 (.int .i64 2)] w1 fun e w' => ∃ t p, e = .returned (.iface t p) ∧ Below w1.heap.size w1 w' := by
  have heq : ∀ W, (binOp .eql 59 (.iface 148 (.int .i64 2)) (.iface 148 (.int .i64 2))).run Tryz.prog W = .ok (.bool true) W := fun W => Lib.run_eql_iface_int W 2 2 Tryz.underlying59 Tryz.laysC245.c167 Tryz.underlying148
  have HC := Lib.hid (Any.strconv_syntaxError { Tryz.laysC245 with } fn s _ w1 hs h (.inr ⟨_, _, rfl⟩))
  clear hs h
  go_enter Tryz.func122, Tryz.ntmps122
  go_wp2_with (go_at_call 133; refine HC.out.mono ?_; rintro e w2 ⟨M, rfl, _, _, hw⟩)
  go_ret
  exact ⟨_, _, rfl, hw⟩
theorem parseUint_err (s : ByteArray) (w : World) (hT : Tabs w) (hs : s.size ≤ 281474976710656) (h : ∀ n, pu16 s.data.toList ≠ .ok n) :
    Calls Tryz.prog 130 #[.string s, .int .i64 16, .int .i64 64] w fun e w' => ∃ v t p, e = .returned (.tuple #[.int .u64 v, .iface t p]) ∧ Below w.heap.size w w' := by
  have c := iParseUint16_any s (by omega) w
  have hv : ∃ v k : Int, (k = 1 ∨ k = 2) ∧ Lib.uintTuple 148 (pu16 s.data.toList) = .tuple #[.int .u64 v, .iface 148 (.int .i64 k)] := by
    cases hc : pu16 s.data.toList
    · exact absurd hc (h _)
    · exact ⟨_, 2, .inr rfl, rfl⟩
    · exact ⟨_, 1, .inl rfl, rfl⟩
  obtain ⟨v, k, hk, e⟩ := hv
  rw [e] at c
  have HC := Lib.hid c
  have HT := Lib.hid hT
  clear c h e hT
  have herr : ∀ w1 : World, Below w.heap.size w w1 → ∀ fn, Calls Tryz.prog 122 #[.string fn, .string s, .int .i64 16, .int .i64 64, .iface 148 (.int .i64 k)] w1 fun e w' => ∃ t p, e = .returned (.iface t p) ∧ Below w1.heap.size w1 w' := by
    intro w1 hw fn
    have hT1 := HT.out.on hw
    obtain ⟨t1, p1, h1⟩ := hT1.syn
    obtain ⟨t2, p2, h2⟩ := hT1.rng
    rcases hk with rfl | rfl
    · exact toErr1 fn s hs w1 (var_cell2 h2)
    · exact toErr2 fn s hs w1 (var_cell1 h1)
  have HE := Lib.hid herr
  clear herr hs hk
  go_enter Tryz.func130, Tryz.ntmps130
  go_wp2_with (first | (go_at_call 132; refine HC.out.mono ?_; rintro e w1 ⟨rfl, hw⟩) | (go_at_call 122; refine (HE.out _ hw _).mono ?_; rintro e w2 ⟨t, p, rfl, hw2⟩))
  go_ret2
  exact ⟨_, _, _, rfl, below_chain hw hw2⟩

/-! what a text seems to be -/
def gbT (l : List UInt8) : Nat := match pu16 l with
  | .ok n => fixB n
  | _ => 0
theorem guessBits_any (s : ByteArray) (w : World) (hT : Tabs w) (hs : s.size ≤ 281474976710656) :
    Calls Tryz.prog 120 #[.string s] w fun e w' => e = .returned (.float .f64 (gbT s.data.toList)) ∧ Below w.heap.size w w' := by
  by_cases hok : ∃ n, pu16 s.data.toList = .ok n
  · obtain ⟨n, hn⟩ := hok
    have HC := Lib.hid (parseUint_ok s n w hs hn)
    have e : gbT s.data.toList = fixB n := by unfold gbT; rw [hn]
    rw [e]
    clear hn e hs hT
    go_enter Tryz.func120, Tryz.ntmps120
    go_wp2_with (first | (go_at_call 130; refine HC.out.mono ?_; rintro e w1 ⟨rfl, hw⟩) | (go_at_call 131; refine (of_any _ _).mono ?_; rintro e w2 ⟨rfl, rfl⟩))
    go_ret
    exact ⟨rfl, hw⟩
  · have hno : ∀ n, pu16 s.data.toList ≠ .ok n := fun n h => hok ⟨n, h⟩
    have HC := Lib.hid (parseUint_err s w hT hs hno)
    have e : gbT s.data.toList = 0 := by
      unfold gbT
      split
      · exact absurd (by assumption) (hno _)
      · rfl
    rw [e]
    clear hok hno e hs hT
    go_enter Tryz.func120, Tryz.ntmps120
    go_wp2_with (first | (go_at_call 130; refine HC.out.mono ?_; rintro e w1 ⟨v, t, p, rfl, hw⟩))
    go_ret
    exact ⟨rfl, hw⟩
def giT (l : List UInt8) : Nat := match Lib.parseIntB 64 l with
  | .ok n => floatOfInt .f64 n
  | _ => 0
/-- the program's guess -/
def gT (l : List UInt8) : Nat :=
  if l = [110, 97, 110] then 9221120237041090560 else if l = [105, 110, 102] then 9218868437227405312 else if l = [45, 105, 110, 102] then 18442240474082181120
  else if l = [45, 48] then 9223372036854775808 else if l.head? = some 120 then gbT l.tail else giT l
theorem floatOfInt_lt (n : Int) : floatOfInt .f64 n < 18446744073709551616 := by
  have := floatOfInt_wf .f64 n
  simpa [Lit.wf] using this
theorem parse16_lt : ∀ (l : List UInt8) (acc n : Nat), acc < 18446744073709551616 → parse16 acc l = .ok n → n < 18446744073709551616
  | [], acc, n, ha, h => by
    have : acc = n := by
      have h' : Lib.NumEnd.ok acc = .ok n := h
      injection h'
    omega
  | c :: l, acc, n, ha, h => by
    have h' : (if 16 ≤ hvN c then noNum else if 1152921504606846976 ≤ acc then .range else parse16 (acc * 16 + hvN c) l) = Lib.NumEnd.ok n := h
    split at h'
    · exact absurd h' (noNum_ne n)
    · split at h'
      · cases h'
      · exact parse16_lt l _ n (by omega) h'
theorem gbT_lt (l : List UInt8) : gbT l < 18446744073709551616 := by
  unfold gbT
  split
  · rename_i n h
    unfold pu16 at h
    split at h
    · exact absurd h (noNum_ne _)
    · exact fixB_lt (parse16_lt _ _ _ (by decide) h)
  · decide
theorem giT_lt (l : List UInt8) : giT l < 18446744073709551616 := by
  unfold giT
  split
  · exact floatOfInt_lt _
  · decide
theorem gT_lt (l : List UInt8) : gT l < 18446744073709551616 := by
  have h1 := gbT_lt l.tail
  have h2 := giT_lt l
  unfold gT
  split
  · decide
  · split
    · decide
    · split
      · decide
      · split
        · decide
        · split
          · exact h1
          · exact h2

theorem tail_slice (s : ByteArray) (h : 1 ≤ s.size) (W : World) : (Instr.slice 9 (.string s) (some (.int .i64 1)) none none).run Tryz.prog W = .ok (.string ⟨s.data.toList.tail.toArray⟩) W := by
  rw [run_slice_string_from_if W 9 s .i64 1 Tryz.underlying9, if_pos ⟨by omega, by omega⟩]
  congr 2
  apply bytes_eq
  have e : (s.extract (1 : Int).toNat s.size).data.toList = (s.data.toList.drop 1).take (s.size - 1) := by
    have := ByteArray.extract_mk s.data.toList 1 s.size
    have hs : (ByteArray.mk s.data.toList.toArray) = s := bytes_eq rfl
    rw [hs] at this
    rw [show (1 : Int).toNat = 1 from rfl, this]
  rw [e, List.take_of_length_le (by rw [List.length_drop, ← size_list]; exact Nat.le_refl _)]
  exact List.drop_one
theorem str_ne {s : ByteArray} {l : List UInt8} (h : s.data.toList ≠ l) : (s.toList == l) = false := by
  rw [beq_eq_false_iff_ne, ByteArray.toList_eq]; exact h
theorem str_eq {s : ByteArray} {l : List UInt8} (h : s.data.toList = l) : (s.toList == l) = true := by
  rw [beq_iff_eq, ByteArray.toList_eq]; exact h
theorem hasPrefix_x (l : List UInt8) : Lib.hasPrefix l [120] = decide (l.head? = some 120) := by
  cases l with
  | nil => rfl
  | cons a b =>
    rw [Bool.eq_iff_iff, decide_eq_true_eq]
    show ((120 == a && [].isPrefixOf b) = true) ↔ some a = some 120
    simp
    exact eq_comm
set_option maxHeartbeats 4000000 in
set_option maxRecDepth 100000 in
theorem guess_any (s : ByteArray) (w : World) (hT : Tabs w) (hs : s.size ≤ 281474976710656) :
    Calls Tryz.prog 99 #[.string s] w fun e w' => e = .returned (.float .f64 (gT s.data.toList)) ∧ Below w.heap.size w w' := by
  by_cases h1 : s.data.toList = [110, 97, 110]
  · have e : gT s.data.toList = 9221120237041090560 := by unfold gT; rw [if_pos h1]
    rw [e]
    have es : s = ⟨#[110, 97, 110]⟩ := bytes_eq h1
    subst es
    have hf : fixB 9221120237041090561 = 9221120237041090560 := by decide
    clear e hs hT h1
    go_enter Tryz.func99, Tryz.ntmps99
    go_wp2_with (first | (go_at_call 75; refine (fix_any _ _).mono ?_; rintro e w2 ⟨rfl, rfl⟩) | go_in)
    go_ret
    exact ⟨rfl, Below.refl _ _⟩
  by_cases h2 : s.data.toList = [105, 110, 102]
  · have e : gT s.data.toList = 9218868437227405312 := by unfold gT; rw [if_neg h1, if_pos h2]
    rw [e]
    have es : s = ⟨#[105, 110, 102]⟩ := bytes_eq h2
    subst es
    clear e hs hT h1 h2
    go_enter Tryz.func99, Tryz.ntmps99
    go_wp2
    go_ret
    exact ⟨rfl, Below.refl _ _⟩
  by_cases h3 : s.data.toList = [45, 105, 110, 102]
  · have e : gT s.data.toList = 18442240474082181120 := by unfold gT; rw [if_neg h1, if_neg h2, if_pos h3]
    rw [e]
    have es : s = ⟨#[45, 105, 110, 102]⟩ := bytes_eq h3
    subst es
    clear e hs hT h1 h2 h3
    go_enter Tryz.func99, Tryz.ntmps99
    go_wp2
    go_ret
    exact ⟨rfl, Below.refl _ _⟩
  by_cases h4 : s.data.toList = [45, 48]
  · have e : gT s.data.toList = 9223372036854775808 := by unfold gT; rw [if_neg h1, if_neg h2, if_neg h3, if_pos h4]
    rw [e]
    have es : s = ⟨#[45, 48]⟩ := bytes_eq h4
    subst es
    have k1 : bits .andNot .u64 0 9223372036854775808 = 0 := by decide +kernel
    have k2 : bits .and .u64 13830554455654793216 9223372036854775808 = 9223372036854775808 := by decide +kernel
    have k3 : bits .or .u64 0 9223372036854775808 = 9223372036854775808 := by decide +kernel
    clear e hs hT h1 h2 h3 h4
    go_enter Tryz.func99, Tryz.ntmps99
    go_wp2
    go_ret
    exact ⟨rfl, Below.refl _ _⟩
  have i1 := str_ne h1
  have i2 := str_ne h2
  have i3 := str_ne h3
  have i4 := str_ne h4
  by_cases h5 : s.data.toList.head? = some 120
  · have e : gT s.data.toList = gbT s.data.toList.tail := by unfold gT; rw [if_neg h1, if_neg h2, if_neg h3, if_neg h4, if_pos h5]
    rw [e]
    have hl : 1 ≤ s.size := by
      rw [size_list]
      cases hd : s.data.toList with
      | nil => rw [hd] at h5; cases h5
      | cons a b => simp
    have hsl := tail_slice s hl
    have hpx : Lib.hasPrefix s.data.toList [120] = true := by rw [hasPrefix_x, decide_eq_true h5]
    have HC := Lib.hid (guessBits_any ⟨s.data.toList.tail.toArray⟩ w hT (by rw [size_list]; show s.data.toList.tail.length ≤ _; rw [List.length_tail, ← size_list]; omega))
    clear e hs hT h1 h2 h3 h4 h5 hl
    go_enter Tryz.func99, Tryz.ntmps99
    go_wp2_with (first | (go_at_call 95; refine (hasPrefix_any _ _ _).mono ?_; rintro e w2 ⟨rfl, hw⟩; subst w2) | (go_at_call 120; refine HC.out.mono ?_; rintro e w1 ⟨rfl, hw⟩))
    go_ret
    exact ⟨rfl, hw⟩
  · have e : gT s.data.toList = giT s.data.toList := by unfold gT; rw [if_neg h1, if_neg h2, if_neg h3, if_neg h4, if_neg h5]
    rw [e]
    have hpx : Lib.hasPrefix s.data.toList [120] = false := by rw [hasPrefix_x, decide_eq_false h5]
    by_cases hok : ∃ n, Lib.parseIntB 64 s.data.toList = .ok n
    · obtain ⟨n, hn⟩ := hok
      have HC := Lib.hid (parseInt_ok 64 (.inr rfl) s n w hs hn)
      have e2 : giT s.data.toList = floatOfInt .f64 n := by unfold giT; rw [hn]
      rw [e2]
      clear e e2 hs hT h1 h2 h3 h4 h5 hn
      go_enter Tryz.func99, Tryz.ntmps99
      go_wp2_with (first | (go_at_call 95; refine (hasPrefix_any _ _ _).mono ?_; rintro e w2 ⟨rfl, hw⟩; subst w2) | (go_at_call 100; refine HC.out.mono ?_; rintro e w1 ⟨rfl, hw⟩))
      go_ret
      exact ⟨rfl, hw⟩
    · have hno : ∀ n, Lib.parseIntB 64 s.data.toList ≠ .ok n := fun n h => hok ⟨n, h⟩
      have HC := Lib.hid (parseInt_err 64 (.inr rfl) s w hT hs hno)
      have e2 : giT s.data.toList = 0 := by
        unfold giT
        split
        · exact absurd (by assumption) (hno _)
        · rfl
      rw [e2]
      clear e e2 hs hT h1 h2 h3 h4 h5 hok hno
      go_enter Tryz.func99, Tryz.ntmps99
      go_wp2_with (first | (go_at_call 95; refine (hasPrefix_any _ _ _).mono ?_; rintro e w2 ⟨rfl, hw⟩; subst w2) | (go_at_call 100; refine HC.out.mono ?_; rintro e w1 ⟨v, t, p, rfl, hw⟩))
      go_ret
      exact ⟨rfl, hw⟩
end Go.Proofs.YtlnobfmbnnfbdaaGreatDoor
