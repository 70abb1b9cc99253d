import Derived.Test.YthnpgbmagfhgpaaDoorRows
import Derived.WalkKit
import Derived.ProofKit
import Derived.OpenShut
import Derived.WalkLawsBesides
import Derived.Laws.OwnMore
import Derived.OneCell
import Derived.Lib.Hide
import Derived.Lib.SliceRun
import Derived.WalkSmall
import Derived.BigQuiet
import Derived.Deep.RegionWith
import Derived.Deep.QuietTactic
import Derived.OwnWalk
import Derived.Maps.AppendAt
import Derived.Laws.CopyRow
import Derived.Laws.FloatArith
import Derived.Laws.Bits64
import Derived.Laws.BitsAllLaws
import Derived.Laws.EntriesVeiled
import Derived.Deep.RegionHeld
import Derived.Deep.AppendLies
import Derived.Maps.OwnSet
import Derived.Lib.IndexMore
import Derived.Deep.RegionLaw
import Derived.Shelf.SlMaps.Clone
import Derived.Laws.FloatBits
import Derived.StillTailTactics
import Derived.Laws.StructEq
import Derived.Test.YthnpgbmagfhgpaaDoorTie
import Derived.LaidMore
import Derived.Handed
import Derived.SizedLaws
import Derived.ChangeSame
import Derived.ChangeVars
import Derived.JoinedOf
import Derived.RowKitTokens
import Derived.LaidLaws
import Derived.LaidHandle
import Derived.MakeChecks
import Derived.Lib.LaidTab
import Derived.Stop.LaidErr
import Derived.Stop.Joined
import Derived.SevenTiedAt
import Derived.ChangeMaps5
import Derived.HandedShaped
import Derived.Deep.Slices
import Derived.Carry
import Derived.Recover
import Derived.Defers
import Derived.Deep.LoopGhost
import Derived.Maps.RangeWalk
import Derived.Deep.AppendSrc
import Derived.Deep.CutBlock
import Derived.Deep.DeepCutAuto
import Derived.Laws.ResultCell
import Derived.Lib.AppendZeros
namespace Go.Proofs.YthnpgbmagfhgpaaDoor
open Go.ChangeShapes Go.WideShapes Go.ChangeAt Go.RowKit
structure Same (w w' : World) : Prop where
  os : w'.os = w.os
  tape : w'.tape = w.tape
  output : w'.output = w.output
  heap : w'.heap = w.heap
theorem Same.drew (w : World) : Same w w.drew := ⟨rfl, rfl, rfl, rfl⟩
theorem Same.below {w w' : World} (h : Same w w') (B : Nat) : Below B w w' := ⟨h.os, h.tape, h.output, by rw [h.heap]; exact Nat.le_refl _, fun k _ => by rw [h.heap]⟩
structure Turn (F F' : List Nat) (w w' : World) : Prop where
  os : w'.os = w.os
  tape : w'.tape = w.tape
  output : w'.output = w.output
  size : w.heap.size ≤ w'.heap.size
  block : ∀ k, k < w.heap.size → k ∉ F → w'.heap[k]? = w.heap[k]?
  own : ∀ k, k ∈ F' → k ∈ F ∨ w.heap.size ≤ k
theorem Turn.refl (F : List Nat) (w : World) : Turn F F w w := ⟨rfl, rfl, rfl, Nat.le_refl _, fun _ _ _ => rfl, fun _ h => .inl h⟩
theorem Turn.trans {F G H : List Nat} {a b c : World} (h : Turn F G a b) (k : Turn G H b c) : Turn F H a c :=
  ⟨k.os.trans h.os, k.tape.trans h.tape, k.output.trans h.output, Nat.le_trans h.size k.size,
   fun i hi hf => (k.block i (Nat.lt_of_lt_of_le hi h.size) (fun q => (h.own i q).elim hf (fun z => absurd hi (Nat.not_lt.2 z)))).trans (h.block i hi hf),
   fun i hi => (k.own i hi).elim (h.own i) (fun z => .inr (Nat.le_trans h.size z))⟩
theorem Same.turn {w w' : World} (h : Same w w') (F : List Nat) : Turn F F w w' := ⟨h.os, h.tape, h.output, by rw [h.heap]; exact Nat.le_refl _, fun k _ _ => by rw [h.heap], fun _ q => .inl q⟩
theorem Turn.mono {F F' G : List Nat} {w w' : World} (h : Turn F F' w w') (hg : ∀ k, k ∈ G → k ∈ F ∨ w.heap.size ≤ k) : Turn F G w w' := ⟨h.os, h.tape, h.output, h.size, h.block, hg⟩
def Sep (F G : List Nat) : Prop := ∀ k, k ∈ F → k ∉ G
def Abv (B : Nat) (F : List Nat) : Prop := ∀ k, k ∈ F → B ≤ k
def Blw (w : World) (F : List Nat) : Prop := ∀ k, k ∈ F → k < w.heap.size
theorem Sep.symm {F G : List Nat} (h : Sep F G) : Sep G F := fun k hk q => h k q hk
theorem Abv.turn {B : Nat} {F F' : List Nat} {w w' : World} (h : Abv B F) (hB : B ≤ w.heap.size) (k : Turn F F' w w') : Abv B F' := fun i hi => (k.own i hi).elim (h i) (Nat.le_trans hB)
theorem Turn.below {B : Nat} {F F' : List Nat} {w w' : World} (k : Turn F F' w w') (h : Abv B F) (hB : B ≤ w.heap.size) : Below B w w' :=
  ⟨k.os, k.tape, k.output, k.size, fun i hi => k.block i (by omega) (fun q => absurd (h i q) (by omega))⟩
theorem Abv.mono {B B' : Nat} {F : List Nat} (h : Abv B F) (k : B' ≤ B) : Abv B' F := fun i hi => Nat.le_trans k (h i hi)
def Kept (F : List Nat) (w w' : World) : Prop := w.heap.size ≤ w'.heap.size ∧ ∀ k, k ∈ F → w'.heap[k]? = w.heap[k]?
theorem Turn.kept {F G G' : List Nat} {w w' : World} (k : Turn G G' w w') (h : Sep F G) (hb : Blw w F) : Kept F w w' := ⟨k.size, fun i hi => k.block i (hb i hi) (h i hi)⟩
theorem kept_below {F : List Nat} {w w' : World} (k : Below w.heap.size w w') (hb : Blw w F) : Kept F w w' := ⟨k.size, fun i hi => k.block i (hb i hi)⟩
theorem Same.kept {w w' : World} (h : Same w w') (F : List Nat) : Kept F w w' := ⟨by rw [h.heap]; exact Nat.le_refl _, fun i _ => by rw [h.heap]⟩
def fpR (p : Option Addr) : List Nat := (p.map (·.block)).toList
theorem own_fpR {p : Option Addr} {n c k : Nat} : k ∈ fpR p ↔ (Value.slice p n c).ownBlock = some k := by
  cases p <;> simp [fpR, Value.ownBlock, eq_comm]
end Go.Proofs.YthnpgbmagfhgpaaDoor
namespace Go.Proofs.YthnpgbmagfhgpaaDoor
open Go.ChangeShapes Go.WideShapes Go.ChangeAt Go.RowKit
end Go.Proofs.YthnpgbmagfhgpaaDoor
namespace Go.Proofs.YthnpgbmagfhgpaaDoor.Num
open Ieee
def neg (b : Nat) : Bool := b / 9223372036854775808 % 2 == 1
def rung (b : Nat) : Nat := b % 9223372036854775808
theorem read_eq (b : Nat) : double.read b =
    if rung b < 4503599627370496 then .number (neg b) (rung b) (-1074)
    else if rung b < 9218868437227405312 then .number (neg b) (4503599627370496 + rung b % 4503599627370496) (-1074 + (rung b / 4503599627370496 - 1 : Nat))
    else if rung b = 9218868437227405312 then .infinity (neg b)
    else .nan (neg b) (rung b - 9218868437227405312) := rfl
def val (r : Nat) : Nat := if r < 4503599627370496 then r else (4503599627370496 + r % 4503599627370496) * 2 ^ (r / 4503599627370496 - 1)
theorem val_lt {r s : Nat} (h : r < s) : val r < val s := by
  unfold val
  by_cases h1 : s < 4503599627370496
  · rw [if_pos h1, if_pos (by omega)]; exact h
  · rw [if_neg h1]
    have p2 : 0 < 2 ^ (s / 4503599627370496 - 1) := Nat.two_pow_pos _
    by_cases h2 : r < 4503599627370496
    · rw [if_pos h2]
      have := Nat.le_mul_of_pos_right (4503599627370496 + s % 4503599627370496) p2
      omega
    · rw [if_neg h2]
      by_cases hq : r / 4503599627370496 = s / 4503599627370496
      · rw [hq]
        exact Nat.mul_lt_mul_of_pos_right (by omega) p2
      · have e : s / 4503599627370496 - 1 = (r / 4503599627370496 - 1) + 1 + (s / 4503599627370496 - r / 4503599627370496 - 1) := by omega
        have p1 : 0 < 2 ^ (r / 4503599627370496 - 1) := Nat.two_pow_pos _
        have p3 : 0 < 2 ^ (s / 4503599627370496 - r / 4503599627370496 - 1) := Nat.two_pow_pos _
        calc (4503599627370496 + r % 4503599627370496) * 2 ^ (r / 4503599627370496 - 1)
            < (4503599627370496 * 2) * 2 ^ (r / 4503599627370496 - 1) := Nat.mul_lt_mul_of_pos_right (by omega) p1
          _ = 4503599627370496 * 2 ^ ((r / 4503599627370496 - 1) + 1) := by rw [Nat.pow_succ, Nat.mul_assoc, Nat.mul_comm 2]
          _ ≤ 4503599627370496 * 2 ^ ((r / 4503599627370496 - 1) + 1) * 2 ^ (s / 4503599627370496 - r / 4503599627370496 - 1) := Nat.le_mul_of_pos_right _ p3
          _ = 4503599627370496 * 2 ^ (s / 4503599627370496 - 1) := by rw [Nat.mul_assoc, ← Nat.pow_add, ← e]
          _ ≤ _ := Nat.mul_le_mul_right _ (by omega)
def sval (b : Nat) : Int := if neg b then -(val (rung b) : Int) else val (rung b)
def key (b : Nat) : Int := if neg b then -(rung b : Int) else rung b
def nan (b : Nat) : Bool := decide (9218868437227405312 < rung b)
theorem sval_key (a b : Nat) : compare (sval a) (sval b) = compare (key a) (key b) := by
  have mono : ∀ r s, (val r < val s ↔ r < s) := fun r s => ⟨fun h => by
      by_cases g : r < s
      · exact g
      · rcases Nat.eq_or_lt_of_le (Nat.le_of_not_lt g) with e | e
        · subst e; omega
        · have := val_lt e; omega, val_lt⟩
  have h1 := mono (rung a) (rung b)
  have h2 := mono (rung b) (rung a)
  have z1 := mono 0 (rung a)
  have z2 := mono 0 (rung b)
  have e0 : val 0 = 0 := rfl
  rw [e0] at z1 z2
  have hlt : (sval a < sval b ↔ key a < key b) := by unfold sval key; split <;> split <;> omega
  have hgt : (sval b < sval a ↔ key b < key a) := by unfold sval key; split <;> split <;> omega
  simp only [compare, compareOfLessAndEq]
  by_cases c1 : key a < key b
  · rw [if_pos c1, if_pos (hlt.2 c1)]
  · rw [if_neg c1, if_neg (fun h => c1 (hlt.1 h))]
    by_cases c2 : key a = key b
    · rw [if_pos c2, if_pos (by have := hlt.1; have := hgt.1; omega)]
    · rw [if_neg c2, if_neg (by have := hlt.2; have := hgt.2; omega)]
theorem signed_scale (s : Bool) (m k j : Nat) : signed s m (k + j) = signed s m k * 2 ^ j := by
  unfold signed
  simp only [Nat.shiftLeft_eq, Nat.pow_add]
  split
  · push_cast; rw [Int.neg_mul, Int.mul_assoc]
  · push_cast; rw [Int.mul_assoc]
theorem compare_scale (x y : Int) (j : Nat) : compare (x * 2 ^ j) (y * 2 ^ j) = compare x y := by
  have p : (0 : Int) < 2 ^ j := Int.pow_pos (by decide)
  simp only [compare, compareOfLessAndEq]
  have h1 : (x * 2 ^ j < y * 2 ^ j ↔ x < y) := ⟨fun h => Int.lt_of_mul_lt_mul_right h (Int.le_of_lt p), fun h => Int.mul_lt_mul_of_pos_right h p⟩
  have h2 : (x * 2 ^ j = y * 2 ^ j ↔ x = y) := ⟨fun h => Int.eq_of_mul_eq_mul_right (by omega) h, fun h => by rw [h]⟩
  simp only [h1, h2]
theorem order_numbers (s t : Bool) (m n k l : Nat) : (Datum.number s m (-1074 + k)).order (.number t n (-1074 + l)) = some (compare (signed s m k) (signed t n l)) := by
  have e : ∀ x : Nat, ((-1074 + (x : Int)) - min (-1074 + (k : Int)) (-1074 + l)).toNat = x - min k l := fun x => by omega
  simp only [Datum.order, e]
  have h1 := signed_scale s m (k - min k l) (min k l)
  have h2 := signed_scale t n (l - min k l) (min k l)
  rw [show k - min k l + min k l = k by omega] at h1
  rw [show l - min k l + min k l = l by omega] at h2
  rw [h1, h2, compare_scale]
theorem read_nan {b : Nat} (h : nan b = true) : double.read b = .nan (neg b) (rung b - 9218868437227405312) := by
  have h' : 9218868437227405312 < rung b := by simpa [nan] using h
  rw [read_eq, if_neg (by omega), if_neg (by omega), if_neg (by omega)]
theorem read_fin {b : Nat} (h : rung b < 9218868437227405312) : ∃ m k : Nat, double.read b = .number (neg b) m (-1074 + k) ∧ m * 2 ^ k = val (rung b) := by
  rw [read_eq]
  by_cases h1 : rung b < 4503599627370496
  · rw [if_pos h1]; exact ⟨_, 0, rfl, by simp [val, h1]⟩
  · rw [if_neg h1, if_pos h]; exact ⟨_, _, rfl, by simp [val, h1]⟩
theorem read_inf {b : Nat} (h : rung b = 9218868437227405312) : double.read b = .infinity (neg b) := by
  rw [read_eq, if_neg (by omega), if_neg (by omega), if_pos h]
theorem signed_mul (s : Bool) (m k : Nat) : signed s m k = if s then -((m * 2 ^ k : Nat) : Int) else ((m * 2 ^ k : Nat) : Int) := by
  unfold signed; simp only [Nat.shiftLeft_eq]
theorem compare_lt {a b : Int} (h : a < b) : compare a b = .lt := by simp only [compare, compareOfLessAndEq, if_pos h]
theorem compare_gt {a b : Int} (h : b < a) : compare a b = .gt := by simp only [compare, compareOfLessAndEq]; rw [if_neg (by omega), if_neg (by omega)]
theorem compare_eq {a b : Int} (h : a = b) : compare a b = .eq := by simp only [compare, compareOfLessAndEq]; rw [if_neg (by omega), if_pos h]
theorem order_key (a b : Nat) (ha : nan a = false) (hb : nan b = false) : double.order a b = some (compare (key a) (key b)) := by
  have ha' : rung a ≤ 9218868437227405312 := by simpa [nan] using ha
  have hb' : rung b ≤ 9218868437227405312 := by simpa [nan] using hb
  unfold Format.order
  by_cases h1 : rung a < 9218868437227405312 <;> by_cases h2 : rung b < 9218868437227405312
  · obtain ⟨m, k, e1, v1⟩ := read_fin h1
    obtain ⟨n, l, e2, v2⟩ := read_fin h2
    rw [e1, e2, order_numbers, signed_mul, signed_mul, v1, v2]
    exact congrArg some (sval_key a b)
  · have e : rung b = 9218868437227405312 := by omega
    obtain ⟨m, k, e1, v1⟩ := read_fin h1
    rw [e1, read_inf e]
    show some (if neg b then Ordering.gt else Ordering.lt) = _
    unfold key
    cases neg b
    · rw [compare_lt (by simp; split <;> omega)]; rfl
    · rw [compare_gt (by simp; split <;> omega)]; rfl
  · have e : rung a = 9218868437227405312 := by omega
    obtain ⟨m, k, e1, v1⟩ := read_fin h2
    rw [e1, read_inf e]
    show some (if neg a then Ordering.lt else Ordering.gt) = _
    unfold key
    cases neg a
    · rw [compare_gt (by simp; split <;> omega)]; rfl
    · rw [compare_lt (by simp; split <;> omega)]; rfl
  · have e : rung a = 9218868437227405312 := by omega
    have e' : rung b = 9218868437227405312 := by omega
    rw [read_inf e, read_inf e']
    unfold key
    rw [e, e']
    cases neg a <;> cases neg b <;> rfl
theorem order_nan_left (a b : Nat) (h : nan a = true) : double.order a b = none := by
  unfold Format.order; rw [read_nan h]; rfl
def fixB (b : Nat) : Nat := if nan b then 9221120237041090560 else b
theorem fixB_nan {b : Nat} (h : nan b = true) : fixB b = 9221120237041090560 := by unfold fixB; rw [h]; rfl
theorem fixB_num {b : Nat} (h : nan b = false) : fixB b = b := by unfold fixB; rw [h]; rfl
theorem nan_const : nan 9221120237041090560 = true := by decide
theorem fixB_fixB (b : Nat) : fixB (fixB b) = fixB b := by
  cases h : nan b
  · rw [fixB_num h, fixB_num h]
  · rw [fixB_nan h, fixB_nan nan_const]
theorem self_nan {b : Nat} (h : nan b = true) : FloatKind.f64.format.order b b = none := order_nan_left b b h
theorem self_num {b : Nat} (h : nan b = false) : FloatKind.f64.format.order b b = some .eq := by
  have := order_key b b h h
  rw [compare_eq rfl] at this
  exact this
theorem nan_zero : nan 0 = false := by decide
end Go.Proofs.YthnpgbmagfhgpaaDoor.Num
namespace Go.Proofs.YthnpgbmagfhgpaaDoor
open Go.ChangeShapes Go.WideShapes Go.ChangeAt Go.RowKit Num
theorem frombits_run (n : Int) (w : World) : (callFunc 70 #[.int .u64 n]).run Tryd.prog w = .ok (.value (.float .f64 n.toNat)) w := by
  rw [run_callFunc_extern (e := Extern.MathFloatBits.float64frombits) Tryd.func70 (by kernel_rfl) (by kernel_rfl) (by kernel_rfl) (by kernel_rfl)]
  rfl
theorem bits_run (b : Nat) (w : World) : (callFunc 76 #[.float .f64 b]).run Tryd.prog w = .ok (.value (.int .u64 b)) w := by
  rw [run_callFunc_extern (e := Extern.MathFloatBits.float64bits) Tryd.func76 (by kernel_rfl) (by kernel_rfl) (by kernel_rfl) (by kernel_rfl)]
  rfl
attribute [local go_sem] frombits_run bits_run
theorem fix_any (b : Nat) (w : World) : Calls Tryd.prog 77 #[.float .f64 b] w fun e w' => e = .returned (.float .f64 (fixB b)) ∧ w' = w := by
  cases g : nan b
  · have h := self_num g
    rw [fixB_num g]
    clear g
    go_enter Tryd.func77, Tryd.ntmps77
    go_wp2
    go_ret
    exact ⟨rfl, rfl⟩
  · have h := self_nan g
    rw [fixB_nan g]
    clear g
    go_enter Tryd.func77, Tryd.ntmps77
    go_wp2
    go_ret
    exact ⟨rfl, rfl⟩
theorem bits_any (b : Nat) (w : World) : Calls Tryd.prog 75 #[.float .f64 b] w fun e w' => e = .returned (.int .u64 (fixB b)) ∧ w' = w := by
  go_enter Tryd.func75, Tryd.ntmps75
  go_wp2_with (go_at_call 77; refine (fix_any _ _).mono ?_; rintro e w' ⟨rfl, rfl⟩)
  go_ret
  exact ⟨rfl, rfl⟩
theorem isNaN_any (b : Nat) (w : World) : Calls Tryd.prog 69 #[.float .f64 b] w fun e w' => e = .returned (.bool (nan b)) ∧ w' = w := by
  cases g : nan b
  · have h := self_num g
    clear g
    go_enter Tryd.func69, Tryd.ntmps69
    go_wp2
    go_ret
    exact ⟨rfl, rfl⟩
  · have h := self_nan g
    clear g
    go_enter Tryd.func69, Tryd.ntmps69
    go_wp2
    go_ret
    exact ⟨rfl, rfl⟩
theorem same_any (a b : Nat) (w : World) : Calls Tryd.prog 74 #[.float .f64 a, .float .f64 b] w fun e w' => e = .returned (.bool (fixB a == fixB b)) ∧ w' = w := by
  have h : ((fixB a : Int) == (fixB b : Int)) = (fixB a == fixB b) := by rw [Bool.eq_iff_iff, beq_iff_eq, beq_iff_eq]; omega
  go_enter Tryd.func74, Tryd.ntmps74
  go_wp2_with (go_at_call 75; refine (bits_any _ _).mono ?_; rintro e w' ⟨rfl, rfl⟩)
  go_ret
  exact ⟨rfl, rfl⟩
end Go.Proofs.YthnpgbmagfhgpaaDoor
namespace Go.Proofs.YthnpgbmagfhgpaaDoor
open Go.ChangeShapes Go.WideShapes Go.ChangeAt Go.RowKit Num
attribute [local go_sem] frombits_run bits_run
end Go.Proofs.YthnpgbmagfhgpaaDoor
namespace Go.Proofs.YthnpgbmagfhgpaaDoor
open Go.ChangeShapes Go.WideShapes Go.ChangeAt Go.RowKit Num Go.Maps
open Go.ChangeMaps Go.MapKept
theorem run_store_float (a : Addr) (m : Mode) (k : FloatKind) (b : Nat) (w : World) : (store a (.float k b) m).run Tryd.prog w = stored Tryd.prog w a (.float k b) m := run_store Tryd.prog w a _ m rfl
end Go.Proofs.YthnpgbmagfhgpaaDoor

namespace Go.Proofs.YthnpgbmagfhgpaaDoor
open Go.ChangeShapes Go.WideShapes Go.ChangeAt Go.RowKit Num
structure Shp where
  word : List UInt8
  kind : Nat
  lo : Int
  hi : Int
  takes : Int
  lays : Int
def shpT : List Shp := [
  ⟨[], 0, 0, 0, 0, 0⟩,
  ⟨[112, 117, 115, 104], 1, 0, 0, 0, 1⟩,
  ⟨[100, 114, 111, 112], 0, 0, 0, 1, 0⟩,
  ⟨[100, 117, 112], 0, 0, 0, 1, 2⟩,
  ⟨[115, 119, 97, 112], 0, 0, 0, 2, 2⟩,
  ⟨[112, 105, 99, 107], 2, 0, 63, 0, 1⟩,
  ⟨[97, 114, 103], 2, 0, 7, 0, 1⟩,
  ⟨[103, 101, 116], 2, 0, 7, 0, 1⟩,
  ⟨[115, 101, 116], 2, 0, 7, 1, 0⟩,
  ⟨[], 4, 1, 8, 1, 1⟩,
  ⟨[], 5, 1, 12, 2, 1⟩,
  ⟨[106, 117, 109, 112], 3, 0, 1023, 0, 0⟩,
  ⟨[105, 102], 3, 0, 1023, 1, 0⟩,
  ⟨[117, 110, 108, 101, 115, 115], 3, 0, 1023, 1, 0⟩,
  ⟨[99, 97, 108, 108], 3, 0, 1023, 0, 0⟩,
  ⟨[114, 101, 116], 0, 0, 0, 0, 0⟩,
  ⟨[114, 101, 97, 100], 0, 0, 0, 1, 1⟩,
  ⟨[119, 114, 105, 116, 101], 0, 0, 0, 2, 0⟩,
  ⟨[101, 109, 105, 116], 0, 0, 0, 1, 0⟩,
  ⟨[97, 98, 111, 114, 116], 2, 0, 99, 0, 0⟩,
  ⟨[104, 97, 108, 116], 0, 0, 0, 0, 0⟩]
def shp (k : Nat) : Shp := shpT.getD k ⟨[], 0, 0, 0, 0, 0⟩
structure Ins where
  op : Int
  n : Int
  x : Nat
def ci (c : List Ins) (k : Nat) : Ins := c.getD k ⟨0, 0, 0⟩
theorem ci_lt {c : List Ins} {k : Nat} (h : k < c.length) : c[k]? = some (ci c k) := by
  unfold ci
  rw [List.getD_eq_getElem?_getD, List.getElem?_eq_getElem h]
  rfl
theorem ci_ext {c d : List Ins} (hl : c.length = d.length) (h : ∀ k, k < c.length → ci c k = ci d k) : c = d := by
  apply List.ext_getElem? fun k => ?_
  by_cases hk : k < c.length
  · rw [ci_lt hk, ci_lt (hl ▸ hk), h k hk]
  · rw [List.getElem?_eq_none (by omega), List.getElem?_eq_none (by omega)]
theorem all_range {n : Nat} {p : Nat → Bool} : (List.range n).all p = true ↔ ∀ i, i < n → p i = true := by
  rw [List.all_eq_true]
  exact ⟨fun h i hi => h i (List.mem_range.2 hi), fun h i hi => h i (List.mem_range.1 hi)⟩
def knownB (op : Int) : Bool := decide (0 < op) && decide (op ≤ 20)
def fitsB (op : Nat) (n : Int) : Bool := decide ((shp op).lo ≤ n) && decide (n ≤ (shp op).hi)
def outB (op : Nat) (n : Int) (many : Nat) : Bool := decide ((shp op).kind = 3) && decide ((many : Int) ≤ n)
def mayB (i : Ins) (many : Nat) : Bool := knownB i.op && fitsB i.op.toNat i.n && !outB i.op.toNat i.n many && (decide (i.op = 1) || fixB i.x == 0)
def checkB (tag : Int) (c : List Ins) : Bool := (decide (tag = 1) || decide (tag = 2)) && decide (1 ≤ c.length) && decide (c.length ≤ 1024) && (List.range c.length).all fun k => mayB (ci c k) c.length
def checkE (tag : Int) (c : List Ins) : Int := if checkB tag c then 0 else 50
theorem check_parts {t : Int} {c : List Ins} : checkB t c = true ↔ (t = 1 ∨ t = 2) ∧ 1 ≤ c.length ∧ c.length ≤ 1024 ∧ ∀ k, k < c.length → mayB (ci c k) c.length = true := by
  unfold checkB
  simp only [Bool.and_eq_true, Bool.or_eq_true, decide_eq_true_eq, all_range]
  exact ⟨fun ⟨⟨⟨a, b⟩, c⟩, d⟩ => ⟨a, b, c, d⟩, fun ⟨a, b, c, d⟩ => ⟨⟨⟨a, b⟩, c⟩, d⟩⟩
end Go.Proofs.YthnpgbmagfhgpaaDoor
namespace Go.Proofs.YthnpgbmagfhgpaaDoor
open Go.ChangeShapes Go.WideShapes Go.ChangeAt Go.RowKit Num
def strB (l : List UInt8) : Value := .string ⟨l.toArray⟩
structure Shaped5 (w : World) : Prop where
  shp : ∀ k, k < 21 → w.cell? ⟨1, k * 6, none⟩ = some (strB (shp k).word) ∧ w.cell? ⟨1, k * 6 + 1, none⟩ = some (.int .i64 (shp k).kind) ∧ w.cell? ⟨1, k * 6 + 2, none⟩ = some (.int .i64 (shp k).lo) ∧
    w.cell? ⟨1, k * 6 + 3, none⟩ = some (.int .i64 (shp k).hi) ∧ w.cell? ⟨1, k * 6 + 4, none⟩ = some (.int .i64 (shp k).takes) ∧ w.cell? ⟨1, k * 6 + 5, none⟩ = some (.int .i64 (shp k).lays)
theorem Shaped5.on {w w' : World} (h : Shaped5 w) (hb : Below w.heap.size w w') : Shaped5 w' := by
  have on : ∀ {a : Addr} {v : Value}, w.cell? a = some v → w'.cell? a = some v := fun {a v} h => by
    rw [hb.cell (World.block_lt_of_cell? w a h)]
    exact h
  refine ⟨fun k hk => ?_⟩
  obtain ⟨c0, c1, c2, c3, c4, c5⟩ := h.shp k hk
  exact ⟨on c0, on c1, on c2, on c3, on c4, on c5⟩
theorem known_any (op : Int) (w : World) : Calls Tryd.prog 71 #[.int .i64 op] w fun e w' => e = .returned (.bool (knownB op)) ∧ w' = w := by
  by_cases h : 0 < op
  · by_cases h2 : op ≤ 20
    · have e : knownB op = true := by unfold knownB; simp [h, h2]
      rw [e]
      go_enter Tryd.func71, Tryd.ntmps71
      go_wp2
      go_ret
      exact ⟨rfl, rfl⟩
    · have e : knownB op = false := by unfold knownB; simp; omega
      rw [e]
      have h2' : 20 < op := by omega
      go_enter Tryd.func71, Tryd.ntmps71
      go_wp2
      go_ret
      exact ⟨rfl, rfl⟩
  · have h' : op ≤ 0 := by omega
    have e : knownB op = false := by unfold knownB; simp; omega
    rw [e]
    go_enter Tryd.func71, Tryd.ntmps71
    go_wp2
    go_ret
    exact ⟨rfl, rfl⟩
theorem fits_any (k : Nat) (n : Int) (w : World) (hT : Shaped5 w) (hk : k < 21) : Calls Tryd.prog 72 #[.int .i64 k, .int .i64 n] w fun e w' => e = .returned (.bool (fitsB k n)) ∧ w' = w := by
  obtain ⟨c0, c1, c2, c3, c4, c5⟩ := hT.shp k hk
  have hk' : (k : Int) < 21 := by omega
  have HE : Hid (fitsB k n = (decide ((shp k).lo ≤ n) && decide (n ≤ (shp k).hi))) := rfl
  clear hT c0 c1 c4 c5
  generalize (shp k).lo = t at *
  generalize (shp k).hi = l at *
  by_cases h : t ≤ n
  · by_cases h2 : n ≤ l
    · have e : fitsB k n = true := by rw [HE.out]; simp [h, h2]
      rw [e]
      go_enter Tryd.func72, Tryd.ntmps72
      go_wp2
      go_ret
      exact ⟨rfl, rfl⟩
    · have e : fitsB k n = false := by rw [HE.out]; simp; omega
      rw [e]
      have h2' : l < n := by omega
      go_enter Tryd.func72, Tryd.ntmps72
      go_wp2
      go_ret
      exact ⟨rfl, rfl⟩
  · have h' : n < t := by omega
    have e : fitsB k n = false := by rw [HE.out]; simp; omega
    rw [e]
    go_enter Tryd.func72, Tryd.ntmps72
    go_wp2
    go_ret
    exact ⟨rfl, rfl⟩
theorem outside_any (k : Nat) (n : Int) (x many : Nat) (w : World) (hT : Shaped5 w) (hk : k < 21) : Calls Tryd.prog 73 #[.agg #[.int .i64 k, .int .i64 n, .float .f64 x], .int .i64 many] w fun e w' => e = .returned (.bool (outB k n many)) ∧ w' = w.alloc (.cells #[.int .i64 k, .int .i64 n, .float .f64 x] 63) := by
  obtain ⟨c0, c1, c2, c3, c4, c5⟩ := hT.shp k hk
  have hk' : (k : Int) < 21 := by omega
  have HE : Hid (outB k n many = (decide ((shp k).kind = 3) && decide ((many : Int) ≤ n))) := rfl
  have h0 : 1 < w.heap.size := World.block_lt_of_cell? w _ c1
  clear hT c0 c2 c3 c4 c5
  by_cases h : (shp k).kind = 3
  · rw [h] at c1
    by_cases h2 : (many : Int) ≤ n
    · have e : outB k n many = true := by rw [HE.out]; simp [h, h2]
      rw [e]
      go_enter Tryd.func73, Tryd.ntmps73
      go_wp2
      go_ret
      exact ⟨rfl, rfl⟩
    · have h2' : n < (many : Int) := by omega
      have e : outB k n many = false := by rw [HE.out]; simp [h, h2]
      rw [e]
      go_enter Tryd.func73, Tryd.ntmps73
      go_wp2
      go_ret
      exact ⟨rfl, rfl⟩
  · have e : outB k n many = false := by rw [HE.out]; simp [h]
    rw [e]
    have h' : (((shp k).kind : Nat) : Int) ≠ 3 := by omega
    generalize (shp k).kind = t at *
    go_enter Tryd.func73, Tryd.ntmps73
    go_wp2
    go_ret
    exact ⟨rfl, rfl⟩
end Go.Proofs.YthnpgbmagfhgpaaDoor
namespace Go.Proofs.YthnpgbmagfhgpaaDoor
open Go.ChangeShapes Go.WideShapes Go.ChangeAt Go.RowKit Num
theorem chain5 {a b c : World} (h : Below a.heap.size a b) (k : Below b.heap.size b c) : Below a.heap.size a c := h.trans (k.mono h.size)
theorem box5 (w : World) (x : Obj) : Below w.heap.size w (w.alloc x) := (Below.refl _ _).alloc (Nat.le_refl _) x
def insV (i : Ins) : Value := .agg #[.int .i64 i.op, .int .i64 i.n, .float .f64 i.x]
set_option maxHeartbeats 2000000 in
set_option maxRecDepth 100000 in
theorem mayBe_any (i : Ins) (many : Nat) (w : World) (hT : Shaped5 w) : Calls Tryd.prog 68 #[insV i, .int .i64 many] w fun e w' => e = .returned (.bool (mayB i many)) ∧ Below w.heap.size w w' := by
  obtain ⟨op, n, x⟩ := i
  unfold insV
  simp only
  have HT := Lib.hid hT
  clear hT
  cases hk : knownB op with
  | false =>
    have e : mayB ⟨op, n, x⟩ many = false := by unfold mayB; simp [hk]
    rw [e]
    go_enter Tryd.func68, Tryd.ntmps68
    go_wp2_with (first
      | (go_at_call 71; refine (known_any _ _).mono ?_; rintro e w' ⟨rfl, hw⟩; subst w'))
    go_ret
    exact ⟨rfl, box5 _ _⟩
  | true =>
    have hop : 0 < op ∧ op ≤ 20 := by unfold knownB at hk; simpa using hk
    obtain ⟨k, rfl⟩ : ∃ k : Nat, op = k := ⟨op.toNat, by omega⟩
    have hk21 : k < 21 := by omega
    have HE : Hid (mayB ⟨k, n, x⟩ many = (true && fitsB k n && !outB k n many && (decide ((k : Int) = 1) || fixB x == 0))) := by
      show mayB _ _ = _
      unfold mayB
      rw [hk]
      rfl
    cases hf : fitsB k n with
    | false =>
      have e : mayB ⟨k, n, x⟩ many = false := by rw [HE.out, hf]; rfl
      rw [e]
      go_enter Tryd.func68, Tryd.ntmps68
      go_wp2_with (first
        | (go_at_call 71; refine (known_any _ _).mono ?_; rintro e w' ⟨rfl, hw⟩; subst w')
        | (go_at_call 72; refine (fits_any k n _ (HT.out.on (box5 _ _)) hk21).mono ?_; rintro e w' ⟨rfl, hw⟩; subst w'))
      go_ret
      exact ⟨rfl, box5 _ _⟩
    | true =>
      cases ho : outB k n many with
      | true =>
        have e : mayB ⟨k, n, x⟩ many = false := by rw [HE.out, hf, ho]; rfl
        rw [e]
        go_enter Tryd.func68, Tryd.ntmps68
        go_wp2_with (first
          | (go_at_call 71; refine (known_any _ _).mono ?_; rintro e w' ⟨rfl, hw⟩; subst w')
          | (go_at_call 72; refine (fits_any k n _ (HT.out.on (box5 _ _)) hk21).mono ?_; rintro e w' ⟨rfl, hw⟩; subst w')
          | (go_at_call 73; refine (outside_any k n x many _ (HT.out.on (box5 _ _)) hk21).mono ?_; rintro e w' ⟨rfl, hw⟩; subst w'))
        go_ret
        exact ⟨rfl, chain5 (box5 _ _) (box5 _ _)⟩
      | false =>
        by_cases h1 : (k : Int) = 1
        · obtain rfl : k = 1 := by omega
          have e : mayB ⟨(1 : Nat), n, x⟩ many = true := by rw [HE.out, hf, ho]; simp
          rw [e]
          have HK1 : Hid (∀ w, Calls Tryd.prog 71 #[.int .i64 1] w fun e w' => e = .returned (.bool true) ∧ w' = w) := fun w => by
            have := known_any ((1 : Nat) : Int) w
            rw [hk] at this
            exact this
          have HF1 : Hid (∀ w, Shaped5 w → Calls Tryd.prog 72 #[.int .i64 1, .int .i64 n] w fun e w' => e = .returned (.bool true) ∧ w' = w) := fun w h => by
            have := fits_any 1 n w h hk21
            rw [hf] at this
            exact this
          have HO1 : Hid (∀ w, Shaped5 w → Calls Tryd.prog 73 #[.agg #[.int .i64 1, .int .i64 n, .float .f64 x], .int .i64 many] w fun e w' => e = .returned (.bool false) ∧ w' = w.alloc (.cells #[.int .i64 1, .int .i64 n, .float .f64 x] 63)) := fun w h => by
            have := outside_any 1 n x many w h hk21
            rw [ho] at this
            exact this
          clear hk hf ho HE e h1 hop
          go_enter Tryd.func68, Tryd.ntmps68
          go_wp2_with (first
            | (go_at_call 71; refine (HK1.out _).mono ?_; rintro e w' ⟨rfl, hw⟩; subst w')
            | (go_at_call 72; refine (HF1.out _ (HT.out.on (box5 _ _))).mono ?_; rintro e w' ⟨rfl, hw⟩; subst w')
            | (go_at_call 73; refine (HO1.out _ (HT.out.on (box5 _ _))).mono ?_; rintro e w' ⟨rfl, hw⟩; subst w'))
          go_ret
          exact ⟨by simp, chain5 (box5 _ _) (box5 _ _)⟩
        · have e : mayB ⟨k, n, x⟩ many = (fixB x == fixB 0) := by rw [HE.out, hf, ho, decide_eq_false h1, fixB_num nan_zero]; rfl
          rw [e]
          go_enter Tryd.func68, Tryd.ntmps68
          go_wp2_with (first
            | (go_at_call 71; refine (known_any _ _).mono ?_; rintro e w' ⟨rfl, hw⟩; subst w')
            | (go_at_call 72; refine (fits_any k n _ (HT.out.on (box5 _ _)) hk21).mono ?_; rintro e w' ⟨rfl, hw⟩; subst w')
            | (go_at_call 73; refine (outside_any k n x many _ (HT.out.on (box5 _ _)) hk21).mono ?_; rintro e w' ⟨rfl, hw⟩; subst w')
            | (go_at_call 74; refine (same_any _ _ _).mono ?_; rintro e w' ⟨rfl, hw⟩; subst w'))
          go_ret
          exact ⟨by simp; intro h; exact absurd h h1, chain5 (box5 _ _) (box5 _ _)⟩
end Go.Proofs.YthnpgbmagfhgpaaDoor
namespace Go.Proofs.YthnpgbmagfhgpaaDoor
open Go.ChangeShapes Go.WideShapes Go.ChangeAt Go.RowKit Num
attribute [local go_sem] run_store_float
def CodeAt (w : World) (ao : Option Addr) (c : List Ins) : Prop :=
  ∀ k, k < c.length → ∃ b off, ao = some ⟨b, off, none⟩ ∧ b < w.heap.size ∧ w.cell? ⟨b, off + k * 3, none⟩ = some (.int .i64 (ci c k).op) ∧ w.cell? ⟨b, off + k * 3 + 1, none⟩ = some (.int .i64 (ci c k).n) ∧ w.cell? ⟨b, off + k * 3 + 2, none⟩ = some (.float .f64 (ci c k).x)
def progV (t : Int) (ao : Option Addr) (n cap : Nat) : Value := .agg #[.int .i64 t, .slice ao n cap]
theorem cells2_of {w : World} {x : Nat} {v0 v1 : Value} {T : TypeId} (h : w.heap[x]? = some (.cells #[v0, v1] T (0, 0))) :
    w.cell? ⟨x, 0, none⟩ = some v0 ∧ w.cell? ⟨x, 1, none⟩ = some v1 ∧ x < w.heap.size :=
  ⟨by rw [cell_of_row w x 0 _ _ _ h]; rfl, by rw [cell_of_row w x 1 _ _ _ h]; rfl, lt_of_block h⟩
theorem checkE_no {t : Int} {c : List Ins} (h : checkB t c = false) : checkE t c = 50 := by unfold checkE; rw [h]; rfl
theorem checkE_yes {t : Int} {c : List Ins} (h : checkB t c = true) : checkE t c = 0 := by unfold checkE; rw [h]; rfl
theorem check_false {t : Int} {c : List Ins} (h : ¬ ((t = 1 ∨ t = 2) ∧ 1 ≤ c.length ∧ c.length ≤ 1024 ∧ ∀ k, k < c.length → mayB (ci c k) c.length = true)) : checkB t c = false := by
  cases hc : checkB t c
  · rfl
  · exact absurd (check_parts.1 hc) h
set_option maxHeartbeats 2000000 in
set_option maxRecDepth 100000 in
theorem check_any {w : World} (t : Int) {ao : Option Addr} {c : List Ins} (cap : Nat) (hT : Shaped5 w) (hc : CodeAt w ao c) (hl : c.length ≤ 9223372036854775807) :
    Calls Tryd.prog 62 #[progV t ao c.length cap] w fun e w' => e = .returned (.int .i64 (checkE t c)) ∧ Below w.heap.size w w' := by
  unfold progV
  by_cases ht : t = 1 ∨ t = 2
  · by_cases hn : c.length < 1 ∨ 1024 < c.length
    · rw [checkE_no (check_false (fun q => by omega))]
      clear hT hc
      generalize c.length = n at *
      rcases ht with rfl | rfl <;> rcases hn with hn | hn
      · obtain rfl : n = 0 := by omega
        go_enter Tryd.func62, Tryd.ntmps62
        go_wp2
        go_ret
        exact ⟨rfl, box5 _ _⟩
      · have h1 : ¬ (n : Int) < 1 := by omega
        have h2 : (1024 : Int) < n := by omega
        go_enter Tryd.func62, Tryd.ntmps62
        go_wp2
        go_ret
        exact ⟨rfl, box5 _ _⟩
      · obtain rfl : n = 0 := by omega
        go_enter Tryd.func62, Tryd.ntmps62
        go_wp2
        go_ret
        exact ⟨rfl, box5 _ _⟩
      · have h1 : ¬ (n : Int) < 1 := by omega
        have h2 : (1024 : Int) < n := by omega
        go_enter Tryd.func62, Tryd.ntmps62
        go_wp2
        go_ret
        exact ⟨rfl, box5 _ _⟩
    · have h1 : ¬ ((c.length : Nat) : Int) < 1 := by omega
      have h2 : ((c.length : Nat) : Int) ≤ 1024 := by omega
      have HC := Lib.hid hc
      have HT := Lib.hid hT
      have HN := Lib.hid hn
      clear hT hc hn
      have HX := Lib.hid (heap_alloc_new w (.cells #[.int .i64 t, .slice ao c.length cap] 24))
      have HB1 := Lib.hid (box5 w (.cells #[.int .i64 t, .slice ao c.length cap] 24))
      rcases ht with rfl | rfl
      all_goals go_enter Tryd.func62, Tryd.ntmps62
      all_goals go_wp2
      all_goals (go_loopw [26] (fun vi wr => ∃ (i : Nat), vi = .int .i64 i ∧ i ≤ c.length ∧ Hid (∀ j, j < i → mayB (ci c j) c.length = true) ∧ Hid (Below (w.heap.size + 1) (w.alloc (.cells #[.int .i64 _, .slice ao c.length cap] 24)) wr)) (fun vi _ => c.length - (intOf vi).toNat))
      case atStart => exact ⟨0, rfl, Nat.zero_le _, fun j hj => absurd hj (Nat.not_lt_zero j), Below.refl _ _⟩
      case atStart => exact ⟨0, rfl, Nat.zero_le _, fun j hj => absurd hj (Nat.not_lt_zero j), Below.refl _ _⟩
      all_goals (
        obtain ⟨i, rfl, hi, HM, HB⟩ := hrel
        have HBW := Lib.hid (HB1.out.trans (HB.out.mono (Nat.le_succ _)))
        by_cases hlt : i < c.length
        · have hlt' : (i : Int) < (c.length : Int) := by omega
          obtain ⟨b0, off, hao, hbW, k0, k1, k2⟩ := HC.out i hlt
          subst hao
          rw [← HBW.out.cell (p := ⟨b0, off + i * 3, none⟩) hbW] at k0
          rw [← HBW.out.cell (p := ⟨b0, off + i * 3 + 1, none⟩) hbW] at k1
          rw [← HBW.out.cell (p := ⟨b0, off + i * 3 + 2, none⟩) hbW] at k2
          have hbw : b0 < wr.heap.size := Nat.lt_of_lt_of_le hbW HBW.out.size
          obtain ⟨q0, q1, q2⟩ := cells2_of ((HB.out.block w.heap.size (Nat.lt_succ_self _)).trans HX.out)
          have HMB := Lib.hid (fun w' h => mayBe_any (ci c i) c.length w' h)
          cases hmb : mayB (ci c i) c.length with
          | true =>
            rw [hmb] at HMB
            have HM2 : Hid (∀ j, j < i + 1 → mayB (ci c j) c.length = true) := fun j hj => by
              rcases Nat.lt_succ_iff_lt_or_eq.1 hj with q | rfl
              · exact HM.out j q
              · exact hmb
            generalize ci c i = z at k0 k1 k2 HMB
            obtain ⟨zo, zn, zx⟩ := z
            unfold insV at HMB
            simp only at k0 k1 k2 HMB
            clear hbW hmb HM
            go_wp2_with (first
              | (go_at_call 68; refine (HMB.out _ (HT.out.on (chain5 HBW.out (box5 _ _)))).mono ?_; rintro e w2 ⟨rfl, hb2⟩; have HB2 := Lib.hid (HB.out.trans ((chain5 (box5 _ _) hb2).mono (Nat.le_trans (by simp) HB.out.size))); clear hb2))
            exact ⟨⟨i + 1, by first | rfl | (congr 1), by omega, HM2, HB2⟩, by simp [intOf]; omega⟩
          | false =>
            rw [hmb] at HMB
            have HNO := Lib.hid (fun t => checkE_no (t := t) (check_false (fun q => by have := q.2.2.2 i hlt; rw [hmb] at this; cases this)))
            generalize ci c i = z at k0 k1 k2 HMB
            obtain ⟨zo, zn, zx⟩ := z
            unfold insV at HMB
            simp only at k0 k1 k2 HMB
            clear hbW hmb HM
            go_wp2_with (first
              | (go_at_call 68; refine (HMB.out _ (HT.out.on (chain5 HBW.out (box5 _ _)))).mono ?_; rintro e w2 ⟨rfl, hb2⟩; have HB2 := Lib.hid (chain5 HBW.out (chain5 (box5 _ _) hb2)); clear hb2))
            go_ret
            exact ⟨by rw [HNO.out]; rfl, HB2.out⟩
        · have hlt' : ¬ (i : Int) < (c.length : Int) := by omega
          have HYES := Lib.hid (fun t ht => checkE_yes (t := t) (check_parts.2 ⟨ht, by have := HN.out; omega, by omega, fun k hk => HM.out k (by omega)⟩))
          go_wp2
          go_ret
          exact ⟨by rw [HYES.out _ (by first | exact .inl rfl | exact .inr rfl)]; rfl, HBW.out⟩)
  · rw [checkE_no (check_false (fun q => ht q.1))]
    have h1 : (t != 1) = true := by simpa using fun q => ht (.inl q)
    have h2 : (t != 2) = true := by simpa using fun q => ht (.inr q)
    clear hT hc ht
    go_enter Tryd.func62, Tryd.ntmps62
    go_wp2
    go_ret
    exact ⟨rfl, box5 _ _⟩
end Go.Proofs.YthnpgbmagfhgpaaDoor
namespace Go.Proofs.YthnpgbmagfhgpaaDoor
open Go.ChangeShapes Go.WideShapes Go.ChangeAt Go.RowKit Num
attribute [local go_sem] frombits_run bits_run
end Go.Proofs.YthnpgbmagfhgpaaDoor
namespace Go.Proofs.YthnpgbmagfhgpaaDoor.Num
open Ieee
end Go.Proofs.YthnpgbmagfhgpaaDoor.Num
namespace Go.Proofs.YthnpgbmagfhgpaaDoor
open Go.ChangeShapes Go.WideShapes Go.ChangeAt Go.RowKit Num
attribute [local go_sem] frombits_run bits_run
end Go.Proofs.YthnpgbmagfhgpaaDoor
namespace Go.Proofs.YthnpgbmagfhgpaaDoor
open Go.ChangeShapes Go.WideShapes Go.ChangeAt Go.RowKit Num
attribute [local go_sem] frombits_run bits_run
end Go.Proofs.YthnpgbmagfhgpaaDoor
namespace Go.Proofs.YthnpgbmagfhgpaaDoor
open Go.ChangeShapes Go.WideShapes Go.ChangeAt Go.RowKit Num
attribute [local go_sem] frombits_run bits_run
end Go.Proofs.YthnpgbmagfhgpaaDoor
namespace Go.Proofs.YthnpgbmagfhgpaaDoor
open Go.ChangeShapes Go.WideShapes Go.ChangeAt Go.RowKit Num
attribute [local go_sem] frombits_run bits_run
end Go.Proofs.YthnpgbmagfhgpaaDoor
namespace Go.Proofs.YthnpgbmagfhgpaaDoor
open Go.ChangeShapes Go.WideShapes Go.ChangeAt Go.RowKit Num
attribute [local go_sem] frombits_run bits_run
end Go.Proofs.YthnpgbmagfhgpaaDoor
namespace Go.Proofs.YthnpgbmagfhgpaaDoor
open Go.ChangeShapes Go.WideShapes Go.ChangeAt Go.RowKit Num Go.Maps
attribute [local go_sem] run_store_float frombits_run bits_run
theorem Below.turn {w w' : World} (k : Below w.heap.size w w') (F : List Nat) : Turn F F w w' := ⟨k.os, k.tape, k.output, k.size, fun i hi _ => k.block i hi, fun _ h => .inl h⟩
end Go.Proofs.YthnpgbmagfhgpaaDoor
namespace Go.Proofs.YthnpgbmagfhgpaaDoor
open Go.ChangeShapes Go.WideShapes Go.ChangeAt Go.RowKit
end Go.Proofs.YthnpgbmagfhgpaaDoor
namespace Go.Proofs.YthnpgbmagfhgpaaDoor
open Go.ChangeShapes Go.WideShapes Go.ChangeAt Go.RowKit Num
end Go.Proofs.YthnpgbmagfhgpaaDoor
namespace Go.Proofs.YthnpgbmagfhgpaaDoor
open Go.ChangeShapes Go.WideShapes Go.ChangeAt Go.RowKit
attribute [local go_sem] run_store_float
end Go.Proofs.YthnpgbmagfhgpaaDoor
namespace Go.Proofs.YthnpgbmagfhgpaaDoor
open Go.ChangeShapes Go.WideShapes Go.ChangeAt Go.RowKit Num Go.Maps
attribute [local go_sem] run_store_float frombits_run bits_run
end Go.Proofs.YthnpgbmagfhgpaaDoor
namespace Go.Proofs.YthnpgbmagfhgpaaDoor
open Go.ChangeShapes Go.WideShapes Go.ChangeAt Go.RowKit Num Go.Maps
attribute [local go_sem] run_store_float frombits_run bits_run
end Go.Proofs.YthnpgbmagfhgpaaDoor
namespace Go.Proofs.YthnpgbmagfhgpaaDoor
open Go.ChangeShapes Go.WideShapes Go.ChangeAt Go.RowKit Num Go.Maps
attribute [local go_sem] run_store_float frombits_run bits_run
end Go.Proofs.YthnpgbmagfhgpaaDoor
namespace Go.Proofs.YthnpgbmagfhgpaaDoor
open Go.ChangeShapes Go.WideShapes Go.ChangeAt Go.RowKit Num
end Go.Proofs.YthnpgbmagfhgpaaDoor
namespace Go.Proofs.YthnpgbmagfhgpaaDoor
open Go.ChangeShapes Go.WideShapes Go.ChangeAt Go.RowKit Num
end Go.Proofs.YthnpgbmagfhgpaaDoor
namespace Go.Proofs.YthnpgbmagfhgpaaDoor
open Go.ChangeShapes Go.WideShapes Go.ChangeAt Go.RowKit Num
attribute [local go_sem] run_store_float
end Go.Proofs.YthnpgbmagfhgpaaDoor
namespace Go.Proofs.YthnpgbmagfhgpaaDoor
open Go.ChangeShapes Go.WideShapes Go.ChangeAt Go.RowKit Num
attribute [local go_sem] run_store_float
theorem follows : Tryd.prog.follows .mixedOrders = true := by kernel_rfl
end Go.Proofs.YthnpgbmagfhgpaaDoor
namespace Go.Proofs.YthnpgbmagfhgpaaDoor
open Go.ChangeShapes Go.WideShapes Go.ChangeAt Go.RowKit Num
end Go.Proofs.YthnpgbmagfhgpaaDoor
namespace Go.Proofs.YthnpgbmagfhgpaaDoor
open Go.ChangeShapes Go.WideShapes Go.ChangeAt Go.RowKit Num
attribute [local go_sem] run_store_float
end Go.Proofs.YthnpgbmagfhgpaaDoor
namespace Go.Proofs.YthnpgbmagfhgpaaDoor
open Go.ChangeShapes Go.WideShapes Go.ChangeAt Go.RowKit Num
attribute [local go_sem] run_store_float
end Go.Proofs.YthnpgbmagfhgpaaDoor
namespace Go.Proofs.YthnpgbmagfhgpaaDoor
open Go.ChangeShapes Go.WideShapes Go.ChangeAt Go.RowKit Num
attribute [local go_sem] run_store_float
end Go.Proofs.YthnpgbmagfhgpaaDoor
namespace Go.Proofs.YthnpgbmagfhgpaaDoor
open Go.ChangeShapes Go.WideShapes Go.ChangeAt Go.RowKit Num
attribute [local go_sem] run_store_float
end Go.Proofs.YthnpgbmagfhgpaaDoor
namespace Go.Proofs.YthnpgbmagfhgpaaDoor
open Go.ChangeShapes Go.WideShapes Go.ChangeAt Go.RowKit Num
attribute [local go_sem] run_store_float
end Go.Proofs.YthnpgbmagfhgpaaDoor
namespace Go.Proofs.YthnpgbmagfhgpaaDoor
open Go.ChangeShapes Go.WideShapes Go.ChangeAt Go.RowKit Num
attribute [local go_sem] run_store_float
end Go.Proofs.YthnpgbmagfhgpaaDoor
namespace Go.Proofs.YthnpgbmagfhgpaaDoor
open Go.ChangeShapes Go.WideShapes Go.ChangeAt Go.RowKit Num
attribute [local go_sem] run_store_float
end Go.Proofs.YthnpgbmagfhgpaaDoor
namespace Go.Proofs.YthnpgbmagfhgpaaDoor.Md
open Go.ChangeShapes Go.WideShapes Go.ChangeAt Go.RowKit
end Go.Proofs.YthnpgbmagfhgpaaDoor.Md
namespace Go.Proofs.YthnpgbmagfhgpaaDoor.Md
open Go.ChangeShapes Go.WideShapes Go.ChangeAt Go.RowKit
end Go.Proofs.YthnpgbmagfhgpaaDoor.Md
namespace Go.Proofs.YthnpgbmagfhgpaaDoor
open Go.ChangeShapes Go.WideShapes Go.ChangeAt Go.RowKit Num
attribute [local go_sem] run_store_float
end Go.Proofs.YthnpgbmagfhgpaaDoor
namespace Go.Proofs.YthnpgbmagfhgpaaDoor
open Go.ChangeShapes Go.WideShapes Go.ChangeAt Go.RowKit Num
attribute [local go_sem] run_store_float
end Go.Proofs.YthnpgbmagfhgpaaDoor
namespace Go.Proofs.YthnpgbmagfhgpaaDoor
open Go.ChangeShapes Go.WideShapes Go.ChangeAt Go.RowKit Num
attribute [local go_sem] run_store_float
end Go.Proofs.YthnpgbmagfhgpaaDoor
namespace Go.Proofs.YthnpgbmagfhgpaaDoor
open Go.ChangeShapes Go.WideShapes Go.ChangeAt Go.RowKit Num
attribute [local go_sem] run_store_float
end Go.Proofs.YthnpgbmagfhgpaaDoor
namespace Go.Proofs.YthnpgbmagfhgpaaDoor
open Go.ChangeShapes Go.WideShapes Go.ChangeAt Go.RowKit Go.Deep
open Go.ChangeMaps (open_string shut_string)
theorem ownK : ownKnob Tryd.prog.godebug = none := by kernel_rfl
abbrev laid8 : List (String × DataW Unit) := Rows.treeNumbersRow.laid
section
variable {H : Type} {enc : TypeId × Value → H} {w : World} {base : Nat} {sp : Nat → Bool} {held : Bool}
theorem shps_of {fuel : Nat} {cs : List Value} {p : List MemPlace}
    (h : DataW.trod enc Tryd.prog w base sp held fuel 79 cs = some (.agg (shpT.map fun s => .agg [.lit (.string s.word), .lit (.int .i64 s.kind), .lit (.int .i64 s.lo), .lit (.int .i64 s.hi), .lit (.int .i64 s.takes), .lit (.int .i64 s.lays)]), p)) :
    ∀ i, i < 21 → cs[i * 6]? = some (strB (shp i).word) ∧ cs[i * 6 + 1]? = some (.int .i64 (shp i).kind) ∧ cs[i * 6 + 2]? = some (.int .i64 (shp i).lo) ∧ cs[i * 6 + 3]? = some (.int .i64 (shp i).hi) ∧ cs[i * 6 + 4]? = some (.int .i64 (shp i).takes) ∧ cs[i * 6 + 5]? = some (.int .i64 (shp i).lays) := by
  have hce : Tryd.prog.cellsOf 78 = 6 := by kernel_rfl
  have hct : Tryd.prog.cellsOf 79 = 126 := by kernel_rfl
  have hcs : Tryd.prog.cellsOf 9 = 1 := by kernel_rfl
  have hci : Tryd.prog.cellsOf 3 = 1 := by kernel_rfl
  cases fuel with
  | zero => simp [DataW.trod] at h
  | succ fuel =>
    simp only [DataW.trod, Tryd.underlying79, hce, hct] at h
    split at h
    · obtain ⟨xs, hm, hx⟩ := Option.map_eq_some_iff.1 h
      have hxs := congrArg Prod.fst hx
      intro i hi
      obtain ⟨b, hb, hf⟩ := Lib.mapM_at hm i i (by simp [hi])
      have h2 : (xs.map (·.1))[i]? = some b.1 := by simp [hb]
      have hxs' : xs.map (·.1) = shpT.map fun s => (DataW.agg [.lit (.string s.word), .lit (.int .i64 s.kind), .lit (.int .i64 s.lo), .lit (.int .i64 s.hi), .lit (.int .i64 s.takes), .lit (.int .i64 s.lays)] : DataW H) := by simpa using hxs
      rw [hxs'] at h2
      have hi' : i < shpT.length := hi
      have hsi : shpT[i]? = some (shp i) := by
        unfold shp
        rw [List.getD_eq_getElem?_getD, List.getElem?_eq_getElem hi']
        rfl
      rw [List.getElem?_map, hsi] at h2
      simp only [Option.map_some, Option.some.injEq] at h2
      obtain ⟨ys, n, _, hy, _, hyl, hg⟩ := DataW.trod_struct Tryd.underlying78 hf
      match ys, hyl with
      | [y0, y1, y2, y3, y4, y5], _ =>
        have g0 := hg 0 _ rfl
        have g1 := hg 1 _ rfl
        have g2 := hg 2 _ rfl
        have g3 := hg 3 _ rfl
        have g4 := hg 4 _ rfl
        have g5 := hg 5 _ rfl
        change DataW.trod enc Tryd.prog w base sp held n 9 ((((cs.drop (i * 6)).take 6).drop 0).take (Tryd.prog.cellsOf 9)) = _ at g0
        rw [hcs] at g0
        change DataW.trod enc Tryd.prog w base sp held n 3 ((((cs.drop (i * 6)).take 6).drop 1).take (Tryd.prog.cellsOf 3)) = _ at g1
        rw [hci] at g1
        change DataW.trod enc Tryd.prog w base sp held n 3 ((((cs.drop (i * 6)).take 6).drop 2).take (Tryd.prog.cellsOf 3)) = _ at g2
        rw [hci] at g2
        change DataW.trod enc Tryd.prog w base sp held n 3 ((((cs.drop (i * 6)).take 6).drop 3).take (Tryd.prog.cellsOf 3)) = _ at g3
        rw [hci] at g3
        change DataW.trod enc Tryd.prog w base sp held n 3 ((((cs.drop (i * 6)).take 6).drop 4).take (Tryd.prog.cellsOf 3)) = _ at g4
        rw [hci] at g4
        change DataW.trod enc Tryd.prog w base sp held n 3 ((((cs.drop (i * 6)).take 6).drop 5).take (Tryd.prog.cellsOf 3)) = _ at g5
        rw [hci] at g5
        obtain ⟨s0, a0, b0, _⟩ := DataW.trod_string Tryd.underlying9 g0
        obtain ⟨s1, a1, b1, _⟩ := DataW.trod_int Tryd.underlying3 g1
        obtain ⟨s2, a2, b2, _⟩ := DataW.trod_int Tryd.underlying3 g2
        obtain ⟨s3, a3, b3, _⟩ := DataW.trod_int Tryd.underlying3 g3
        obtain ⟨s4, a4, b4, _⟩ := DataW.trod_int Tryd.underlying3 g4
        obtain ⟨s5, a5, b5, _⟩ := DataW.trod_int Tryd.underlying3 g5
        subst b0 b1 b2 b3 b4 b5
        rw [hy] at h2
        simp only [List.map_cons, List.map_nil, DataW.agg.injEq, List.cons.injEq, DataW.lit.injEq, Lit.string.injEq, Lit.int.injEq, true_and, and_true] at h2
        obtain ⟨e0, e1, e2, e3, e4, e5⟩ := h2
        have get : ∀ (o : Nat) (v : Value), (((cs.drop (i * 6)).take 6).drop o).take 1 = [v] → o < 6 → cs[i * 6 + o]? = some v := fun o v hv ho => by
          have := congrArg (·[0]?) hv
          simpa [List.getElem?_take, List.getElem?_drop, ho] using this
        refine ⟨?_, ?_, ?_, ?_, ?_, ?_⟩
        · have := get 0 _ a0 (by decide)
          rw [Nat.add_zero] at this
          rw [this, e0]
          rfl
        · rw [get 1 _ a1 (by decide), e1]
        · rw [get 2 _ a2 (by decide), e2]
        · rw [get 3 _ a3 (by decide), e3]
        · rw [get 4 _ a4 (by decide), e4]
        · rw [get 5 _ a5 (by decide), e5]
    · cases h
end
theorem shp_data : Rows.laid_beadle_code_shapes (H := Unit) = .agg (shpT.map fun s => .agg [.lit (.string s.word), .lit (.int .i64 s.kind), .lit (.int .i64 s.lo), .lit (.int .i64 s.hi), .lit (.int .i64 s.takes), .lit (.int .i64 s.lays)]) := by kernel_rfl
theorem of_laid8 {W : World} (h : laidMetH Tryd.prog laid8 W) : Shaped5 W := by
  rw [MakeChecks.laidMetH_plain _ _ _ (by kernel_rfl)] at h
  have hshp : laidMet Tryd.prog laid8 W := h
  unfold laid8 at hshp
  rw [show Rows.treeNumbersRow.laid = [((Rows.treeNumbersRow.laid.map (·.1)).getD 0 default, Rows.laid_beadle_code_shapes)] from rfl, shp_data] at hshp
  refine ⟨?_⟩
  · obtain ⟨ps, ⟨g', t', cs, fuel, p, q, hg', ht', hvar, hd, _, _⟩, _⟩ := hshp
    obtain rfl : t' = 79 := (Option.some.inj ((show (Tryd.prog.globals[g']?).map (·.type) = some 79 by rw [← Option.some.inj ((show Tryd.prog.globalNamed ((Rows.treeNumbersRow.laid.map (·.1)).getD 0 default) = some 1 by kernel_rfl).symm.trans hg')]; kernel_rfl).symm.trans ht')).symm
    intro k hk
    obtain ⟨a0, a1, a2, a3, a4, a5⟩ := shps_of hd k hk
    have cell := fun i => World.var?_cell (show Tryd.prog.globalNamed ((Rows.treeNumbersRow.laid.map (·.1)).getD 0 default) = some 1 by kernel_rfl) hvar i
    exact ⟨by rw [cell]; simpa using a0, by rw [cell]; simpa using a1, by rw [cell]; simpa using a2, by rw [cell]; simpa using a3, by rw [cell]; simpa using a4, by rw [cell]; simpa using a5⟩
theorem door_met (os : Os) (args : Array Value) : laidMetH Tryd.prog laid8 ((World.doorLaid Tryd.prog 400 os).forCall (fun _ _ => 0) ⟨#[], args, []⟩).memory :=
  laidMetH_of_parts3 (fuel := 8) (laidMet_of_run' 8 (by kernel_rfl) (by kernel_rfl)) (by kernel_rfl) (by kernel_rfl)
section
variable {H : Type} {enc : TypeId × Value → H}
theorem wrap5 {a : Assume} {C : Checked} {os : Os} {f : FuncId} {fn : Func} {s : ChangeSpec} {conds : List PathCond} {apart fresh handsOn again : Bool} {X : World → Array Value → Prop}
    (hX : ∀ (w w' : World) (args : Array Value), w.heap = w'.heap → X w args → X w' args)
    (own : ownKnob C.prog.godebug = none) (started : os.Started) (noInit : C.prog.inits.idxOf? f = none) (hfn : C.prog.funcs[f]? = some fn)
    (witness : ∃ (w : World) (tape : Tape) (i : Input), w.os = os ∧ (w.forCall tape i).Shaped C.prog ∧ i.vars = [] ∧ Input.okWide C.prog (w.forCall tape i) .any w.heap.size f i ∧
      ((s.pre enc C.prog fn conds apart (w.forCall tape i).memory i.args ∧ X (w.forCall tape i).memory i.args) ∧ sizedMet enc C.prog fn (OpenSpec.ofChange s) apart (w.forCall tape i).memory i.args) ∧ a.holds C.prog (lone (Frame.enter C.prog f i.args .normal) [] (w.forCall tape i)))
    (contract : ∀ (W : World) (base : Nat) (args : Array Value) (ds gs : List (DataW H)) (before : List MemPlace),
      (∀ (j : Nat) t v, fn.params[j]? = some t → args[j]? = some v → Value.okWide C.prog W .any base t v) →
      DataW.Whole enc C.prog fn.params.toList s.vars apart W args.toList ds gs before →
      (DataW.weightsEach C.prog (fn.params.toList ++ s.plain.varTypes C.prog) (ds ++ gs)).all (· ≤ reachBytes) = true → X W args → W.ShapedOpen C.prog →
      Calls C.prog f args W fun e W' => ∃ v, e = .returned v ∧ s.post enc C.prog fn apart fresh handsOn again W args v W') :
    ReturnsInHanded a C os f .any (fun w args => (s.pre enc C.prog fn conds apart w args ∧ X w args) ∧ sizedMet enc C.prog fn (OpenSpec.ofChange s) apart w args) (s.post enc C.prog fn apart fresh handsOn again) := by
  refine returnsInHanded_of_calls own started noInit witness fun w tape i _ hsh _ hok hpre _ => ?_
  obtain ⟨_, _, _, fn', hfn', _, _, _, _, hval⟩ := hok
  obtain rfl : fn' = fn := Option.some.inj (hfn'.symm.trans hfn)
  obtain ⟨⟨⟨ds, gs, before, hw, _⟩, hx⟩, hz⟩ := hpre
  exact (contract (w.forCall tape i) w.heap.size i.args ds gs before hval (DataW.Whole.of_heap (w' := w.forCall tape i) (by rfl) hw) (hz.weights hw) (hX _ _ _ (by rfl) hx) hsh).mono fun e W' ⟨v, he, hp⟩ => by
    subst he
    exact ChangeSpec.post_blind hp
end
end Go.Proofs.YthnpgbmagfhgpaaDoor
namespace Go.Proofs.YthnpgbmagfhgpaaDoor.Num
open Ieee
end Go.Proofs.YthnpgbmagfhgpaaDoor.Num
namespace Go.Proofs.YthnpgbmagfhgpaaDoor.Num
open Ieee
end Go.Proofs.YthnpgbmagfhgpaaDoor.Num
namespace Go.Proofs.YthnpgbmagfhgpaaDoor.Tr
open Num Ieee
def X (n : Int) : Nat := floatOfInt .f64 n
end Go.Proofs.YthnpgbmagfhgpaaDoor.Tr
namespace Go.Proofs.YthnpgbmagfhgpaaDoor
open Go.ChangeShapes Go.WideShapes Go.ChangeAt Go.RowKit Num
attribute [local go_sem] run_store_float
end Go.Proofs.YthnpgbmagfhgpaaDoor
namespace Go.Proofs.YthnpgbmagfhgpaaDoor
open Go.ChangeShapes Go.WideShapes Go.ChangeAt Go.RowKit Num
end Go.Proofs.YthnpgbmagfhgpaaDoor
namespace Go.Proofs.YthnpgbmagfhgpaaDoor
open Go.ChangeShapes Go.WideShapes Go.ChangeAt Go.RowKit Num
attribute [local go_sem] run_store_float
end Go.Proofs.YthnpgbmagfhgpaaDoor
namespace Go.Proofs.YthnpgbmagfhgpaaDoor
open Go.ChangeShapes Go.WideShapes Go.ChangeAt Go.RowKit Num
attribute [local go_sem] run_store_float
end Go.Proofs.YthnpgbmagfhgpaaDoor
namespace Go.Proofs.YthnpgbmagfhgpaaDoor
open Go.ChangeShapes Go.WideShapes Go.ChangeAt Go.RowKit Num
attribute [local go_sem] run_store_float
end Go.Proofs.YthnpgbmagfhgpaaDoor
namespace Go.Proofs.YthnpgbmagfhgpaaDoor
open Go.ChangeShapes Go.WideShapes Go.ChangeAt Go.RowKit Num
end Go.Proofs.YthnpgbmagfhgpaaDoor
namespace Go.Proofs.YthnpgbmagfhgpaaDoor
open Go.ChangeShapes Go.WideShapes Go.ChangeAt Go.RowKit Num
attribute [local go_sem] run_store_float
end Go.Proofs.YthnpgbmagfhgpaaDoor
namespace Go.Proofs.YthnpgbmagfhgpaaDoor
open Go.ChangeShapes Go.WideShapes Go.ChangeAt Go.RowKit Num
attribute [local go_sem] run_store_float
end Go.Proofs.YthnpgbmagfhgpaaDoor
namespace Go.Proofs.YthnpgbmagfhgpaaDoor
open Go.ChangeShapes Go.WideShapes Go.ChangeAt Go.RowKit Num
end Go.Proofs.YthnpgbmagfhgpaaDoor
namespace Go.Proofs.YthnpgbmagfhgpaaDoor
open Go.ChangeShapes Go.WideShapes Go.ChangeAt Go.RowKit Num
attribute [local go_sem] run_store_float
end Go.Proofs.YthnpgbmagfhgpaaDoor
namespace Go.Proofs.YthnpgbmagfhgpaaDoor
open Go.ChangeShapes Go.WideShapes Go.ChangeAt Go.RowKit Num
attribute [local go_sem] run_store_float
end Go.Proofs.YthnpgbmagfhgpaaDoor
namespace Go.Proofs.YthnpgbmagfhgpaaDoor
open Go.ChangeShapes Go.WideShapes Go.ChangeAt Go.RowKit Num
attribute [local go_sem] run_store_float
end Go.Proofs.YthnpgbmagfhgpaaDoor
namespace Go.Proofs.YthnpgbmagfhgpaaDoor
open Go.ChangeShapes Go.WideShapes Go.ChangeAt Go.RowKit Num
end Go.Proofs.YthnpgbmagfhgpaaDoor
namespace Go.Proofs.YthnpgbmagfhgpaaDoor
open Go.ChangeShapes Go.WideShapes Go.ChangeAt Go.RowKit Num
attribute [local go_sem] run_store_float frombits_run bits_run
end Go.Proofs.YthnpgbmagfhgpaaDoor
namespace Go.Proofs.YthnpgbmagfhgpaaDoor
open Go.ChangeShapes Go.WideShapes Go.ChangeAt Go.RowKit Num
attribute [local go_sem] run_store_float
end Go.Proofs.YthnpgbmagfhgpaaDoor
namespace Go.Proofs.YthnpgbmagfhgpaaDoor
open Go.ChangeShapes Go.WideShapes Go.ChangeAt Go.RowKit Num
end Go.Proofs.YthnpgbmagfhgpaaDoor
namespace Go.Proofs.YthnpgbmagfhgpaaDoor
open Go.ChangeShapes Go.WideShapes Go.ChangeAt Go.RowKit Num
attribute [local go_sem] run_store_float
end Go.Proofs.YthnpgbmagfhgpaaDoor
namespace Go.Proofs.YthnpgbmagfhgpaaDoor.Sx
open Go.ChangeShapes Go.WideShapes Go.ChangeAt Go.RowKit Num
end Go.Proofs.YthnpgbmagfhgpaaDoor.Sx
namespace Go.Proofs.YthnpgbmagfhgpaaDoor.Sx
open Go.ChangeShapes Go.WideShapes Go.ChangeAt Go.RowKit Num
attribute [local go_sem] run_store_float frombits_run bits_run
end Go.Proofs.YthnpgbmagfhgpaaDoor.Sx
namespace Go.Proofs.YthnpgbmagfhgpaaDoor.Sx
open Go.ChangeShapes Go.WideShapes Go.ChangeAt Go.RowKit Num
attribute [local go_sem] run_store_float frombits_run bits_run
end Go.Proofs.YthnpgbmagfhgpaaDoor.Sx
namespace Go.Proofs.YthnpgbmagfhgpaaDoor.Sx
open Go.ChangeShapes Go.WideShapes Go.ChangeAt Go.RowKit Num
attribute [local go_sem] run_store_float frombits_run bits_run
end Go.Proofs.YthnpgbmagfhgpaaDoor.Sx
namespace Go.Proofs.YthnpgbmagfhgpaaDoor.Sx
open Go.ChangeShapes Go.WideShapes Go.ChangeAt Go.RowKit Num
attribute [local go_sem] run_store_float frombits_run bits_run
end Go.Proofs.YthnpgbmagfhgpaaDoor.Sx
namespace Go.Proofs.YthnpgbmagfhgpaaDoor
open Go.ChangeShapes Go.WideShapes Go.ChangeAt Go.RowKit Num
end Go.Proofs.YthnpgbmagfhgpaaDoor
namespace Go.Proofs.YthnpgbmagfhgpaaDoor
open Go.ChangeShapes Go.WideShapes Go.ChangeAt Go.RowKit Num
end Go.Proofs.YthnpgbmagfhgpaaDoor
namespace Go.Proofs.YthnpgbmagfhgpaaDoor.Tr
open Num
end Go.Proofs.YthnpgbmagfhgpaaDoor.Tr
namespace Go.Proofs.YthnpgbmagfhgpaaDoor.Tr
open Num
end Go.Proofs.YthnpgbmagfhgpaaDoor.Tr
namespace Go.Proofs.YthnpgbmagfhgpaaDoor.Tr
open Num
def I (op : Int) (n : Nat) : Ins := ⟨op, n, 0⟩
def P (n : Int) : Ins := ⟨1, 0, fixB (X n)⟩
section
variable {C : Cx} {B R : Nat} {M : Tm} {mem : Nat → Nat} {p : List Fr}
def linkSeg (R : Int) : List Ins := [I 10 4, I 9 3, P (R + 1), I 10 5]
def seek (B R : Int) (e : Nat) : List Ins := [I 7 2, I 16 0, I 7 3, I 10 4, I 9 3, P (R + 1), I 10 5, I 8 0, I 7 0, I 13 e, I 7 0, P 3, I 10 3, P B, I 10 1, I 8 1]
variable {st out : List Nat} {q e u nw x0 x1 x4 : Nat}
end
end Go.Proofs.YthnpgbmagfhgpaaDoor.Tr
namespace Go.Proofs.YthnpgbmagfhgpaaDoor.Tr
open Num
def loadK (f : Int) : List Ins := [I 7 1, P f, I 10 1, I 16 0]
def nextS (again : Nat) : List Ins := [I 7 1, P 2, I 10 1, I 8 2, I 11 again]
def turnS (R : Int) : List Ins := [P R, I 10 3, P 1, I 10 1, I 8 3]
section
variable {C : Cx} {B R : Nat} {M : Tm} {mem : Nat → Nat} {st out : List Nat} {q e u nw x0 x1 x2 x3 x4 i y : Nat}
def lookS (B R : Int) (again bottom found : Nat) : List Ins := seek B R bottom ++ (loadK 0 ++ ([I 6 0, I 10 11, I 12 found] ++ (loadK 0 ++ ([I 6 0, I 10 12] ++ (turnS R ++ nextS again)))))
end
end Go.Proofs.YthnpgbmagfhgpaaDoor.Tr
namespace Go.Proofs.YthnpgbmagfhgpaaDoor.Tr
open Num
end Go.Proofs.YthnpgbmagfhgpaaDoor.Tr
namespace Go.Proofs.YthnpgbmagfhgpaaDoor.Tr
open Num
def beginS (B : Int) : List Ins := [P (B + 2), I 8 2, P 1, I 8 3]
def foldS (R c : Int) : List Ins := [P c, I 16 0, P (R + 1), I 10 5]
section
variable {C : Cx} {B R : Nat} {M : Tm} {mem : Nat → Nat} {st out : List Nat} {q e u nw x0 x1 x2 x3 x4 i y K : Nat} {t : T} {S : List Nat}
def lenC (B R : Int) : List Ins := foldS R (B + 1) ++ [I 18 0, I 20 0]
def getC (B R : Int) : List Ins := beginS B ++ (lookS B R 4 48 43 ++ (loadK 1 ++ [I 18 0, I 20 0]))
end
end Go.Proofs.YthnpgbmagfhgpaaDoor.Tr
namespace Go.Proofs.YthnpgbmagfhgpaaDoor.Tr
open Num
def emitKS : List Ins := [I 7 4, P 0, I 10 1, I 16 0, I 18 0, I 7 4, P 1, I 10 1, I 16 0, I 18 0, I 20 0]
section
variable {C : Cx} {B R : Nat} {M : Tm} {mem : Nat → Nat} {st out : List Nat} {q e u nw x0 x1 x2 x3 x4 i y K : Nat} {t : T} {S : List Nat}
def leastC (B R : Int) : List Ins := beginS B ++ (seek B R 27 ++ ([I 7 1, I 8 4] ++ (nextS 4 ++ ([I 7 4, I 13 39] ++ emitKS))))
def afterC (B R : Int) : List Ins := beginS B ++ (seek B R 41 ++ ([I 6 0] ++ (loadK 0 ++ ([I 10 12, I 3 0, I 13 30, I 7 1, I 8 4, I 9 5] ++ (turnS R ++ (nextS 4 ++ ([I 7 4, I 13 53] ++ emitKS)))))))
def allC (B R : Int) : List Ins := [P 0] ++ (beginS B ++ (seek B R 29 ++ ([I 7 1, P 1, I 8 3] ++ (nextS 5 ++ ([I 3 0, I 13 49, I 8 1] ++ (loadK 0 ++ ([I 18 0] ++ (loadK 1 ++ ([I 18 0] ++ ([I 7 1, P 2, I 10 1, I 8 2, P (R + 1), I 8 3, I 11 5] ++ [I 20 0]))))))))))
end
end Go.Proofs.YthnpgbmagfhgpaaDoor.Tr
namespace Go.Proofs.YthnpgbmagfhgpaaDoor.Tr
open Num
end Go.Proofs.YthnpgbmagfhgpaaDoor.Tr
namespace Go.Proofs.YthnpgbmagfhgpaaDoor.Tr
open Num
def addrS (f : Int) : List Ins := [I 7 1, P f, I 10 1]
def goToS (B : Int) : List Ins := [I 7 0, P 3, I 10 3, P B, I 10 1, I 8 1]
def growS (R c : Int) (by_ : Int) : List Ins := foldS R c ++ [P by_, I 10 1, P c, I 17 0]
def putCd (B R : Int) : List Ins := beginS B ++ (lookS B R 4 51 43 ++ (([I 6 1] ++ (addrS 1 ++ [I 17 0, P 0, I 18 0, I 20 0])) ++ (foldS R (B + 1) ++ ([P R, I 10 8, I 12 59, I 19 1] ++ (foldS R B ++ ([I 8 0, I 7 0, I 12 73] ++ (foldS R (B + 1) ++ ([P 1, I 10 1, I 8 0] ++ (goToS B ++ (loadK 2 ++ ([P B, I 17 0, I 6 0] ++ (addrS 0 ++ ([I 17 0, I 6 1] ++ (addrS 1 ++ ([I 17 0, P 0] ++ (addrS 2 ++ ([I 17 0, I 7 2, I 16 0, I 7 0, I 7 3, I 10 3, I 10 1, I 7 2, I 17 0] ++ (growS R (B + 1) 1 ++ [P 1, I 18 0, I 20 0]))))))))))))))))))
end Go.Proofs.YthnpgbmagfhgpaaDoor.Tr
namespace Go.Proofs.YthnpgbmagfhgpaaDoor.Tr
open Num
def childS (R s : Int) : List Ins := loadK 2 ++ ([P s] ++ linkSeg R)
def loneS (B R : Int) : List Ins := [I 7 2, I 16 0] ++ (childS R 1 ++ (childS R (R + 1) ++ ([I 10 1, I 7 0, I 10 2, I 7 3, I 10 3, I 10 1, I 7 2, I 17 0] ++ (foldS R B ++ (addrS 2 ++ ([I 17 0, I 7 0, P B, I 17 0] ++ (growS R (B + 1) (-1) ++ [P 1, I 18 0, I 20 0])))))))
def delC (B R : Int) : List Ins := beginS B ++ (lookS B R 4 43 46 ++ ([P 0, I 18 0, I 20 0] ++ (childS R 1 ++ ([I 13 123] ++ (childS R (R + 1) ++ ([I 13 123, I 7 1, I 8 4] ++ (addrS 2 ++ ([I 8 2, P (R + 1), I 8 3] ++ (seek B R 43 ++ (childS R 1 ++ ([I 13 107, P 1, I 8 3] ++ (nextS 74 ++ (loadK 0 ++ ([I 7 4, P 0, I 10 1, I 17 0] ++ (loadK 1 ++ ([I 7 4, P 1, I 10 1, I 17 0] ++ loneS B R))))))))))))))))
end Go.Proofs.YthnpgbmagfhgpaaDoor.Tr
namespace Go.Proofs.YthnpgbmagfhgpaaDoor.As
open Go.ChangeShapes Go.WideShapes Go.ChangeAt Go.RowKit Num
abbrev Mk := List (Int × Nat)
def look : Mk → Int → Option Nat
  | [], _ => none
  | m :: r, l => if m.1 = l then some m.2 else look r l
def hasM (r : Mk) (l : Int) : Bool := (look r l).isSome
def plN (r : Mk) (l : Int) : Nat := (look r l).getD 0
def twB : Mk → Bool
  | [] => false
  | m :: r => hasM r m.1 || twB r
def inB (many : Nat) (l : Int) : Bool := decide (0 ≤ l) && decide (l < many)
def okM (many : Nat) : Mk → Bool
  | [] => true
  | m :: r => inB many m.1 && !hasM r m.1 && okM many r
theorem look_cons (m : Int × Nat) (r : Mk) (l : Int) : look (m :: r) l = if m.1 = l then some m.2 else look r l := rfl
theorem hasM_cons (m : Int × Nat) (r : Mk) (l : Int) : hasM (m :: r) l = (decide (m.1 = l) || hasM r l) := by
  unfold hasM
  rw [look_cons]
  by_cases h : m.1 = l <;> simp [h]
theorem plN_cons (m : Int × Nat) (r : Mk) (l : Int) : plN (m :: r) l = if m.1 = l then m.2 else plN r l := by
  unfold plN
  rw [look_cons]
  by_cases h : m.1 = l <;> simp [h]
theorem okM_iff (many : Nat) (r : Mk) : okM many r = true ↔ (∀ l, hasM r l = true → inB many l = true) ∧ twB r = false := by
  induction r with
  | nil => simp [okM, hasM, look, twB]
  | cons m r ih =>
    have e : okM many (m :: r) = (inB many m.1 && !hasM r m.1 && okM many r) := rfl
    have e2 : twB (m :: r) = (hasM r m.1 || twB r) := rfl
    rw [e, e2, Bool.and_eq_true, Bool.and_eq_true, ih, Bool.not_eq_true', Bool.or_eq_false_iff]
    constructor
    · rintro ⟨⟨h1, h2⟩, h3, h4⟩
      refine ⟨fun l hl => ?_, h2, h4⟩
      rw [hasM_cons, Bool.or_eq_true, decide_eq_true_eq] at hl
      rcases hl with rfl | hl
      · exact h1
      · exact h3 l hl
    · rintro ⟨h1, h2, h4⟩
      exact ⟨⟨h1 _ (by rw [hasM_cons]; simp), h2⟩, fun l hl => h1 l (by rw [hasM_cons, hl]; simp), h4⟩
structure Bs where
  tag : Int
  code : List Ins
  tos : List (Option Int)
  lat : List (Int × Nat)
  many : Nat
  marks : Mk
def new (t : Int) : Bs := ⟨t, [], [], [], 0, []⟩
def Bs.add (s : Bs) (i : Ins) (o : Option Int) : Bs := { s with code := s.code ++ [i], tos := s.tos ++ [o], lat := match o with | some l => s.lat ++ [(l, s.code.length)] | none => s.lat }
def Bs.lab (s : Bs) : Bs := if s.many = 256 then s else { s with many := s.many + 1 }
def Bs.labV (s : Bs) : Int := if s.many = 256 then -1 else s.many
def Bs.mark (s : Bs) (l : Int) : Bs := { s with marks := (l, s.code.length) :: s.marks }
def Wf (x : Int) : Prop := (Lit.int .i64 x).wf = true
structure Ok (s : Bs) : Prop where
  len : s.tos.length = s.code.length
  to : ∀ k, k < s.code.length → ∀ l, s.tos.getD k none = some l → (l, k) ∈ s.lat
  of : ∀ t, t ∈ s.lat → t.2 < s.code.length ∧ s.tos.getD t.2 none = some t.1 ∧ Wf t.1
  many : s.many ≤ 256
  pl : ∀ m ∈ s.marks, m.2 ≤ s.code.length
  size : s.lat.length ≤ s.code.length
theorem ok_new (t : Int) : Ok (new t) := ⟨rfl, fun k hk => absurd hk (Nat.not_lt_zero _), fun t ht => by simp [new] at ht, Nat.zero_le _, fun m hm => by simp [new] at hm, Nat.le_refl _⟩
theorem getD_app {α : Type} (l : List α) (x d : α) (k : Nat) : (l ++ [x]).getD k d = if k < l.length then l.getD k d else if k = l.length then x else d := by
  rw [List.getD_eq_getElem?_getD, List.getD_eq_getElem?_getD]
  by_cases h : k < l.length
  · rw [if_pos h, List.getElem?_append_left h]
  · rw [if_neg h, List.getElem?_append_right (by omega)]
    by_cases h2 : k = l.length
    · rw [if_pos h2, h2, Nat.sub_self]; rfl
    · rw [if_neg h2, List.getElem?_eq_none (by simp; omega)]; rfl
theorem Ok.add {s : Bs} (h : Ok s) (i : Ins) (o : Option Int) (hw : ∀ l, o = some l → Wf l) : Ok (s.add i o) := by
  have hl := h.len
  have e : (s.add i o).code.length = s.code.length + 1 := by simp [Bs.add]
  refine ⟨by simp [Bs.add, hl], fun k hk l hkl => ?_, fun t ht => ?_, h.many, fun m hm => by rw [e]; exact Nat.le_succ_of_le (h.pl m hm), ?_⟩
  · rw [e] at hk
    have e2 : (s.add i o).tos.getD k none = if k < s.code.length then s.tos.getD k none else if k = s.code.length then o else none := by rw [← hl]; exact getD_app _ _ _ _
    rw [e2] at hkl
    by_cases h1 : k < s.code.length
    · rw [if_pos h1] at hkl
      have := h.to k h1 l hkl
      cases o <;> simp [Bs.add, this]
    · have h2 : k = s.code.length := by omega
      rw [if_neg h1, if_pos h2] at hkl
      subst hkl
      simp [Bs.add, h2]
  · have key : ∀ t ∈ s.lat, t.2 < (s.add i o).code.length ∧ (s.add i o).tos.getD t.2 none = some t.1 ∧ Wf t.1 := fun t ht => by
      obtain ⟨a, b, c⟩ := h.of t ht
      refine ⟨by omega, ?_, c⟩
      show (s.tos ++ [o]).getD t.2 none = _
      rw [getD_app, if_pos (by omega)]
      exact b
    cases o with
    | none => exact key t ht
    | some l =>
      rcases List.mem_append.1 ht with q | q
      · exact key t q
      · rw [List.mem_singleton] at q
        subst q
        refine ⟨by rw [e]; exact Nat.lt_succ_self _, ?_, hw l rfl⟩
        show (s.tos ++ [some l]).getD s.code.length none = some l
        rw [getD_app, if_neg (by omega), if_pos hl.symm]
  · rw [e]
    have := h.size
    cases o <;> simp [Bs.add] <;> omega
theorem Ok.lab {s : Bs} (h : Ok s) : Ok s.lab := by
  unfold Bs.lab
  split
  · exact h
  · exact ⟨h.len, h.to, h.of, by have := h.many; show s.many + 1 ≤ 256; omega, h.pl, h.size⟩
theorem Ok.mark {s : Bs} (h : Ok s) (l : Int) : Ok (s.mark l) := ⟨h.len, h.to, h.of, h.many, fun m hm => by
  rcases List.mem_cons.1 hm with rfl | q
  · exact Nat.le_refl _
  · exact h.pl m q, h.size⟩
def Bs.fin (s : Bs) (k : Nat) : Ins := match s.tos.getD k none with | some l => { ci s.code k with n := (plN s.marks l : Nat) } | none => ci s.code k
def Bs.filled (s : Bs) : List Ins := (List.range s.code.length).map s.fin
def Bs.toOk (s : Bs) (k : Nat) : Bool := match s.tos.getD k none with | some l => hasM s.marks l | none => true
def Bs.ok (s : Bs) : Bool := okM s.many s.marks && (List.range s.code.length).all s.toOk
def Bs.ans (s : Bs) : Int := if s.ok then checkE s.tag s.filled else 190
theorem filled_len (s : Bs) : s.filled.length = s.code.length := by simp [Bs.filled]
theorem filled_at {s : Bs} {k : Nat} (h : k < s.code.length) : ci s.filled k = s.fin k := by
  unfold ci Bs.filled
  rw [List.getD_eq_getElem?_getD, List.getElem?_map, List.getElem?_range h]
  rfl
theorem fin_to {s : Bs} {k : Nat} {l : Int} (h : s.tos.getD k none = some l) : s.fin k = { ci s.code k with n := (plN s.marks l : Nat) } := by unfold Bs.fin; rw [h]
theorem fin_no {s : Bs} {k : Nat} (h : s.tos.getD k none = none) : s.fin k = ci s.code k := by unfold Bs.fin; rw [h]
theorem toOk_to {s : Bs} {k : Nat} {l : Int} (h : s.tos.getD k none = some l) : s.toOk k = hasM s.marks l := by unfold Bs.toOk; rw [h]
theorem toOk_no {s : Bs} {k : Nat} (h : s.tos.getD k none = none) : s.toOk k = true := by unfold Bs.toOk; rw [h]
theorem ok_lat {s : Bs} (h : Ok s) : (∀ k, k < s.code.length → s.toOk k = true) ↔ ∀ t ∈ s.lat, hasM s.marks t.1 = true := by
  constructor
  · intro hk t ht
    obtain ⟨a, b, _⟩ := h.of t ht
    rw [← toOk_to b]
    exact hk _ a
  · intro hk k hl
    cases hq : s.tos.getD k none with
    | none => exact toOk_no hq
    | some l => rw [toOk_to hq]; exact hk _ (h.to k hl l hq)
def fixI (i : Ins) : Ins := { i with x := fixB i.x }
theorem fixB0 : fixB 0 = 0 := by decide
theorem ci_fix (c : List Ins) (k : Nat) : ci (c.map fixI) k = fixI (ci c k) := by
  unfold ci
  rw [List.getD_eq_getElem?_getD, List.getD_eq_getElem?_getD, List.getElem?_map]
  cases c[k]? with
  | none => show (⟨0, 0, 0⟩ : Ins) = fixI ⟨0, 0, 0⟩; unfold fixI; rw [show ((⟨0, 0, 0⟩ : Ins)).x = 0 from rfl, fixB0]
  | some i => rfl
theorem mayB_fix (i : Ins) (n : Nat) : mayB (fixI i) n = mayB i n := by
  unfold mayB fixI
  simp only [fixB_fixB]
theorem checkB_fix (t : Int) (c : List Ins) : checkB t (c.map fixI) = checkB t c := by
  unfold checkB
  simp only [List.length_map, ci_fix, mayB_fix]
theorem checkE_fix (t : Int) (c : List Ins) : checkE t (c.map fixI) = checkE t c := by unfold checkE; rw [checkB_fix]
theorem checkE_ways (t : Int) (c : List Ins) : checkE t c = 0 ∨ checkE t c = 50 := by
  unfold checkE
  split
  · exact .inl rfl
  · exact .inr rfl
end Go.Proofs.YthnpgbmagfhgpaaDoor.As
namespace Go.Proofs.YthnpgbmagfhgpaaDoor.As
open Go.ChangeShapes Go.WideShapes Go.ChangeAt Go.RowKit Num Go.Maps
open Go.ChangeMaps Go.MapKept
section
variable {P : Program} {w : World}
theorem wp_append_ex {o : Oper} {a : Act} {K : Act → World → Prop} {Q : Exit → Act → World → Prop} (s x : Operand) (t tx : TypeId)
    (ho : o.op = .call { callee := .builtin .append, args := #[s, x], argTypes := #[t, tx] }) (vs vx : Value) (hs : a.eval s = vs) (hx : a.eval x = vx) {R : Value → World → Prop}
    (hr : ∃ v w', (Builtin.append_ #[t, tx] o.type #[vs, vx]).run P w = .ok v w' ∧ R v w') (h : ∀ v w', R v w' → K (a.put o.dst v) w') : o.wp P a w K Q := by
  obtain ⟨v, w', hr, hR⟩ := hr
  unfold Oper.wp execOp
  simp only [ho, resolve, invoke, builtin, Sem.run_bind, Sem.run_pure, Result.andThen_ok, List.map_toArray, List.map_cons, List.map_nil, hs, hx, hr]
  exact h v w' hR
theorem wpList_append_ex {ops : Array Oper} {rest : List Oper} {o : Oper} {a : Act} {Q : Exit → Act → World → Prop} (hgd : o.guard = none) (s x : Operand) (t tx : TypeId)
    (ho : o.op = .call { callee := .builtin .append, args := #[s, x], argTypes := #[t, tx] }) (vs vx : Value) (hs : a.eval s = vs) (hx : a.eval x = vx) {R : Value → World → Prop}
    (hr : ∃ v w', (Builtin.append_ #[t, tx] o.type #[vs, vx]).run P w = .ok v w' ∧ R v w') (h : ∀ v w', R v w' → wpList P ops Q rest (a.put o.dst v) w') : wpList P ops Q (o :: rest) a w :=
  wpList_plain hgd fun _ hK => wp_append_ex s x t tx ho vs vx hs hx hr fun v w' hR => hK _ _ (h v w' hR)
end
structure RowW (E : TypeId) (sz : Nat) (w : World) (p : Option Addr) (c n : Nat) (xs : List Value) : Prop where
  own : w.ownsRow 0 E sz (.slice p n c) n xs
section
variable {E : TypeId} {sz : Nat} {w w' : World} {p : Option Addr} {c n : Nat} {xs : List Value}
theorem RowW.len (h : RowW E sz w p c n xs) : xs.length = n * sz := h.own.1
theorem RowW.blk (h : RowW E sz w p c n xs) {k : Nat} (hk : k ∈ fpR p) : ∃ arr, w.heap[k]? = some (.cells arr E (0, 0)) := by
  rcases h.own.2 with ⟨q, _⟩ | ⟨g, cap, cur, hv, hb, hg, rest⟩
  · cases q; simp [fpR] at hk
  · cases hv
    obtain rfl : k = g := by simpa [fpR] using hk
    exact ⟨_, hg⟩
theorem RowW.blw (h : RowW E sz w p c n xs) : Blw w (fpR p) := fun k hk => by obtain ⟨arr, e⟩ := h.blk hk; exact lt_of_block e
theorem RowW.keep (h : RowW E sz w p c n xs) (k : Kept (fpR p) w w') : RowW E sz w' p c n xs := by
  refine ⟨h.own.1, ?_⟩
  rcases h.own.2 with q | ⟨g, cap, cur, hv, hb, hg, rest⟩
  · exact .inl q
  · refine .inr ⟨g, cap, cur, hv, hb, ?_, rest⟩
    rw [k.2 g (own_fpR.2 (by rw [hv]; rfl))]
    exact hg
theorem rowW_nil (E : TypeId) (sz : Nat) (w : World) : RowW E sz w none 0 0 [] := ⟨World.ownsRow_nil _ _ _ _⟩
theorem RowW.at (h : RowW E sz w p c n xs) (h0 : 0 < n) : ∃ g, p = some ⟨g, 0, none⟩ ∧ g < w.heap.size ∧ n ≤ c ∧ c ≤ maxLen ∧ (∀ j, j < n * sz → w.cell? ⟨g, j, none⟩ = xs[j]?) ∧ ∀ j, w.frozen? ⟨g, j, none⟩ = false := by
  rcases h.own.2 with ⟨_, q⟩ | ⟨g, cap, cur, hv, _, hg, hc, hm, hs, ht⟩
  · omega
  · cases hv
    refine ⟨g, rfl, lt_of_block hg, hc, hm, fun j hj => ?_, fun j => frozen_of_row w g j _ _ hg⟩
    rw [cell_of_row w g j _ _ _ hg]
    have h1 : cur.toList[j]? = (cur.toList.take (n * sz))[j]? := by rw [List.getElem?_take, if_pos hj]
    rw [ht] at h1
    simpa using h1
theorem RowW.app (h : RowW E sz w p c n xs) {t : TypeId} {z : Value} {bytes : Nat} (ht : Tryd.prog.underlying t = some (.slice E)) (hI : (Tryd.prog.info? E).map (fun i => (i.zero, i.size, i.bytes)) = some (some z, sz, bytes)) (hzs : z.cells.size = sz) (hsz : 0 < sz)
    {gx : Nat} {arr : Array Value} (hx : w.heap[gx]? = some (.cells arr E (0, 0))) (ha : arr.size = sz) (h1 : ∀ u ∈ arr.toList, u.oneCell' = true) (h63 : n + 1 ≤ maxLen) (hb : (n + 1) * bytes ≤ 140737488355328) (ty : TypeId) :
    ∃ v w', (Builtin.append_ #[t, t] ty #[.slice p n c, .slice (some ⟨gx, 0, none⟩) 1 1]).run Tryd.prog w = .ok v w' ∧ ∃ g c', v = .slice (some ⟨g, 0, none⟩) (n + 1) c' ∧ RowW E sz w' (some ⟨g, 0, none⟩) c' (n + 1) (xs ++ arr.toList) ∧ Turn (fpR p) [g] w w' := by
  obtain ⟨i, hi, hz0, hz1, hz2⟩ := info_parts hI
  obtain ⟨v, w', h1, h2, h3, h4, h5⟩ := run_append_own_at (P := Tryd.prog) (w := w) 0 t ty E i z sz bytes ht hi hz0 hz1 hz2 hzs hsz (.slice p n c) n xs h.own ⟨gx, 0, none⟩ 1 1 arr.toList (by rw [Array.length_toList, ha, Nat.one_mul]) (fun j u hu => by
    rw [Go.WideShapes.add_plain, cell_of_row _ _ _ _ _ _ hx, Nat.zero_add]
    simpa using hu) h1 h63 hb (Nat.zero_le _)
  rcases h2.2 with ⟨_, q⟩ | ⟨g, cap, cur, hv, hrest⟩
  · omega
  · refine ⟨v, w', h1, g, cap, hv, ⟨by rw [hv] at h2; exact h2⟩, ⟨h3.os, h3.tape, h3.output, h3.size, fun k hk hn => h3.block k hk fun q => hn (own_fpR.2 q.symm), fun k hk => ?_⟩⟩
    obtain rfl : k = g := by simpa using hk
    rcases h5 with q | q
    · exact .inl (own_fpR.2 (by rw [← q, hv]; rfl))
    · right
      rw [hv] at q
      have := Option.some.inj q
      show w.heap.size ≤ k
      exact Nat.le_of_eq this.symm
end
theorem Turn.widen {F F' A A' : List Nat} {w w' : World} (h : Turn F F' w w') (hF : ∀ k, k ∈ F → k ∈ A) (hA : ∀ k, k ∈ A' → k ∈ A ∨ w.heap.size ≤ k) : Turn A A' w w' :=
  ⟨h.os, h.tape, h.output, h.size, fun k hk hn => h.block k hk fun q => hn (hF k q), hA⟩
theorem turn_alloc (F : List Nat) (w : World) (o : Obj) : Turn F F w (w.alloc o) := ⟨rfl, rfl, rfl, by simp, fun _ hk _ => Below.heap_alloc _ _ _ hk, fun _ h => .inl h⟩
theorem turn_set (b i : Nat) (v : Value) (w : World) : Turn [b] [b] w (w.setCell ⟨b, i, none⟩ v) := ⟨rfl, rfl, rfl, by simp, fun k _ hn => heap_setCell_other _ _ _ _ (by simpa using hn), fun _ h => .inl h⟩
theorem below_turn {F : List Nat} {w w' : World} (h : Below w.heap.size w w') : Turn F F w w' := ⟨h.os, h.tape, h.output, h.size, fun k hk _ => h.block k hk, fun _ q => .inl q⟩
theorem grown_turn {w w' : World} {b : Nat} (h : w.grownBy w' (some b)) : Turn [b] [b] w w' := ⟨h.os, h.tape, h.output, h.size, fun k hk hn => h.block k hk (by simpa using hn), fun _ q => .inl q⟩
theorem ne_ty {w : World} {a b : Nat} {c d : Array Value} {S T : TypeId} {x y : Nat × Nat} (h : w.heap[a]? = some (.cells c S x)) (k : w.heap[b]? = some (.cells d T y)) (hne : (S == T) = false) : a ≠ b := by
  rintro rfl
  rw [h] at k
  cases k
  simp at hne
theorem ne_map {w : World} {a b : Nat} {c : Array Value} {S : TypeId} {x : Nat × Nat} {es : Array MapEntry} {k : Nat} (h : w.heap[a]? = some (.cells c S x)) (m : w.heap[b]? = some (.map es k)) : a ≠ b := by
  rintro rfl
  rw [h] at m
  cases m
theorem keyI : Keyed Tryd.prog 3 := int_keyed Tryd.underlying3
theorem zeroI (w : World) : (zeroValue 3).run Tryd.prog w = .ok (.int .i64 0) w := by kernel_rfl
def iEl : Value → Option (DataW Unit × List MemPlace)
  | .int .i64 x => some (.lit (.int .i64 x), [])
  | _ => none
theorem iEl_is {v : Value} {y : DataW Unit × List MemPlace} (h : iEl v = some y) : ∃ x, v = .int .i64 x ∧ y = (.lit (.int .i64 x), []) := by
  unfold iEl at h
  split at h
  · exact ⟨_, rfl, (Option.some.inj h).symm⟩
  · cases h
theorem iElem_inv {v : Value} {x : Int} {ps : List MemPlace} (h : iEl v = some (.lit (.int .i64 x), ps)) : v = .int .i64 x := by
  obtain ⟨z, rfl, e⟩ := iEl_is h
  injection e with e _
  injection e with e
  injection e with _ e
  rw [e]
def MapI (w : World) (b : Nat) (r : Mk) : Prop :=
  ∃ n, ∃ D : DataW Unit, w.ownsMap Tryd.prog 3 iEl b n D ∧ n ≤ r.length ∧ ∀ c, Wf c → Maps.has D (.int .i64 c) = hasM r c ∧ D.atKey (.int .i64 c) (.lit (.int .i64 0)) = .lit (.int .i64 (plN r c))
section
variable {w w' : World} {b : Nat} {r : Mk}
theorem MapI.lt (h : MapI w b r) : b < w.heap.size := by obtain ⟨n, D, h1, _⟩ := h; exact h1.lt
theorem MapI.keep (h : MapI w b r) (k : w'.heap[b]? = w.heap[b]?) : MapI w' b r := by
  obtain ⟨n, D, ⟨es, clock, hb, x⟩, h2⟩ := h
  exact ⟨n, D, ⟨es, clock, k.trans hb, x⟩, h2⟩
theorem MapI.is (h : MapI w b r) : ∃ es clock, w.heap[b]? = some (.map es clock) := by
  obtain ⟨n, D, ⟨es, clock, hb, x⟩, h2⟩ := h
  exact ⟨es, clock, hb⟩
theorem mapI_new (w : World) : MapI (w.alloc (.map #[] 0)) w.heap.size [] :=
  ⟨0, .map [], World.ownsMap_made w _ _ _, Nat.le_refl _, fun _ _ => ⟨rfl, rfl⟩⟩
theorem MapI.look (h : MapI w b r) {c : Int} (hc : Wf c) : (Instr.lookup 53 (.map (some b)) (.int .i64 c) true).run Tryd.prog w = .ok (.tuple #[.int .i64 (plN r c), .bool (hasM r c)]) w := by
  obtain ⟨n, D, h1, _, h3⟩ := h
  obtain ⟨v, ps, hrun, hv⟩ := h1.look_ok keyI Tryd.underlying53 (zeroI w) (zd := .lit (.int .i64 0)) (zp := []) rfl (keyOf_int_mk Tryd.underlying3 hc)
  rw [(h3 c hc).2] at hv
  rw [hrun, iElem_inv hv, (h3 c hc).1]
theorem lit_ne {c d : Int} (h : c ≠ d) : (Lit.int .i64 d) ≠ (Lit.int .i64 c) := fun e => h (by injection e with _ e2; exact e2.symm)
theorem MapI.lay (h : MapI w b r) {c : Int} (hc : Wf c) (y : Nat) (hn : r.length < maxLen) : ∃ w', (Instr.mapUpdate 53 (.map (some b)) (.int .i64 c) (.int .i64 y)).run Tryd.prog w = .ok () w' ∧ MapI w' b ((c, y) :: r) ∧ Turn [b] [b] w w' := by
  obtain ⟨n, D, h1, h2, h3⟩ := h
  have hk := keyOf_int_mk Tryd.underlying3 hc
  obtain ⟨w', hrun, ho, hg⟩ := h1.update keyI Tryd.underlying53 (by omega) hk (val := .int .i64 y) (d := .lit (.int .i64 y)) (ps := []) rfl
  refine ⟨w', hrun, ⟨_, _, ho, by simp; omega, fun d hd => ?_⟩, grown_turn hg⟩
  rw [hasM_cons, plN_cons]
  by_cases e : c = d
  · subst e
    rw [has_put_same h1.isMap (keyI.key hk), atKey_put_same h1.isMap (keyI.key hk)]
    simp
  · rw [has_put_other (lit_ne e), atKey_put_other (lit_ne e)]
    simp [e, h3 d hd]
end
def insC (i : Ins) : List Value := [.int .i64 i.op, .int .i64 i.n, .float .f64 i.x]
def codC (c : List Ins) : List Value := c.flatMap insC
theorem codC_len (c : List Ins) : (codC c).length = c.length * 3 := by
  unfold codC
  induction c with
  | nil => rfl
  | cons i c ih => rw [List.flatMap_cons, List.length_append, ih]; simp [insC]; omega
theorem codC_one (c : List Ins) : ∀ u ∈ codC c, u.oneCell' = true := fun u hu => by
  obtain ⟨x, _, hx⟩ := List.mem_flatMap.1 hu
  simp [insC] at hx
  rcases hx with rfl | rfl | rfl <;> rfl
theorem codC_snoc (c : List Ins) (i : Ins) : codC (c ++ [i]) = codC c ++ (#[.int .i64 i.op, .int .i64 i.n, .float .f64 i.x] : Array Value).toList := by simp [codC, insC]
theorem codC_at (c : List Ins) : ∀ k, k < c.length → (codC c)[k * 3]? = some (.int .i64 (ci c k).op) ∧ (codC c)[k * 3 + 1]? = some (.int .i64 (ci c k).n) ∧ (codC c)[k * 3 + 2]? = some (.float .f64 (ci c k).x) := by
  induction c with
  | nil => intro k h; exact absurd h (Nat.not_lt_zero k)
  | cons i c ih =>
    intro k h
    have e0 : codC (i :: c) = insC i ++ codC c := rfl
    cases k with
    | zero => simp [e0, insC, ci]
    | succ k =>
      have q := ih k (by simpa using h)
      have el : (insC i).length = 3 := rfl
      have ec : ci (i :: c) (k + 1) = ci c k := by simp [ci]
      have g : ∀ j, (codC (i :: c))[(k + 1) * 3 + j]? = (codC c)[k * 3 + j]? := fun j => by
        rw [e0, show (k + 1) * 3 + j = (insC i).length + (k * 3 + j) by rw [el]; omega, List.getElem?_append_right (Nat.le_add_right _ _), Nat.add_sub_cancel_left]
      rw [ec]
      exact ⟨(g 0).trans q.1, (g 1).trans q.2.1, (g 2).trans q.2.2⟩
theorem RowW.code {w : World} {p : Option Addr} {c : Nat} {l : List Ins} {n : Nat} (hn : l.length = n) (h : RowW 63 3 w p c n (codC l)) : CodeAt w p l := fun k hk => by
  subst hn
  obtain ⟨g, e, hg, _, _, hc, _⟩ := h.at (by omega)
  obtain ⟨c0, c1, c2⟩ := codC_at l k hk
  refine ⟨g, 0, e, hg, ?_, ?_, ?_⟩
  · rw [Nat.zero_add, hc _ (by omega)]; exact c0
  · rw [Nat.zero_add, hc _ (by omega)]; exact c1
  · rw [Nat.zero_add, hc _ (by omega)]; exact c2
structure Bv where
  pi : Option Addr
  ci : Nat
  bm : Nat
  pL : Option Addr
  cL : Nat
  R : List Nat
def fpB (b : Nat) (v : Bv) : List Nat := b :: v.bm :: (fpR v.pi ++ (fpR v.pL ++ v.R))
def Caps (w : World) (R : List Nat) : Prop := ∀ k, k ∈ R → ∃ arr T, w.heap[k]? = some (.cells arr T (0, 0)) ∧ (T = 3 ∨ T = 45)
def cloV (x y z : Nat) : Value := .func (.func 66) #[] #[.pointer (some ⟨x, 0, none⟩), .pointer (some ⟨y, 0, none⟩), .pointer (some ⟨z, 0, none⟩)]
def CloAt (w : World) (b : Nat) (R : List Nat) (t : Int × Nat) (u : Value) : Prop := ∃ x y z, u = cloV x y z ∧ x ∈ R ∧ y ∈ R ∧ z ∈ R ∧ w.heap[x]? = some (.cells #[.pointer (some ⟨b, 0, none⟩)] 45 (0, 0)) ∧ w.heap[y]? = some (.cells #[.int .i64 t.1] 3 (0, 0)) ∧ w.heap[z]? = some (.cells #[.int .i64 t.2] 3 (0, 0))
def boxA (s : Bs) (v : Bv) : Array Value := #[.int .i64 s.tag, .slice v.pi s.code.length v.ci, .int .i64 s.many, .map (some v.bm), .bool (twB s.marks), .slice v.pL s.lat.length v.cL]
structure BAt (w : World) (b : Nat) (s : Bs) (v : Bv) : Prop where
  box : w.heap[b]? = some (.cells (boxA s v) 56 (0, 0))
  ins : RowW 63 3 w v.pi v.ci s.code.length (codC (s.code.map fixI))
  map : MapI w v.bm s.marks
  lat : ∃ vs, RowW 70 1 w v.pL v.cL s.lat.length vs ∧ ∀ j, j < s.lat.length → ∃ u, vs[j]? = some u ∧ CloAt w b v.R (s.lat.getD j (0, 0)) u
  caps : Caps w v.R
  ok : Ok s
def Bld (w : World) (b : Nat) (F : List Nat) (s : Bs) : Prop := ∃ v, BAt w b s v ∧ F = fpB b v
section
variable {w w' : World} {b : Nat} {s : Bs} {v : Bv} {F : List Nat}
theorem mem_fpB {k : Nat} : k ∈ fpB b v ↔ k = b ∨ k = v.bm ∨ k ∈ fpR v.pi ∨ k ∈ fpR v.pL ∨ k ∈ v.R := by simp [fpB]
theorem Caps.keep {R : List Nat} (h : Caps w R) (k : Kept R w w') : Caps w' R := fun i hi => by
  obtain ⟨arr, T, e, q⟩ := h i hi
  exact ⟨arr, T, (k.2 i hi).trans e, q⟩
theorem CloAt.keep {R : List Nat} {t : Int × Nat} {u : Value} (h : CloAt w b R t u) (k : Kept R w w') : CloAt w' b R t u := by
  obtain ⟨x, y, z, e, h1, h2, h3, h4, h5, h6⟩ := h
  exact ⟨x, y, z, e, h1, h2, h3, (k.2 _ h1).trans h4, (k.2 _ h2).trans h5, (k.2 _ h3).trans h6⟩
theorem BAt.blw (h : BAt w b s v) : Blw w (fpB b v) := fun k hk => by
  rcases mem_fpB.1 hk with rfl | rfl | q | q | q
  · exact lt_of_block h.box
  · exact h.map.lt
  · exact h.ins.blw k q
  · obtain ⟨vs, h1, _⟩ := h.lat; exact h1.blw k q
  · obtain ⟨arr, T, e, _⟩ := h.caps k q; exact lt_of_block e
theorem kept_sub {F G : List Nat} (k : Kept F w w') (h : ∀ i, i ∈ G → i ∈ F) : Kept G w w' := ⟨k.1, fun i hi => k.2 i (h i hi)⟩
theorem BAt.keep (h : BAt w b s v) (k : Kept (fpB b v) w w') : BAt w' b s v := by
  have kR : Kept v.R w w' := kept_sub k fun i hi => mem_fpB.2 (.inr (.inr (.inr (.inr hi))))
  refine ⟨(k.2 b (mem_fpB.2 (.inl rfl))).trans h.box, h.ins.keep (kept_sub k fun i hi => mem_fpB.2 (.inr (.inr (.inl hi)))), h.map.keep (k.2 _ (mem_fpB.2 (.inr (.inl rfl)))), ?_, h.caps.keep kR, h.ok⟩
  obtain ⟨vs, h1, h2⟩ := h.lat
  refine ⟨vs, h1.keep (kept_sub k fun i hi => mem_fpB.2 (.inr (.inr (.inr (.inl hi))))), fun j hj => ?_⟩
  obtain ⟨u, e, q⟩ := h2 j hj
  exact ⟨u, e, q.keep kR⟩
theorem BAt.cells (h : BAt w b s v) : b < w.heap.size ∧ w.cell? ⟨b, 0, none⟩ = some (.int .i64 s.tag) ∧ w.cell? ⟨b, 1, none⟩ = some (.slice v.pi s.code.length v.ci) ∧ w.cell? ⟨b, 2, none⟩ = some (.int .i64 s.many) ∧ w.cell? ⟨b, 3, none⟩ = some (.map (some v.bm)) ∧ w.cell? ⟨b, 4, none⟩ = some (.bool (twB s.marks)) ∧ w.cell? ⟨b, 5, none⟩ = some (.slice v.pL s.lat.length v.cL) ∧ ∀ j, w.frozen? ⟨b, j, none⟩ = false := by
  have c : ∀ j, w.cell? ⟨b, j, none⟩ = (boxA s v)[j]? := fun j => cell_of_row w b j _ _ _ h.box
  exact ⟨lt_of_block h.box, c 0, c 1, c 2, c 3, c 4, c 5, fun j => frozen_of_row w b j _ _ h.box⟩
theorem Bld.blw (h : Bld w b F s) : Blw w F := by obtain ⟨v, h, rfl⟩ := h; exact h.blw
theorem Bld.keep (h : Bld w b F s) (k : Kept F w w') : Bld w' b F s := by obtain ⟨v, h, rfl⟩ := h; exact ⟨v, h.keep k, rfl⟩
theorem Bld.on (h : Bld w b F s) (k : Below w.heap.size w w') : Bld w' b F s := h.keep (kept_below k h.blw)
theorem Bld.turn {G G' : List Nat} (h : Bld w b F s) (k : Turn G G' w w') (q : Sep F G) : Bld w' b F s := h.keep (k.kept q h.blw)
theorem Bld.ok (h : Bld w b F s) : Ok s := by obtain ⟨v, h, _⟩ := h; exact h.ok
theorem BAt.apart (h : BAt w b s v) : b ≠ v.bm ∧ b ∉ fpR v.pi ∧ b ∉ fpR v.pL ∧ b ∉ v.R ∧ v.bm ∉ fpR v.pi ∧ v.bm ∉ fpR v.pL ∧ v.bm ∉ v.R ∧ Sep (fpR v.pi) (fpR v.pL) ∧ Sep (fpR v.pi) v.R ∧ Sep (fpR v.pL) v.R := by
  obtain ⟨es, ck, hm⟩ := h.map.is
  obtain ⟨vs, hl, _⟩ := h.lat
  have cT : ∀ k ∈ v.R, ∃ arr T, w.heap[k]? = some (.cells arr T (0, 0)) ∧ (56 == T) = false ∧ (63 == T) = false ∧ (70 == T) = false := fun k hk => by
    obtain ⟨arr, T, e, q⟩ := h.caps k hk
    refine ⟨arr, T, e, ?_⟩
    rcases q with rfl | rfl <;> exact ⟨by decide, by decide, by decide⟩
  refine ⟨ne_map h.box hm, fun q => ?_, fun q => ?_, fun q => ?_, fun q => ?_, fun q => ?_, fun q => ?_, fun k a q => ?_, fun k a q => ?_, fun k a q => ?_⟩
  · obtain ⟨arr, e⟩ := h.ins.blk q; exact ne_ty h.box e (by decide) rfl
  · obtain ⟨arr, e⟩ := hl.blk q; exact ne_ty h.box e (by decide) rfl
  · obtain ⟨arr, T, e, x, _⟩ := cT _ q; exact ne_ty h.box e x rfl
  · obtain ⟨arr, e⟩ := h.ins.blk q; exact ne_map e hm rfl
  · obtain ⟨arr, e⟩ := hl.blk q; exact ne_map e hm rfl
  · obtain ⟨arr, T, e, _⟩ := cT _ q; exact ne_map e hm rfl
  · obtain ⟨arr, e⟩ := h.ins.blk a; obtain ⟨arr2, e2⟩ := hl.blk q; exact ne_ty e e2 (by decide) rfl
  · obtain ⟨arr, e⟩ := h.ins.blk a; obtain ⟨arr2, T, e2, _, x, _⟩ := cT _ q; exact ne_ty e e2 x rfl
  · obtain ⟨arr, e⟩ := hl.blk a; obtain ⟨arr2, T, e2, _, _, x⟩ := cT _ q; exact ne_ty e e2 x rfl
end
end Go.Proofs.YthnpgbmagfhgpaaDoor.As
namespace Go.Proofs.YthnpgbmagfhgpaaDoor
section
variable {P : Program} {ops : Array Oper} {Q : Exit → Act → World → Prop} {md : Region.Mode} {S : World → Prop}
def wpSeq (P : Program) (ops : Array Oper) (Q : Exit → Act → World → Prop) (S : World → Prop) : List (Nat × Bool) → Act → World → Prop
  | [], a, w => Q .normal a w
  | (i, true) :: rest, a, w => ∃ o v, ops[i]? = some o ∧ YieldsIf P ops S o v a ∧ wpSeq P ops Q S rest (a.put o.dst v) w
  | (i, false) :: rest, a, w => wpOp P ops Q i (fun a' w' => S w' ∧ wpSeq P ops Q S rest a' w') a w
def seqB (md : Region.Mode) (ops : Array Oper) : Array Bool → List (Nat × Bool) → Bool
  | listed, [] => (Region.ready md ops listed).isEmpty
  | listed, (i, true) :: rest => (Region.ready md ops listed).contains i && Region.free md ops listed i && seqB md ops (listed.setIfInBounds i true) rest
  | listed, (i, false) :: rest => Region.ready md ops listed == [i] && seqB md ops (listed.setIfInBounds i true) rest
theorem panic_put (hQ : ∀ c t t' d w, Q (.panic c) ⟨t, d⟩ w → Q (.panic c) ⟨t', d⟩ w) {c} {a : Act} {d : Option Tmp} {v : Value} {w : World} (h : Q (.panic c) (a.put d v) w) : Q (.panic c) a w := by
  obtain ⟨t, ds⟩ := a
  cases d with
  | none => exact h
  | some k => exact hQ c _ _ _ _ h
theorem wpAnyH_of_seq (hs : Region.noSelect ops = true) (hQ : ∀ c t t' d w, Q (.panic c) ⟨t, d⟩ w → Q (.panic c) ⟨t', d⟩ w) : ∀ (l : List (Nat × Bool)) (listed : Array Bool) (a : Act) (w : World), seqB md ops listed l = true → S w → wpSeq P ops Q S l a w → wpAnyH P md ops Q S l.length listed a w
  | [], listed, a, w, hb, _, h => ⟨by simpa [seqB] using hb, h⟩
  | (i, true) :: rest, listed, a, w, hb, hS, h => by
    simp only [seqB, Bool.and_eq_true] at hb
    obtain ⟨o, v, ho, hy, hr⟩ := h
    exact wpAnyH_take ho hs hb.1.2 hb.1.1 (fun c a w h => panic_put hQ h) hy hS (wpAnyH_of_seq hs hQ rest _ _ _ hb.2 hS hr)
  | (i, false) :: rest, listed, a, w, hb, _, h => by
    simp only [seqB, Bool.and_eq_true, beq_iff_eq] at hb
    refine wpAnyH_all (rs := [i]) hb.1 (by simp) fun j hj => ?_
    have hj' : j = i := by simpa using hj
    subst hj'
    exact wpOp_mono (fun a' w' h' => ⟨h'.1, wpAnyH_of_seq hs hQ rest _ _ _ hb.2 h'.1 h'.2⟩) h
theorem wp_region_seq {id : Nat} {a : Act} {w : World} (S : World → Prop) (l : List (Nat × Bool)) (hm : P.follows .mixedOrders = true) (hb : (Region.noSelect ops && l.length == ops.size && seqB .any ops (Array.replicate ops.size false) l) = true) (hQ : ∀ c t t' d w, Q (.panic c) ⟨t, d⟩ w → Q (.panic c) ⟨t', d⟩ w) (hS : S w.drew) (h : wpSeq P ops Q S l a w.drew) : (Code.region id ops true).wp P Q a w := by
  simp only [Bool.and_eq_true, beq_iff_eq] at hb
  refine wp_region_held (S := S) hm ?_
  rw [← hb.1.2]
  have := wpAnyH_of_seq (Q := Q) (S := S) hb.1.1 hQ l _ a w.drew hb.2 hS h
  rw [← hb.1.2] at this
  exact this
theorem wpSeq_nil {a : Act} {w : World} (h : Q .normal a w) : wpSeq P ops Q S [] a w := h
def nth : List Oper → Nat → Option Oper
  | [], _ => none
  | o :: _, 0 => some o
  | _ :: l, n + 1 => nth l n
theorem nth_eq : ∀ (l : List Oper) (i : Nat), nth l i = l[i]?
  | [], _ => by simp [nth]
  | _ :: _, 0 => by simp [nth]
  | _ :: l, n + 1 => by simp [nth, nth_eq l n]
theorem op_at {i : Nat} {o : Oper} (h : nth ops.toList i = some o) : ops[i]? = some o := by
  rw [nth_eq] at h
  simpa using h
theorem wpSeq_take {i : Nat} {rest : List (Nat × Bool)} {o : Oper} {v : Value} {a : Act} {w : World} (ho : nth ops.toList i = some o) (hw : Region.wanted o (yielded ops a.tmps) = true) (hy : ∀ w, S w → (execOp a.eval o).run P w = .ok (.value v) w) (h : wpSeq P ops Q S rest (a.put o.dst v) w) : wpSeq P ops Q S ((i, true) :: rest) a w := ⟨o, v, op_at ho, .inl ⟨hw, hy⟩, h⟩
theorem wpSeq_do {i : Nat} {rest : List (Nat × Bool)} {o : Oper} {a : Act} {w : World} (ho : nth ops.toList i = some o) (hw : Region.wanted o (yielded ops a.tmps) = true) (h : ∀ K' : Act → World → Prop, Shut (∀ a w, S w → wpSeq P ops Q S rest a w → K' a w) → Oper.wp P o a w K' Q) : wpSeq P ops Q S ((i, false) :: rest) a w := by
  refine wpOp_step (op_at ho) (fun K' hK => ?_)
  rw [hw]
  exact h K' fun a w hS hr => hK a w ⟨hS, hr⟩
def Left (ops : Array Oper) (listed : Array Bool) : Prop := ∃ k, k < ops.size ∧ listed.getD k true = false
def wpAnyE (P : Program) (md : Region.Mode) (ops : Array Oper) (Q : Exit → Act → World → Prop) (S : World → Prop) : Nat → Array Bool → Act → World → Prop
  | 0, listed, a, w => Region.ready md ops listed = [] ∧ Q .normal a w
  | n + 1, listed, a, w => (Region.ready md ops listed = [] → Q .normal a w) ∧ ∀ i ∈ Region.ready md ops listed, wpOp P ops Q i (fun a' w' => (Left ops (listed.setIfInBounds i true) → S w') ∧ wpAnyE P md ops Q S n (listed.setIfInBounds i true) a' w') a w
theorem wpAny_of_E : ∀ (n : Nat) (listed : Array Bool) (a : Act) (w : World), wpAnyE P md ops Q S n listed a w → wpAny P md ops Q n listed a w
  | 0, _, _, _, h => h
  | n + 1, _, _, _, h => ⟨h.1, fun i hi => wpOp_mono (fun a' w' k => wpAny_of_E n _ a' w' k.2) (h.2 i hi)⟩
def Waited (md : Region.Mode) (ops : Array Oper) (listed : Array Bool) (i : Nat) : Prop := ∃ k o e, ops[k]? = some o ∧ k ≠ i ∧ listed.getD k true = false ∧ e ∈ o.after ∧ Region.binds md e = true ∧ e.on = i
theorem set_other {l : Array Bool} {i k : Nat} (h : i ≠ k) : (l.setIfInBounds i true).getD k true = l.getD k true := getD_set_ne true h
theorem wpAnyE_take {i : Nat} {oi : Oper} {v : Value} (hi : ops[i]? = some oi) (hs : Region.noSelect ops = true) (hQ : ∀ c a w, Q (.panic c) (a.put oi.dst v) w → Q (.panic c) a w) : ∀ (n : Nat) (listed : Array Bool) (a : Act) (w : World),
    (∀ j oj, ops[j]? = some oj → j ≠ i → listed.getD j true = false → (∀ e ∈ oj.after, Region.binds md e = true → e.on ≠ i) → oi.apart ops oj = true) → i ∈ Region.ready md ops listed → Waited md ops listed i → YieldsIf P ops S oi v a → S w →
    wpAnyE P md ops Q S n (listed.setIfInBounds i true) (a.put oi.dst v) w → wpAnyE P md ops Q S (n + 1) listed a w := by
  intro n
  induction n with
  | zero =>
    intro listed a w _ hr _ hy hS H
    refine ⟨fun z => absurd hr (by rw [z]; simp), fun j hj => ?_⟩
    by_cases hji : j = i
    · subst hji
      exact hy.wpOp hi hS ⟨fun _ => hS, H⟩
    · exact absurd (ready_mono hj hji) (by rw [H.1]; simp)
  | succ n ih =>
    intro listed a w hf hr hW hy hS H
    refine ⟨fun z => absurd hr (by rw [z]; simp), fun j hj => ?_⟩
    by_cases hji : j = i
    · subst hji
      exact hy.wpOp hi hS ⟨fun _ => hS, H⟩
    have hun := (mem_ready.1 hr).1
    obtain ⟨jun, oj, hoj, hall⟩ := mem_ready.1 hj
    -- whoever waits for i is not ready
    have hno : ∀ e ∈ oj.after, Region.binds md e = true → e.on ≠ i := fun e he hb q => by
      have z := hall e he hb
      rw [q] at z
      by_cases hlt : i < listed.size
      · have z1 : listed.getD i true = listed.getD i false := by simp [hlt]
        rw [z1, z] at hun
        cases hun
      · simp [Array.getElem?_eq_none (Nat.not_lt.1 hlt)] at z
    have h2 := wpOp_putIf hoj (hf j oj hoj hji jun hno) (fun cs b => Region.noSelect_spec hs i oi cs b hi) (fun cs b => Region.noSelect_spec hs j oj cs b hoj) hQ hy (H.2 j (ready_mono hj hji))
    obtain ⟨L, oL, e, hL, hLi, hLu, he, hb, hon⟩ := hW
    have hLj : L ≠ j := fun q => by
      subst q
      rw [hL] at hoj
      cases hoj
      exact hno e he hb hon
    have hleft : Left ops ((listed.setIfInBounds i true).setIfInBounds j true) := ⟨L, (Array.getElem?_eq_some_iff.1 hL).1, by rw [set_other (Ne.symm hLj), set_other (Ne.symm hLi)]; exact hLu⟩
    refine wpOp_mono (fun a' w' k => ?_) h2
    have hS' := k.2.1 hleft
    refine ⟨fun _ => hS', ih (listed.setIfInBounds j true) a' w' ?_ (ready_mono hr (Ne.symm hji)) ⟨L, oL, e, hL, hLi, by rw [set_other (Ne.symm hLj)]; exact hLu, he, hb, hon⟩ k.1 hS' ?_⟩
    · intro x ox hx hxi hxu hxn
      refine hf x ox hx hxi ?_ hxn
      by_cases q : j = x
      · subst q; exact jun
      · rw [set_other q] at hxu; exact hxu
    · rw [Array.setIfInBounds_comm _ _ hji]
      exact k.2.2
def waitedB (md : Region.Mode) (ops : Array Oper) (listed : Array Bool) (i : Nat) : Bool := (List.range ops.size).any fun k => k != i && !listed.getD k true && match ops[k]? with
  | some o => o.after.any fun e => Region.binds md e && e.on == i
  | none => false
theorem waited_of {listed : Array Bool} {i : Nat} (h : waitedB md ops listed i = true) : Waited md ops listed i := by
  unfold waitedB at h
  rw [List.any_eq_true] at h
  obtain ⟨k, _, hk⟩ := h
  simp only [Bool.and_eq_true, bne_iff_ne, ne_eq, Bool.not_eq_true'] at hk
  obtain ⟨⟨h1, h2⟩, h3⟩ := hk
  cases ho : ops[k]? with
  | none => rw [ho] at h3; cases h3
  | some o =>
    rw [ho] at h3
    simp only [Array.any_eq_true'] at h3
    obtain ⟨e, he, hb⟩ := h3
    simp only [Bool.and_eq_true, beq_iff_eq] at hb
    exact ⟨k, o, e, ho, h1, h2, he, hb.1, hb.2⟩
def wpSeqE (P : Program) (ops : Array Oper) (Q : Exit → Act → World → Prop) (S : World → Prop) : List (Nat × Bool) → Act → World → Prop
  | [], a, w => Q .normal a w
  | (i, true) :: rest, a, w => ∃ o v, ops[i]? = some o ∧ YieldsIf P ops S o v a ∧ wpSeqE P ops Q S rest (a.put o.dst v) w
  | (i, false) :: rest, a, w => wpOp P ops Q i (fun a' w' => (rest ≠ [] → S w') ∧ wpSeqE P ops Q S rest a' w') a w
def seqEB (md : Region.Mode) (ops : Array Oper) : Array Bool → List (Nat × Bool) → Bool
  | listed, [] => (Region.ready md ops listed).isEmpty && (List.range ops.size).all (listed.getD · true)
  | listed, (i, true) :: rest => (Region.ready md ops listed).contains i && Region.free md ops listed i && waitedB md ops listed i && seqEB md ops (listed.setIfInBounds i true) rest
  | listed, (i, false) :: rest => Region.ready md ops listed == [i] && seqEB md ops (listed.setIfInBounds i true) rest
theorem wpAnyE_of_seq (hs : Region.noSelect ops = true) (hQ : ∀ c t t' d w, Q (.panic c) ⟨t, d⟩ w → Q (.panic c) ⟨t', d⟩ w) : ∀ (l : List (Nat × Bool)) (listed : Array Bool) (a : Act) (w : World), seqEB md ops listed l = true → S w ∨ l = [] → wpSeqE P ops Q S l a w → wpAnyE P md ops Q S l.length listed a w
  | [], listed, a, w, hb, _, h => by
    simp only [seqEB, Bool.and_eq_true] at hb
    exact ⟨by simpa using hb.1, h⟩
  | (i, true) :: rest, listed, a, w, hb, hS, h => by
    simp only [seqEB, Bool.and_eq_true] at hb
    obtain ⟨o, v, ho, hy, hr⟩ := h
    have hS' : S w := hS.resolve_right (by simp)
    exact wpAnyE_take ho hs (fun c a w h => panic_put hQ h) _ _ _ _ (Region.free_spec ho hb.1.1.2) (by simpa using hb.1.1.1) (waited_of hb.1.2) hy hS' (wpAnyE_of_seq hs hQ rest _ _ _ hb.2 (.inl hS') hr)
  | (i, false) :: rest, listed, a, w, hb, _, h => by
    simp only [seqEB, Bool.and_eq_true, beq_iff_eq] at hb
    refine ⟨fun z => absurd (hb.1.symm.trans z) (by simp), fun j hj => ?_⟩
    rw [hb.1] at hj
    have hj' : j = i := by simpa using hj
    subst hj'
    refine wpOp_mono (fun a' w' k => ⟨fun hl => ?_, wpAnyE_of_seq hs hQ rest _ _ _ hb.2 ?_ k.2⟩) h
    · cases rest with
      | nil =>
        obtain ⟨x, hx, hu⟩ := hl
        have := hb.2
        simp only [seqEB, Bool.and_eq_true, List.all_eq_true, List.mem_range] at this
        rw [this.2 x hx] at hu
        cases hu
      | cons y l => exact k.1 (by simp)
    · cases rest with
      | nil => exact .inr rfl
      | cons y l => exact .inl (k.1 (by simp))
theorem wp_region_seqE {id : Nat} {a : Act} {w : World} (S : World → Prop) (l : List (Nat × Bool)) (hm : P.follows .mixedOrders = true) (hb : (Region.noSelect ops && l.length == ops.size && seqEB .any ops (Array.replicate ops.size false) l) = true) (hQ : ∀ c t t' d w, Q (.panic c) ⟨t, d⟩ w → Q (.panic c) ⟨t', d⟩ w) (hS : S w.drew) (h : wpSeqE P ops Q S l a w.drew) : (Code.region id ops true).wp P Q a w := by
  simp only [Bool.and_eq_true, beq_iff_eq] at hb
  refine wp_region_any hm (wpAny_of_E (S := S) _ _ _ _ ?_)
  rw [← hb.1.2]
  have := wpAnyE_of_seq (Q := Q) (S := S) hb.1.1 hQ l _ a w.drew hb.2 (.inl hS) h
  rw [← hb.1.2] at this
  exact this
theorem wpSeqE_nil {a : Act} {w : World} (h : Q .normal a w) : wpSeqE P ops Q S [] a w := h
theorem wpSeqE_take {i : Nat} {rest : List (Nat × Bool)} {o : Oper} {v : Value} {a : Act} {w : World} (ho : nth ops.toList i = some o) (hw : Region.wanted o (yielded ops a.tmps) = true) (hy : ∀ w, S w → (execOp a.eval o).run P w = .ok (.value v) w) (h : wpSeqE P ops Q S rest (a.put o.dst v) w) : wpSeqE P ops Q S ((i, true) :: rest) a w := ⟨o, v, op_at ho, .inl ⟨hw, hy⟩, h⟩
theorem wpSeqE_do {i : Nat} {rest : List (Nat × Bool)} {o : Oper} {a : Act} {w : World} (ho : nth ops.toList i = some o) (hw : Region.wanted o (yielded ops a.tmps) = true) (h : ∀ K' : Act → World → Prop, Shut (∀ a w, (rest ≠ [] → S w) → wpSeqE P ops Q S rest a w → K' a w) → Oper.wp P o a w K' Q) : wpSeqE P ops Q S ((i, false) :: rest) a w := by
  refine wpOp_step (op_at ho) (fun K' hK => ?_)
  rw [hw]
  exact h K' fun a w hS hr => hK a w ⟨hS, hr⟩
end
end Go.Proofs.YthnpgbmagfhgpaaDoor
namespace Go.Proofs.YthnpgbmagfhgpaaDoor.As
open Go.ChangeShapes Go.WideShapes Go.ChangeAt Go.RowKit Num Go.Maps
attribute [local go_sem] run_store_float frombits_run bits_run
theorem follows : Tryd.prog.follows .mixedOrders = true := by kernel_rfl
theorem insInfo : (Tryd.prog.info? 63).map (fun i => (i.zero, i.size, i.bytes)) = some (some (.agg #[.int .i64 0, .int .i64 0, .float .f64 0]), 3, 24) := by kernel_rfl
theorem filInfo : (Tryd.prog.info? 70).map (fun i => (i.zero, i.size, i.bytes)) = some (some .nilFunc, 1, 8) := by kernel_rfl
theorem bl1 (w : World) (o : Obj) : Below w.heap.size w (w.alloc o) := (Below.refl _ _).alloc (Nat.le_refl _) o
def lim : Nat := 4398046511000
section
variable {w w' u w3 : World} {b : Nat} {s : Bs} {v : Bv} {F : List Nat}
theorem new_at (t : Int) (w : World) : ∃ F, Bld ((w.alloc (.map #[] 0)).alloc (.cells #[.int .i64 t, .slice none 0 0, .int .i64 0, .map (some w.heap.size), .bool false, .slice none 0 0] 56)) (w.heap.size + 1) F (new t) ∧ Abv w.heap.size F ∧ Below w.heap.size w ((w.alloc (.map #[] 0)).alloc (.cells #[.int .i64 t, .slice none 0 0, .int .i64 0, .map (some w.heap.size), .bool false, .slice none 0 0] 56)) := by
  have e1 : (w.alloc (.map #[] 0)).heap.size = w.heap.size + 1 := by simp
  refine ⟨_, ⟨⟨none, 0, w.heap.size, none, 0, []⟩, ⟨?_, rowW_nil _ _ _, ?_, ⟨[], rowW_nil _ _ _, fun j hj => absurd hj (Nat.not_lt_zero _)⟩, fun k hk => absurd hk (by simp), ok_new t⟩, rfl⟩, fun k hk => ?_, ((Below.refl _ _).alloc (Nat.le_refl _) _).alloc (by simp) _⟩
  · have := heap_alloc_new (w.alloc (.map #[] 0)) (.cells #[.int .i64 t, .slice none 0 0, .int .i64 0, .map (some w.heap.size), .bool false, .slice none 0 0] 56)
    rw [e1] at this
    exact this
  · exact (mapI_new w).keep (Below.heap_alloc _ _ _ (by simp))
  · simp [fpB, fpR] at hk
    omega
set_option maxRecDepth 100000 in
theorem new_any (t : Int) (w : World) : Calls Tryd.prog 45 #[.int .i64 t] w fun e w' => ∃ b F, e = .returned (.pointer (some ⟨b, 0, none⟩)) ∧ Bld w' b F (new t) ∧ Abv w.heap.size F ∧ Below w.heap.size w w' := by
  have hmm := @run_makeMap Tryd.prog
  have HN := Lib.hid (new_at t w)
  go_enter Tryd.func45, Tryd.ntmps45
  go_wp2
  go_ret
  obtain ⟨F, h⟩ := HN.out
  exact ⟨_, F, by simp, h⟩
theorem len_any (h : Bld w b F s) : Calls Tryd.prog 65 #[.pointer (some ⟨b, 0, none⟩)] w fun e w' => e = .returned (.int .i64 s.code.length) ∧ w' = w := by
  obtain ⟨v, h, rfl⟩ := h
  obtain ⟨hb, _, h1, _⟩ := h.cells
  generalize s.code.length = n at *
  clear h
  go_enter Tryd.func65, Tryd.ntmps65
  go_wp2
  go_ret
  exact ⟨rfl, rfl⟩
theorem BAt.put (h : BAt u b s v) {i : Ins} {g c' : Nat} (hr : RowW 63 3 w3 (some ⟨g, 0, none⟩) c' (s.code.length + 1) (codC (s.code.map fixI) ++ (#[.int .i64 i.op, .int .i64 i.n, .float .f64 (fixB i.x)] : Array Value).toList)) (ht : Turn (fpR v.pi) [g] u w3) :
    BAt (w3.setCell ⟨b, 1, none⟩ (.slice (some ⟨g, 0, none⟩) (s.code.length + 1) c')) b (s.add i none) { v with pi := some ⟨g, 0, none⟩, ci := c' } ∧ Turn (fpB b v) (fpB b { v with pi := some ⟨g, 0, none⟩, ci := c' }) u (w3.setCell ⟨b, 1, none⟩ (.slice (some ⟨g, 0, none⟩) (s.code.length + 1) c')) := by
  obtain ⟨a1, a2, a3, a4, a5, a6, a7, a8, a9, a10⟩ := h.apart
  have hblw := h.blw
  have old : ∀ k, k ∈ fpB b v → k ∉ fpR v.pi → w3.heap[k]? = u.heap[k]? := fun k hk hn => ht.block k (hblw k hk) hn
  have mb : b ∈ fpB b v := mem_fpB.2 (.inl rfl)
  have mm : v.bm ∈ fpB b v := mem_fpB.2 (.inr (.inl rfl))
  have mL : ∀ k ∈ fpR v.pL, k ∈ fpB b v := fun k hk => mem_fpB.2 (.inr (.inr (.inr (.inl hk))))
  have mR : ∀ k ∈ v.R, k ∈ fpB b v := fun k hk => mem_fpB.2 (.inr (.inr (.inr (.inr hk))))
  have hbox := (old b mb a2).trans h.box
  have hg := ht.own g (by simp)
  have gb : g ≠ b := by
    rintro rfl
    exact hg.elim a2 fun q => absurd (hblw _ mb) (Nat.not_lt.2 q)
  have kp : ∀ G, (∀ k ∈ G, k ∈ fpB b v) → b ∉ G → Sep G (fpR v.pi) → Kept G u (w3.setCell ⟨b, 1, none⟩ (.slice (some ⟨g, 0, none⟩) (s.code.length + 1) c')) := fun G hG hb hs => ⟨by simpa using ht.size, fun k hk => (heap_setCell_other _ _ _ _ (by rintro rfl; exact hb hk)).trans (old k (hG k hk) (hs k hk))⟩
  have e : (s.add i none).code.length = s.code.length + 1 := by simp [Bs.add]
  have eC : codC ((s.add i none).code.map fixI) = codC (s.code.map fixI) ++ (#[.int .i64 i.op, .int .i64 i.n, .float .f64 (fixB i.x)] : Array Value).toList := by
    show codC ((s.code ++ [i]).map fixI) = _
    rw [List.map_append, List.map_cons, List.map_nil, codC_snoc]
    rfl
  have kR := kp v.R mR a4 a9.symm
  refine ⟨⟨?_, ?_, h.map.keep ((heap_setCell_other _ _ _ _ (Ne.symm a1)).trans (old _ mm a5)), ?_, h.caps.keep kR, h.ok.add i none (by simp)⟩, ⟨ht.os, ht.tape, ht.output, by simpa using ht.size, fun k hk hn => ?_, fun k hk => ?_⟩⟩
  · refine (heap_setCell_same w3 b 1 _ _ _ hbox).trans ?_
    simp [boxA, Bs.add]
  · rw [e, eC]
    exact hr.keep ⟨by simp, fun k hk => heap_setCell_other _ _ _ _ (by
      obtain rfl : k = g := by simpa [fpR] using hk
      exact gb)⟩
  · obtain ⟨vs, l1, l2⟩ := h.lat
    exact ⟨vs, l1.keep (kp _ mL a3 a8.symm), fun j hj => by obtain ⟨y, e1, e2⟩ := l2 j hj; exact ⟨y, e1, e2.keep kR⟩⟩
  · have hn1 : k ≠ b := by rintro rfl; exact hn mb
    exact (heap_setCell_other _ _ _ _ hn1).trans (ht.block k hk fun q => hn (mem_fpB.2 (.inr (.inr (.inl q)))))
  · rcases mem_fpB.1 hk with q | q | q | q | q
    · exact .inl (q ▸ mb)
    · exact .inl (q ▸ mm)
    · obtain rfl : k = g := by simpa [fpR] using q
      exact hg.imp (fun z => mem_fpB.2 (.inr (.inr (.inl z)))) id
    · exact .inl (mL k q)
    · exact .inl (mR k q)
theorem BAt.app (h : BAt u b s v) (i : Ins) {gx : Nat} (hx : u.heap[gx]? = some (.cells #[.int .i64 i.op, .int .i64 i.n, .float .f64 (fixB i.x)] 63 (0, 0))) (hl : s.code.length < lim) (ty : TypeId) :
    ∃ r w3, (Builtin.append_ #[22, 22] ty #[.slice v.pi s.code.length v.ci, .slice (some ⟨gx, 0, none⟩) 1 1]).run Tryd.prog u = .ok r w3 ∧ b < w3.heap.size ∧ w3.frozen? ⟨b, 1, none⟩ = false ∧ w3.cell? ⟨b, 1, none⟩ = some (.slice v.pi s.code.length v.ci) ∧ (∃ g c', r = .slice (some ⟨g, 0, none⟩) (s.code.length + 1) c') ∧ Hid (∃ F', Bld (w3.setCell ⟨b, 1, none⟩ r) b F' (s.add i none) ∧ Turn (fpB b v) F' u (w3.setCell ⟨b, 1, none⟩ r)) := by
  unfold lim at hl
  obtain ⟨r, w3, h1, g, c', rfl, h2, h3⟩ := h.ins.app Tryd.underlying22 insInfo rfl (by decide) hx rfl (fun y hy => by simp at hy; rcases hy with rfl | rfl | rfl <;> rfl) (by unfold maxLen; omega) (by omega) ty
  obtain ⟨q1, q2⟩ := h.put h2 h3
  obtain ⟨a1, a2, _⟩ := h.apart
  have hbox := (h3.block b (lt_of_block h.box) a2).trans h.box
  exact ⟨_, w3, h1, lt_of_block hbox, frozen_of_row _ _ _ _ _ hbox, (cell_of_row _ _ _ _ _ _ hbox).trans rfl, ⟨g, c', rfl⟩, _, ⟨_, q1, rfl⟩, q2⟩
set_option maxRecDepth 100000 in
theorem add_any (h : Bld w b F s) (op n : Int) (hl : s.code.length < lim) : Calls Tryd.prog 58 #[.pointer (some ⟨b, 0, none⟩), .int .i64 op, .int .i64 n] w fun e w' => ∃ F', e = .returned (.tuple #[]) ∧ Bld w' b F' (s.add ⟨op, n, 0⟩ none) ∧ Turn F F' w w' := by
  obtain ⟨v, h, rfl⟩ := h
  obtain ⟨hb, _, h1, _⟩ := h.cells
  have HA := Lib.hid (BAt.app (h.keep (kept_below (bl1 w (.cells #[.int .i64 op, .int .i64 n, .float .f64 0] 63)) h.blw)) ⟨op, n, 0⟩ (gx := w.heap.size) (heap_alloc_new _ _) hl)
  have HT := Lib.hid (turn_alloc (fpB b v) w (.cells #[.int .i64 op, .int .i64 n, .float .f64 0] 63))
  generalize s.code.length = len at *
  clear h
  go_enter Tryd.func58, Tryd.ntmps58
  go_wp2_with (at_builtin; refine wpList_append_ex rfl _ _ _ _ rfl _ _ rfl rfl (by exact HA.out _) ?_; rintro r w3 ⟨k1, k2, k3, ⟨g, c', rfl⟩, k4⟩)
  go_end0
  obtain ⟨F', f1, f2⟩ := k4.out
  exact ⟨F', rfl, f1, HT.out.trans f2⟩
theorem fixed_any (x : Nat) (w : World) : Calls Tryd.prog 64 #[.float .f64 x] w fun e w' => e = .returned (.float .f64 (fixB x)) ∧ w' = w := by
  have H := Lib.hid (isNaN_any x w)
  cases g : nan x
  · rw [fixB_num g]
    rw [g] at H
    go_enter Tryd.func64, Tryd.ntmps64
    go_wp2_with (go_at_call 69; refine H.out.mono ?_; rintro e w' ⟨rfl, hw⟩; subst w')
    go_ret
    exact ⟨rfl, rfl⟩
  · rw [fixB_nan g]
    rw [g] at H
    go_enter Tryd.func64, Tryd.ntmps64
    go_wp2_with (go_at_call 69; refine H.out.mono ?_; rintro e w' ⟨rfl, hw⟩; subst w')
    go_ret
    exact ⟨rfl, rfl⟩
set_option maxRecDepth 100000 in
theorem push_any (h : Bld w b F s) (x : Nat) (hl : s.code.length < lim) : Calls Tryd.prog 55 #[.pointer (some ⟨b, 0, none⟩), .float .f64 x] w fun e w' => ∃ F', e = .returned (.tuple #[]) ∧ Bld w' b F' (s.add ⟨1, 0, x⟩ none) ∧ Turn F F' w w' := by
  obtain ⟨v, h, rfl⟩ := h
  obtain ⟨hb, _, h1, _⟩ := h.cells
  have HA := Lib.hid (BAt.app (h.keep (w' := w.drew.alloc (.cells #[.int .i64 1, .int .i64 0, .float .f64 (fixB x)] 63)) (kept_below (((Same.drew w).below _).trans (bl1 w.drew _)) h.blw)) ⟨1, 0, x⟩ (gx := w.heap.size) (heap_alloc_new w.drew _) hl)
  have HT := Lib.hid (((Same.drew w).turn (fpB b v)).trans (turn_alloc (fpB b v) w.drew (.cells #[.int .i64 1, .int .i64 0, .float .f64 (fixB x)] 63)))
  generalize s.code.length = len at *
  clear h
  go_enter Tryd.func55, Tryd.ntmps55
  refine wp_region_seqE (fun u => u.cell? ⟨b, 1, none⟩ = some (.slice v.pi len v.ci)) ((0, true) :: (1, true) :: (2, true) :: (3, true) :: (4, true) :: (5, true) :: (6, false) :: (7, true) :: (8, false) :: (9, false) :: (10, true) :: (11, true) :: (12, false) :: []) follows (by kernel_rfl) (fun _ _ _ _ _ h => h) h1 ?_
  (repeat (refine wpSeqE_take (v := ?_) rfl (by rfl) (fun wq hSq => ?_) ?_; rotate_left; (focus ((try dsimp only at hSq); go_simp; try with_reducible rfl)); simp only [Act.put, List.setIfInBounds_toArray, List.set_cons_zero, List.set_cons_succ]))
  (refine wpSeqE_do rfl (by rfl) (fun KK hK => ?_); go_simp)
  refine (fixed_any x _).mono ?_
  rintro r u0 ⟨rfl, hu⟩
  subst u0
  refine hK.out _ _ (fun _ => h1) ?_
  (clear hK KK; try simp only [Act.put, List.setIfInBounds_toArray, List.set_cons_zero, List.set_cons_succ])
  (repeat (refine wpSeqE_take (v := ?_) rfl (by rfl) (fun wq hSq => ?_) ?_; rotate_left; (focus ((try dsimp only at hSq); go_simp; try with_reducible rfl)); simp only [Act.put, List.setIfInBounds_toArray, List.set_cons_zero, List.set_cons_succ]))
  (refine wpSeqE_do rfl (by rfl) (fun KK hK => ?_); go_simp)
  refine hK.out _ _ (fun _ => (World.cell?_alloc_old _ _ _ (Nat.ne_of_lt hb)).trans h1) ?_
  (clear hK KK; try simp only [Act.put, List.setIfInBounds_toArray, List.set_cons_zero, List.set_cons_succ])
  refine wpSeqE_do rfl (by rfl) (fun KK hK => ?_)
  refine wp_append_ex _ _ 22 22 rfl (.slice v.pi len v.ci) (.slice (some ⟨w.heap.size, 0, none⟩) 1 1) rfl rfl (by exact HA.out _) ?_
  rintro r w3 ⟨k1, k2, k3, ⟨g, c', rfl⟩, k4⟩
  refine hK.out _ _ (fun _ => k3) ?_
  (clear hK KK; try simp only [Act.put, List.setIfInBounds_toArray, List.set_cons_zero, List.set_cons_succ])
  (repeat (refine wpSeqE_take (v := ?_) rfl (by rfl) (fun wq hSq => ?_) ?_; rotate_left; (focus ((try dsimp only at hSq); go_simp; try with_reducible rfl)); simp only [Act.put, List.setIfInBounds_toArray, List.set_cons_zero, List.set_cons_succ]))
  (refine wpSeqE_do rfl (by rfl) (fun KK hK => ?_); go_simp)
  refine hK.out _ _ (fun hn => absurd rfl hn) ?_
  (clear hK KK; try simp only [Act.put])
  refine wpSeqE_nil ?_
  go_wp2_with fail
  go_end0
  obtain ⟨F', f1, f2⟩ := k4.out
  exact ⟨F', rfl, f1, HT.out.trans f2⟩
end
end Go.Proofs.YthnpgbmagfhgpaaDoor.As
namespace Go.Proofs.YthnpgbmagfhgpaaDoor.As
open Go.ChangeShapes Go.WideShapes Go.ChangeAt Go.RowKit Num Go.Maps
attribute [local go_sem] run_store_float frombits_run bits_run
section
variable {w w' u w3 : World} {b : Nat} {s : Bs} {v : Bv} {F : List Nat}
theorem BAt.lab (h : BAt w b s v) (hm : ¬ s.many = 256) : BAt (w.setCell ⟨b, 2, none⟩ (.int .i64 ((s.many : Int) + 1))) b s.lab v := by
  obtain ⟨a1, a2, a3, a4, _⟩ := h.apart
  have kp : ∀ G, b ∉ G → Kept G w (w.setCell ⟨b, 2, none⟩ (.int .i64 ((s.many : Int) + 1))) := fun G hb => ⟨by simp, fun k hk => heap_setCell_other _ _ _ _ (by rintro rfl; exact hb hk)⟩
  have e : s.lab = { s with many := s.many + 1 } := by unfold Bs.lab; rw [if_neg hm]
  have ok := h.ok.lab
  rw [e] at ok ⊢
  refine ⟨(heap_setCell_same w b 2 _ _ _ h.box).trans (by simp [boxA]), h.ins.keep (kp _ a2), h.map.keep (heap_setCell_other _ _ _ _ (Ne.symm a1)), ?_, h.caps.keep (kp _ a4), ok⟩
  obtain ⟨vs, l1, l2⟩ := h.lat
  exact ⟨vs, l1.keep (kp _ a3), fun j hj => by obtain ⟨y, e1, e2⟩ := l2 j hj; exact ⟨y, e1, e2.keep (kp _ a4)⟩⟩
set_option maxRecDepth 100000 in
theorem label_any (h : Bld w b F s) : Calls Tryd.prog 46 #[.pointer (some ⟨b, 0, none⟩)] w fun e w' => ∃ F', e = .returned (.int .i64 s.labV) ∧ Bld w' b F' s.lab ∧ Turn F F' w w' := by
  have H0 := h
  obtain ⟨v, h, rfl⟩ := h
  obtain ⟨hb, _, _, h2, _, _, _, hf⟩ := h.cells
  have hf2 := hf 2
  have hm := h.ok.many
  unfold Bs.labV
  by_cases h256 : s.many = 256
  · have e1 : s.lab = s := by unfold Bs.lab; rw [if_pos h256]
    rw [if_pos h256, e1]
    rw [h256] at h2
    have HF := Lib.hid H0
    clear h H0 hf hm
    go_enter Tryd.func46, Tryd.ntmps46
    go_wp2
    go_ret
    exact ⟨_, rfl, HF.out, Turn.refl _ _⟩
  · rw [if_neg h256]
    have HB := Lib.hid (h.lab h256)
    have HT : Hid (Turn (fpB b v) (fpB b v) w (w.setCell ⟨b, 2, none⟩ (.int .i64 ((s.many : Int) + 1)))) := Turn.widen (turn_set b 2 _ w) (fun k hk => mem_fpB.2 (.inl (by simpa using hk))) (fun _ hk => .inl hk)
    have hne : ((s.many : Int) == 256) = false := by simp; omega
    generalize s.lab = sl at *
    generalize s.many = m at *
    clear h H0 hf
    go_enter Tryd.func46, Tryd.ntmps46
    go_wp2
    go_ret
    exact ⟨_, by simp, ⟨v, HB.out, rfl⟩, HT.out⟩
theorem len_at {n c : Nat} {p : Option Addr} (h1 : w.cell? ⟨b, 1, none⟩ = some (.slice p n c)) : Calls Tryd.prog 65 #[.pointer (some ⟨b, 0, none⟩)] w fun e w' => e = .returned (.int .i64 n) ∧ w' = w := by
  go_enter Tryd.func65, Tryd.ntmps65
  go_wp2
  go_ret
  exact ⟨rfl, rfl⟩
theorem BAt.marked (h : BAt w b s v) {l : Int} (hw : Wf l) (hn : s.marks.length < maxLen) (hbox : w'.heap[b]? = some (.cells (boxA (s.mark l) v) 56 (0, 0))) (ht : Turn [b] [b] w w') :
    ∃ w4, (Instr.mapUpdate 53 (.map (some v.bm)) (.int .i64 l) (.int .i64 (s.code.length : Nat))).run Tryd.prog w' = .ok () w4 ∧ Hid (BAt w4 b (s.mark l) v ∧ Turn (fpB b v) (fpB b v) w w4) := by
  obtain ⟨a1, a2, a3, a4, a5, a6, a7, _⟩ := h.apart
  have hm : MapI w' v.bm s.marks := h.map.keep (ht.block _ h.map.lt (by simp [Ne.symm a1]))
  obtain ⟨w4, e, m4, t4⟩ := hm.lay hw s.code.length hn
  have hblw := h.blw
  have kp : ∀ G, (∀ k ∈ G, k ∈ fpB b v) → b ∉ G → v.bm ∉ G → Kept G w w4 := fun G hG hb hm => ⟨Nat.le_trans ht.size t4.size, fun k hk => (t4.block k (Nat.lt_of_lt_of_le (hblw k (hG k hk)) ht.size) (by simp; rintro rfl; exact hm hk)).trans (ht.block k (hblw k (hG k hk)) (by simp; rintro rfl; exact hb hk))⟩
  have kR := kp v.R (fun k hk => mem_fpB.2 (.inr (.inr (.inr (.inr hk))))) a4 a7
  refine ⟨w4, e, ⟨(t4.block b (lt_of_block hbox) (by simp [a1])).trans hbox, h.ins.keep (kp _ (fun k hk => mem_fpB.2 (.inr (.inr (.inl hk)))) a2 a5), m4, ?_, h.caps.keep kR, h.ok.mark l⟩, ?_⟩
  · obtain ⟨vs, l1, l2⟩ := h.lat
    exact ⟨vs, l1.keep (kp _ (fun k hk => mem_fpB.2 (.inr (.inr (.inr (.inl hk))))) a3 a6), fun j hj => by obtain ⟨y, e1, e2⟩ := l2 j hj; exact ⟨y, e1, e2.keep kR⟩⟩
  · exact (Turn.widen ht (fun k hk => mem_fpB.2 (.inl (by simpa using hk))) (fun _ hk => .inl hk)).trans (Turn.widen t4 (fun k hk => mem_fpB.2 (.inr (.inl (by simpa using hk)))) (fun _ hk => .inl hk))
set_option maxRecDepth 100000 in
theorem mark_any (h : Bld w b F s) {l : Int} (hw : Wf l) (hn : s.marks.length < maxLen) : Calls Tryd.prog 57 #[.pointer (some ⟨b, 0, none⟩), .int .i64 l] w fun e w' => ∃ F', e = .returned (.tuple #[]) ∧ Bld w' b F' (s.mark l) ∧ Turn F F' w w' := by
  obtain ⟨v, h, rfl⟩ := h
  obtain ⟨hb, _, h1, _, h3, h4, _, hf⟩ := h.cells
  have hlk := h.map.look hw
  have e1 : boxA (s.mark l) v = (boxA s v).setIfInBounds 4 (.bool (hasM s.marks l || twB s.marks)) := rfl
  cases hh : hasM s.marks l
  · rw [hh] at hlk e1
    have e2 : boxA (s.mark l) v = boxA s v := by rw [e1]; simp [boxA]
    obtain ⟨w4, k1, k2⟩ := h.marked (w' := w.drew) hw hn (by rw [e2]; exact h.box) ((Same.drew w).turn _)
    generalize s.code.length = n at *
    clear h e1 e2 hh
    go_enter Tryd.func57, Tryd.ntmps57
    go_wp2
    refine wp_region_seqE (fun u => u.cell? ⟨b, 3, none⟩ = some (.map (some v.bm))) ((0, true) :: (1, true) :: (2, true) :: (3, true) :: (4, true) :: (5, true) :: (6, false) :: (7, false) :: []) follows (by kernel_rfl) (fun _ _ _ _ _ h => h) h3 ?_
    (repeat (refine wpSeqE_take (v := ?_) rfl (by rfl) (fun wq hSq => ?_) ?_; rotate_left; (focus ((try dsimp only at hSq); go_simp; try with_reducible rfl)); simp only [Act.put, List.setIfInBounds_toArray, List.set_cons_zero, List.set_cons_succ]))
    (refine wpSeqE_do rfl (by rfl) (fun KK hK => ?_); go_simp)
    refine (len_at (w := w.drew) h1).mono ?_
    rintro r u0 ⟨rfl, hu⟩
    subst u0
    refine hK.out _ _ (fun _ => h3) ?_
    (clear hK KK; try simp only [Act.put, List.setIfInBounds_toArray, List.set_cons_zero, List.set_cons_succ])
    (refine wpSeqE_do rfl (by rfl) (fun KK hK => ?_); go_simp)
    refine hK.out _ _ (fun hn => absurd rfl hn) ?_
    (clear hK KK; try simp only [Act.put])
    refine wpSeqE_nil ?_
    go_wp2_with fail
    go_end0
    exact ⟨_, rfl, ⟨v, k2.out.1, rfl⟩, k2.out.2⟩
  · rw [hh] at hlk e1
    have hf4 := hf 4
    have hbox : (w.setCell ⟨b, 4, none⟩ (.bool true)).heap[b]? = some (.cells (boxA (s.mark l) v) 56 (0, 0)) := by
      rw [e1]
      exact heap_setCell_same w b 4 _ _ _ h.box
    obtain ⟨w4, k1, k2⟩ := h.marked (w' := (w.setCell ⟨b, 4, none⟩ (.bool true)).drew) hw hn hbox ((turn_set b 4 _ w).trans ((Same.drew _).turn _))
    have g3 : (w.setCell ⟨b, 4, none⟩ (.bool true)).drew.cell? ⟨b, 3, none⟩ = some (.map (some v.bm)) := (cell_of_row (w.setCell ⟨b, 4, none⟩ (.bool true)) b 3 _ _ _ hbox).trans rfl
    have g1 : (w.setCell ⟨b, 4, none⟩ (.bool true)).drew.cell? ⟨b, 1, none⟩ = some (.slice v.pi s.code.length v.ci) := (cell_of_row (w.setCell ⟨b, 4, none⟩ (.bool true)) b 1 _ _ _ hbox).trans rfl
    generalize s.code.length = n at *
    clear h e1 hh hbox
    go_enter Tryd.func57, Tryd.ntmps57
    go_wp2
    refine wp_region_seqE (fun u => u.cell? ⟨b, 3, none⟩ = some (.map (some v.bm))) ((0, true) :: (1, true) :: (2, true) :: (3, true) :: (4, true) :: (5, true) :: (6, false) :: (7, false) :: []) follows (by kernel_rfl) (fun _ _ _ _ _ h => h) g3 ?_
    (repeat (refine wpSeqE_take (v := ?_) rfl (by rfl) (fun wq hSq => ?_) ?_; rotate_left; (focus ((try dsimp only at hSq); go_simp; try with_reducible rfl)); simp only [Act.put, List.setIfInBounds_toArray, List.set_cons_zero, List.set_cons_succ]))
    (refine wpSeqE_do rfl (by rfl) (fun KK hK => ?_); go_simp)
    refine (len_at g1).mono ?_
    rintro r u0 ⟨rfl, hu⟩
    subst u0
    refine hK.out _ _ (fun _ => g3) ?_
    (clear hK KK; try simp only [Act.put, List.setIfInBounds_toArray, List.set_cons_zero, List.set_cons_succ])
    (refine wpSeqE_do rfl (by rfl) (fun KK hK => ?_); go_simp)
    refine hK.out _ _ (fun hn => absurd rfl hn) ?_
    (clear hK KK; try simp only [Act.put])
    refine wpSeqE_nil ?_
    go_wp2_with fail
    go_end0
    exact ⟨_, rfl, ⟨v, k2.out.1, rfl⟩, k2.out.2⟩
theorem BAt.app2 {i : Ins} (h : BAt u b (s.add i none) v) (ok : Ok s) {l : Int} (hw : Wf l) {x y z gx : Nat} (hx : u.heap[x]? = some (.cells #[.pointer (some ⟨b, 0, none⟩)] 45 (0, 0))) (hy : u.heap[y]? = some (.cells #[.int .i64 l] 3 (0, 0))) (hz : u.heap[z]? = some (.cells #[.int .i64 (s.code.length : Nat)] 3 (0, 0)))
    (hg : u.heap[gx]? = some (.cells #[cloV x y z] 70 (0, 0))) (hl : s.code.length < lim) (ty : TypeId) :
    ∃ r w3, (Builtin.append_ #[54, 54] ty #[.slice v.pL s.lat.length v.cL, .slice (some ⟨gx, 0, none⟩) 1 1]).run Tryd.prog u = .ok r w3 ∧ b < w3.heap.size ∧ w3.frozen? ⟨b, 5, none⟩ = false ∧ (w3.cell? ⟨b, 5, none⟩ = some (.slice v.pL s.lat.length v.cL) ∧ w3.cell? ⟨x, 0, none⟩ = some (.pointer (some ⟨b, 0, none⟩))) ∧ (∃ g c', r = .slice (some ⟨g, 0, none⟩) (s.lat.length + 1) c') ∧ Hid (∃ F', Bld (w3.setCell ⟨b, 5, none⟩ r) b F' (s.add i (some l)) ∧ Turn (x :: y :: z :: fpB b v) F' u (w3.setCell ⟨b, 5, none⟩ r)) := by
  unfold lim at hl
  have hls := ok.size
  have elat : (s.add i none).lat = s.lat := rfl
  obtain ⟨vs, l1, l2⟩ := h.lat
  rw [elat] at l1
  obtain ⟨r, w3, h1, g, c', rfl, h2, ht⟩ := l1.app Tryd.underlying54 filInfo rfl (by decide) hg rfl (fun q hq => by simp at hq; subst hq; rfl) (by unfold maxLen; omega) (by omega) ty
  obtain ⟨a1, a2, a3, a4, a5, a6, a7, a8, a9, a10⟩ := h.apart
  have hblw := h.blw
  have old : ∀ k, k < u.heap.size → k ∉ fpR v.pL → w3.heap[k]? = u.heap[k]? := fun k hk hn => ht.block k hk hn
  have mb : b ∈ fpB b v := mem_fpB.2 (.inl rfl)
  have mm : v.bm ∈ fpB b v := mem_fpB.2 (.inr (.inl rfl))
  have mI : ∀ k ∈ fpR v.pi, k ∈ fpB b v := fun k hk => mem_fpB.2 (.inr (.inr (.inl hk)))
  have mR : ∀ k ∈ v.R, k ∈ fpB b v := fun k hk => mem_fpB.2 (.inr (.inr (.inr (.inr hk))))
  have hbox := (old b (lt_of_block h.box) a3).trans h.box
  have hgo := ht.own g (by simp)
  have gb : g ≠ b := by
    rintro rfl
    exact hgo.elim a3 fun q => absurd (hblw _ mb) (Nat.not_lt.2 q)
  have nx : ∀ {k : Nat} {c : Array Value} {T : TypeId}, u.heap[k]? = some (.cells c T (0, 0)) → (70 == T) = false → (56 == T) = false → (w3.setCell ⟨b, 5, none⟩ (.slice (some ⟨g, 0, none⟩) (s.lat.length + 1) c')).heap[k]? = some (.cells c T (0, 0)) ∧ w3.heap[k]? = some (.cells c T (0, 0)) := fun {k c T} hk q1 q2 => by
    have e1 : k ∉ fpR v.pL := fun q => by obtain ⟨arr, e⟩ := l1.blk q; exact ne_ty e hk q1 rfl
    have e2 := (old k (lt_of_block hk) e1).trans hk
    exact ⟨(heap_setCell_other _ _ _ _ (by rintro rfl; exact ne_ty h.box hk q2 rfl)).trans e2, e2⟩
  obtain ⟨hx', hx3⟩ := nx hx (by decide) (by decide)
  obtain ⟨hy', _⟩ := nx hy (by decide) (by decide)
  obtain ⟨hz', _⟩ := nx hz (by decide) (by decide)
  have kp : ∀ G, (∀ k ∈ G, k ∈ fpB b v) → b ∉ G → Sep G (fpR v.pL) → Kept G u (w3.setCell ⟨b, 5, none⟩ (.slice (some ⟨g, 0, none⟩) (s.lat.length + 1) c')) := fun G hG hb hs => ⟨by simpa using ht.size, fun k hk => (heap_setCell_other _ _ _ _ (by rintro rfl; exact hb hk)).trans (old k (hblw k (hG k hk)) (hs k hk))⟩
  have kR := kp v.R mR a4 a10.symm
  have el : (s.add i (some l)).lat = s.lat ++ [(l, s.code.length)] := rfl
  have eln : (s.add i (some l)).lat.length = s.lat.length + 1 := by rw [el]; simp
  refine ⟨_, w3, h1, lt_of_block hbox, frozen_of_row _ _ _ _ _ hbox, ⟨(cell_of_row _ _ _ _ _ _ hbox).trans rfl, (cell_of_row _ _ _ _ _ _ hx3).trans rfl⟩, ⟨g, c', rfl⟩, fpB b { v with pL := some ⟨g, 0, none⟩, cL := c', R := x :: y :: z :: v.R }, ⟨{ v with pL := some ⟨g, 0, none⟩, cL := c', R := x :: y :: z :: v.R }, ⟨?_, h.ins.keep (kp _ mI a2 a8), h.map.keep ((heap_setCell_other _ _ _ _ (Ne.symm a1)).trans (old _ h.map.lt a6)), ?_, ?_, ok.add i (some l) (by rintro l' e; cases e; exact hw)⟩, rfl⟩, ⟨ht.os, ht.tape, ht.output, by simpa using ht.size, fun k hk hn => ?_, fun k hk => ?_⟩⟩
  · refine (heap_setCell_same w3 b 5 _ _ _ hbox).trans ?_
    rw [show boxA (s.add i (some l)) { v with pL := some ⟨g, 0, none⟩, cL := c', R := x :: y :: z :: v.R } = (boxA (s.add i none) v).setIfInBounds 5 (.slice (some ⟨g, 0, none⟩) (s.add i (some l)).lat.length c') from rfl, eln]
  · rw [eln]
    refine ⟨_, h2.keep ⟨by simp, fun k hk => heap_setCell_other _ _ _ _ (by
      obtain rfl : k = g := by simpa [fpR] using hk
      exact gb)⟩, fun j hj => ?_⟩
    have hvl := l1.len
    rw [Nat.mul_one] at hvl
    by_cases hjl : j < s.lat.length
    · obtain ⟨q, e1, X, Y, Z, e2, m1, m2, m3, rest⟩ := l2 j (by rw [elat]; exact hjl)
      refine ⟨q, by rw [List.getElem?_append_left (by omega)]; exact e1, X, Y, Z, e2, by simp [m1], by simp [m2], by simp [m3], ?_⟩
      rw [el, getD_app, if_pos hjl]
      exact ⟨(kR.2 _ m1).trans rest.1, (kR.2 _ m2).trans rest.2.1, (kR.2 _ m3).trans rest.2.2⟩
    · have hj2 : j = s.lat.length := by omega
      subst hj2
      refine ⟨cloV x y z, by rw [← hvl, List.getElem?_append_right (Nat.le_refl _), Nat.sub_self]; rfl, x, y, z, rfl, by simp, by simp, by simp, hx', ?_⟩
      rw [el, getD_app, if_neg (Nat.lt_irrefl _), if_pos rfl]
      exact ⟨hy', hz'⟩
  · intro k hk
    simp only [List.mem_cons] at hk
    rcases hk with rfl | rfl | rfl | q
    · exact ⟨_, _, hx', .inr rfl⟩
    · exact ⟨_, _, hy', .inl rfl⟩
    · exact ⟨_, _, hz', .inl rfl⟩
    · exact h.caps.keep kR k q
  · simp only [List.mem_cons, not_or] at hn
    have hn1 : k ≠ b := by rintro rfl; exact hn.2.2.2 mb
    exact (heap_setCell_other _ _ _ _ hn1).trans (old k hk fun q => hn.2.2.2 (mem_fpB.2 (.inr (.inr (.inr (.inl q))))))
  · simp only [List.mem_cons]
    rcases mem_fpB.1 hk with q | q | q | q | q
    · exact .inl (.inr (.inr (.inr (q ▸ mb))))
    · exact .inl (.inr (.inr (.inr (q ▸ mm))))
    · exact .inl (.inr (.inr (.inr (mI k q))))
    · obtain rfl : k = g := by simpa [fpR] using q
      exact hgo.imp (fun t => .inr (.inr (.inr (mem_fpB.2 (.inr (.inr (.inr (.inl t)))))))) id
    · simp only [List.mem_cons] at q
      rcases q with q | q | q | q
      · exact .inl (.inl q)
      · exact .inl (.inr (.inl q))
      · exact .inl (.inr (.inr (.inl q)))
      · exact .inl (.inr (.inr (.inr (mR k q))))
abbrev cap3 (w : World) (b : Nat) (l n : Int) : World := ((w.alloc (.cells #[.pointer (some ⟨b, 0, none⟩)] 45)).alloc (.cells #[.int .i64 l] 3)).alloc (.cells #[.int .i64 n] 3)
theorem cap3_at (w : World) (b : Nat) (l n : Int) : Below w.heap.size w (cap3 w b l n) ∧ (cap3 w b l n).heap[w.heap.size]? = some (.cells #[.pointer (some ⟨b, 0, none⟩)] 45 (0, 0)) ∧ (cap3 w b l n).heap[w.heap.size + 1]? = some (.cells #[.int .i64 l] 3 (0, 0)) ∧ (cap3 w b l n).heap[w.heap.size + 1 + 1]? = some (.cells #[.int .i64 n] 3 (0, 0)) ∧ (cap3 w b l n).heap.size = w.heap.size + 1 + 1 + 1 := by
  have e1 : (w.alloc (.cells #[.pointer (some ⟨b, 0, none⟩)] 45)).heap.size = w.heap.size + 1 := by simp
  have e2 : ((w.alloc (.cells #[.pointer (some ⟨b, 0, none⟩)] 45)).alloc (.cells #[.int .i64 l] 3)).heap.size = w.heap.size + 1 + 1 := by simp
  have h1 := heap_alloc_new w (.cells #[.pointer (some ⟨b, 0, none⟩)] 45)
  have h2 := heap_alloc_new (w.alloc (.cells #[.pointer (some ⟨b, 0, none⟩)] 45)) (.cells #[.int .i64 l] 3)
  have h3 := heap_alloc_new ((w.alloc (.cells #[.pointer (some ⟨b, 0, none⟩)] 45)).alloc (.cells #[.int .i64 l] 3)) (.cells #[.int .i64 n] 3)
  rw [e1] at h2
  rw [e2] at h3
  exact ⟨((bl1 w _).alloc (by simp) _).alloc (by simp; omega) _, (Below.heap_alloc _ _ _ (by simp; omega)).trans ((Below.heap_alloc _ _ _ (by simp)).trans h1), (Below.heap_alloc _ _ _ (by simp)).trans h2, h3, by simp⟩
theorem to_fin {w2 : World} {i : Ins} {l : Int} {n : Nat} {F2 : List Nat} (h : Bld w b F s) (hw : Wf l) (hl : s.code.length < lim) (hn : s.code.length = n) (q1 : Bld w2 b F2 (s.add i none)) (q2 : Turn F F2 (cap3 w b l n) w2) :
    ∃ p c, w2.cell? ⟨b, 5, none⟩ = some (.slice p s.lat.length c) ∧ w2.cell? ⟨w.heap.size, 0, none⟩ = some (.pointer (some ⟨b, 0, none⟩)) ∧ b < w2.heap.size ∧ w.heap.size < w2.heap.size ∧ b ≠ w2.heap.size ∧ w.heap.size ≠ w2.heap.size ∧
      ∀ ty, ∃ r w3, (Builtin.append_ #[54, 54] ty #[.slice p s.lat.length c, .slice (some ⟨w2.heap.size, 0, none⟩) 1 1]).run Tryd.prog (w2.drew.alloc (.cells #[.func (.func 66) #[] #[.pointer (some ⟨w.heap.size, 0, none⟩), .pointer (some ⟨w.heap.size + 1, 0, none⟩), .pointer (some ⟨w.heap.size + 1 + 1, 0, none⟩)]] 70)) = .ok r w3 ∧ b < w3.heap.size ∧ w3.frozen? ⟨b, 5, none⟩ = false ∧ (w3.cell? ⟨b, 5, none⟩ = some (.slice p s.lat.length c) ∧ w3.cell? ⟨w.heap.size, 0, none⟩ = some (.pointer (some ⟨b, 0, none⟩))) ∧ (∃ g c', r = .slice (some ⟨g, 0, none⟩) (s.lat.length + 1) c') ∧ Hid (∃ F', Bld (w3.setCell ⟨b, 5, none⟩ r) b F' (s.add i (some l)) ∧ Turn F F' w (w3.setCell ⟨b, 5, none⟩ r)) := by
  obtain ⟨v2, q1, rfl⟩ := q1
  obtain ⟨c1, c2, c3, c4, c5⟩ := cap3_at w b l n
  have hF := h.blw
  have nF : ∀ k, w.heap.size ≤ k → k ∉ F := fun k hk q => absurd (hF k q) (Nat.not_lt.2 hk)
  have d2 := (q2.block _ (lt_of_block c2) (nF _ (Nat.le_refl _))).trans c2
  have d3 := (q2.block _ (lt_of_block c3) (nF _ (by omega))).trans c3
  have d4 := (q2.block _ (lt_of_block c4) (nF _ (by omega))).trans c4
  obtain ⟨hb, _, _, _, _, _, h5, _⟩ := q1.cells
  have lx := lt_of_block d2
  refine ⟨v2.pL, v2.cL, h5, (cell_of_row _ _ _ _ _ _ d2).trans rfl, hb, lx, Nat.ne_of_lt hb, Nat.ne_of_lt lx, fun ty => ?_⟩
  have ea := bl1 w2.drew (.cells #[cloV w.heap.size (w.heap.size + 1) (w.heap.size + 1 + 1)] 70)
  have ea2 : Below w2.heap.size w2 (w2.drew.alloc (.cells #[cloV w.heap.size (w.heap.size + 1) (w.heap.size + 1 + 1)] 70)) := ((Same.drew w2).below _).trans ea
  obtain ⟨r, w3, k1, k2, k3, k4, k5, k6⟩ := BAt.app2 (q1.keep (kept_below ea2 q1.blw)) h.ok hw ((ea2.block _ (lt_of_block d2)).trans d2) ((ea2.block _ (lt_of_block d3)).trans d3) ((ea2.block _ (lt_of_block d4)).trans (by rw [hn]; exact d4)) (heap_alloc_new w2.drew _) hl ty
  refine ⟨r, w3, k1, k2, k3, k4, k5, ?_⟩
  obtain ⟨F', f1, f2⟩ := k6.out
  refine ⟨F', f1, Turn.trans ?_ f2⟩
  have t1 : Turn F F w (cap3 w b l n) := below_turn c1
  refine ((t1.trans q2).trans (below_turn ea2)).mono fun k hk => ?_
  simp only [List.mem_cons] at hk
  rcases hk with rfl | rfl | rfl | q
  · exact .inr (Nat.le_refl _)
  · exact .inr (by omega)
  · exact .inr (by omega)
  · exact ((t1.trans q2).own k q)
set_option maxRecDepth 100000 in
theorem to_any (h : Bld w b F s) (op l : Int) (hw : Wf l) (hl : s.code.length < lim) : Calls Tryd.prog 56 #[.pointer (some ⟨b, 0, none⟩), .int .i64 op, .int .i64 l] w fun e w' => ∃ F', e = .returned (.tuple #[]) ∧ Bld w' b F' (s.add ⟨op, 0, 0⟩ (some l)) ∧ Turn F F' w w' := by
  have hb := (h.blw b (by obtain ⟨v, h, rfl⟩ := h; exact mem_fpB.2 (.inl rfl)))
  have HB : Hid (∀ u, Below w.heap.size w u → Bld u b F s) := fun u hu => h.on hu
  have HLEN : Hid (∀ u, Bld u b F s → Calls Tryd.prog 65 #[.pointer (some ⟨b, 0, none⟩)] u fun e w' => e = .returned (.int .i64 s.code.length) ∧ w' = u) := fun u hu => len_any hu
  have HADD : Hid (∀ u, Bld u b F s → Calls Tryd.prog 58 #[.pointer (some ⟨b, 0, none⟩), .int .i64 op, .int .i64 0] u fun e w' => ∃ F', e = .returned (.tuple #[]) ∧ Bld w' b F' (s.add ⟨op, 0, 0⟩ none) ∧ Turn F F' u w') := fun u hu => add_any hu op 0 hl
  obtain ⟨n, hn⟩ : ∃ n, s.code.length = n := ⟨_, rfl⟩
  have HFIN : Hid (∀ w2 F2, Bld w2 b F2 (s.add ⟨op, 0, 0⟩ none) → Turn F F2 (cap3 w b l n) w2 → _) := fun w2 F2 q1 q2 => to_fin h hw hl hn q1 q2
  have HC := Lib.hid (cap3_at w b l n).1
  rw [hn] at HLEN
  clear h hl hw hn
  go_enter Tryd.func56, Tryd.ntmps56
  go_wp2_with (first
    | (go_at_call 65; refine (HLEN.out _ (HB.out _ (by repeat (first | exact Below.refl _ _ | refine Below.alloc ?_ (by simp <;> omega) _)))).mono ?_; rintro e w' ⟨rfl, hw'⟩; subst w'; clear HLEN)
    | (go_at_call 58; refine (HADD.out _ (HB.out _ HC.out)).mono ?_; rintro e w2 ⟨F2, rfl, q1, q2⟩; obtain ⟨p, c, k5, kx, lb, lx, nb, nx, kA⟩ := HFIN.out _ _ q1 q2; have HA := Lib.hid kA; clear q1 q2 kA HFIN HADD))
  refine wp_region_seqE (fun u => u.cell? ⟨b, 5, none⟩ = some (.slice p s.lat.length c) ∧ u.cell? ⟨w.heap.size, 0, none⟩ = some (.pointer (some ⟨b, 0, none⟩))) ((0, true) :: (1, true) :: (2, true) :: (3, true) :: (4, true) :: (5, true) :: (6, false) :: (7, false) :: (8, true) :: (9, true) :: (10, false) :: []) follows (by kernel_rfl) (fun _ _ _ _ _ h => h) ⟨k5, kx⟩ ?_
  (repeat (refine wpSeqE_take (v := ?_) rfl (by rfl) (fun wq hSq => ?_) ?_; rotate_left; (focus ((try dsimp only at hSq); go_simp; try with_reducible rfl)); simp only [Act.put, List.setIfInBounds_toArray, List.set_cons_zero, List.set_cons_succ]))
  (refine wpSeqE_do rfl (by rfl) (fun KK hK => ?_); go_simp)
  refine hK.out _ _ (fun _ => ⟨(World.cell?_alloc_old _ _ _ nb).trans k5, (World.cell?_alloc_old _ _ _ nx).trans kx⟩) ?_
  (clear hK KK; try simp only [Act.put, List.setIfInBounds_toArray, List.set_cons_zero, List.set_cons_succ])
  refine wpSeqE_do rfl (by rfl) (fun KK hK => ?_)
  refine wp_append_ex _ _ 54 54 rfl (.slice p s.lat.length c) (.slice (some ⟨w2.heap.size, 0, none⟩) 1 1) rfl rfl (by exact HA.out _) ?_
  rintro r w3 ⟨k1, k2, k3, ⟨g, c', rfl⟩, k4⟩
  refine hK.out _ _ (fun _ => k3) ?_
  (clear hK KK; try simp only [Act.put, List.setIfInBounds_toArray, List.set_cons_zero, List.set_cons_succ])
  (repeat (refine wpSeqE_take (v := ?_) rfl (by rfl) (fun wq hSq => ?_) ?_; rotate_left; (focus ((try dsimp only at hSq); go_simp; try with_reducible rfl)); simp only [Act.put, List.setIfInBounds_toArray, List.set_cons_zero, List.set_cons_succ]))
  (refine wpSeqE_do rfl (by rfl) (fun KK hK => ?_); go_simp)
  refine hK.out _ _ (fun hn => absurd rfl hn) ?_
  (clear hK KK; try simp only [Act.put])
  refine wpSeqE_nil ?_
  go_wp2_with fail
  go_end0
  obtain ⟨F', f1, f2⟩ := k4.out
  exact ⟨F', rfl, f1, f2⟩
end
end Go.Proofs.YthnpgbmagfhgpaaDoor.As
namespace Go.Proofs.YthnpgbmagfhgpaaDoor.As
open Go.ChangeShapes Go.WideShapes Go.ChangeAt Go.RowKit Num Go.Maps
attribute [local go_sem] run_store_float frombits_run bits_run
theorem enter_run {f : FuncId} {fn : Func} (hf : Tryd.prog.funcs[f]? = some fn) (hname : (fn.name == "runtime.NumGoroutine") = false) (hb : fn.body.isSome = true) (args : Array Value) (w : World) : (callFunc f args).run Tryd.prog w = .ok (.enter f args) w := by
  obtain ⟨c, hb⟩ := Option.isSome_iff_exists.1 hb
  have h1 : fn.name ≠ "runtime.NumGoroutine" := by simpa using hname
  simp [callFunc, hf, h1, hb, mark]
section
variable {w w' u w3 : World} {b : Nat} {s : Bs} {v : Bv} {F : List Nat}
theorem has_any {many : Nat} (h2 : w.cell? ⟨b, 2, none⟩ = some (.int .i64 many)) (l : Int) : Calls Tryd.prog 67 #[.pointer (some ⟨b, 0, none⟩), .int .i64 l] w fun e w' => e = .returned (.bool (inB many l)) ∧ w' = w := by
  unfold inB
  by_cases h0 : 0 ≤ l
  · by_cases h1 : l < many
    · go_enter Tryd.func67, Tryd.ntmps67
      go_wp2
      go_ret
      exact ⟨by simp [h1, h0], rfl⟩
    · go_enter Tryd.func67, Tryd.ntmps67
      go_wp2
      go_ret
      exact ⟨by simp [h1], rfl⟩
  · go_enter Tryd.func67, Tryd.ntmps67
    go_wp2
    go_ret
    exact ⟨by simp; omega, rfl⟩
theorem okM_no {many : Nat} {r : Mk} {l : Int} (h : hasM r l = true) (hi : inB many l = false) : okM many r = false := by
  cases q : okM many r
  · rfl
  · have := ((okM_iff many r).1 q).1 l h
    rw [hi] at this
    cases this
theorem okM_tw {many : Nat} {r : Mk} (h : ∀ l, hasM r l = true → inB many l = true) : okM many r = !twB r := by
  cases q : twB r
  · exact (okM_iff many r).2 ⟨h, q⟩
  · cases k : okM many r
    · rfl
    · have := ((okM_iff many r).1 k).2
      rw [q] at this
      cases this
set_option maxRecDepth 100000 in
theorem marks_any (h : Bld w b F s) (hwf : ∀ l, hasM s.marks l = true → Wf l) : Calls Tryd.prog 60 #[.pointer (some ⟨b, 0, none⟩)] w fun e w' => e = .returned (.bool (okM s.many s.marks)) ∧ Below w.heap.size w w' := by
  obtain ⟨v, h, rfl⟩ := h
  obtain ⟨hb, _, _, h2, h3, h4, _, _⟩ := h.cells
  obtain ⟨n, D, hown, hn, hD⟩ := h.map
  have hbm := hown.lt
  have HD := Lib.hid hD
  have HWF := Lib.hid hwf
  clear h hD hn hwf
  go_enter Tryd.func60, Tryd.ntmps60
  go_wp2_with (at_range; refine wpList_range_own _ rfl _ 53 rfl 3 3 keyI Tryd.underlying53 _ v.bm n _ rfl hown ?_; intro w0 hrg0 hg0 hs0)
  go_frame
  have hb0 : Below w.heap.size w w0 := ⟨hg0.os, hg0.tape, hg0.output, hg0.size, fun k hk => hg0.block k hk (by simp)⟩
  go_loopw [3] (fun _ wr => ∃ (left : Lit → Bool) (cnt : Nat), wr.ranges Tryd.prog 3 iEl v.bm w.heap.size n D left cnt ∧ Hid ((∀ kl, left kl = true → Maps.has D kl = true) ∧ (∀ l, Wf l → hasM s.marks l = true → left (.int .i64 l) = false → inB s.many l = true) ∧ Below w.heap.size w wr))
    (fun _ wr => wr.rangeLeft v.bm w.heap.size)
  case atStart =>
    exact ⟨_, _, hrg0, Lib.hid (And.intro (fun _ q => q) (And.intro (fun l hw q z => by rw [(HD.out l hw).1, q] at z; cases z) hb0))⟩
  case round =>
    obtain ⟨left, cnt, hrg, HX⟩ := hrel
    have c2 : wr.cell? ⟨b, 2, none⟩ = some (.int .i64 (s.many : Nat)) := (HX.out.2.2.cell (p := ⟨b, 2, none⟩) hb).trans h2
    have c4 : wr.cell? ⟨b, 4, none⟩ = some (.bool (twB s.marks)) := (HX.out.2.2.cell (p := ⟨b, 4, none⟩) hb).trans h4
    have hbr : b < wr.heap.size := Nat.lt_of_lt_of_le hb HX.out.2.2.size
    clear h2 h3 h4 hown hrg0 hg0 hs0 hb0
    go_wp2_with (at_next; refine wpList_next_ranges _ rfl _ rfl 3 keyI iEl (Value.int .i64) (Value.int .i64) (fun key kl hk => by obtain ⟨x, rfl, _⟩ := Maps.keyOf_int_inv Tryd.underlying3 hk; exact ⟨x, rfl⟩) (fun y z hz => by obtain ⟨x, rfl, _⟩ := iEl_is hz; exact ⟨x, rfl⟩) v.bm w.heap.size n _ _ _ rfl hrg ?_ ?_)
    · intro hc0 hl0
      have HE : Hid (okM s.many s.marks = !twB s.marks) := okM_tw fun l q => HX.out.2.1 l (HWF.out l q) q (hl0 _)
      clear hc0 hl0
      go_wp2
      go_ret
      exact ⟨by rw [HE.out]; rfl, HX.out.2.2⟩
    · intro x c kl y0 y w1 cnt1 hkey hlk hv hat hrg1 hlt hg1 hs1 hen
      obtain ⟨x', ex, rfl, hwx⟩ := Maps.keyOf_int_inv Tryd.underlying3 hkey
      cases ex
      have HN1 : Hid (Below w.heap.size w w1) := ⟨hg1.os.trans HX.out.2.2.os, hg1.tape.trans HX.out.2.2.tape, hg1.output.trans HX.out.2.2.output, Nat.le_trans HX.out.2.2.size hg1.size, fun k hk => (hg1.block k (Nat.lt_of_lt_of_le hk HX.out.2.2.size) (by simp; omega)).trans (HX.out.2.2.block k hk)⟩
      have c2' : w1.cell? ⟨b, 2, none⟩ = some (.int .i64 (s.many : Nat)) := by
        rw [← c2]
        exact World.cell?_of_block (hg1.block b hbr (by simp; omega))
      have HM : Hid (hasM s.marks x = true) := by
        show hasM s.marks x = true
        rw [← (HD.out x hwx).1]
        exact HX.out.1 _ hlk
      have HH := Lib.hid (has_any c2' x)
      have HHL : Hid (∀ l, Wf l → hasM s.marks l = true → (left (.int .i64 l) && !(Lit.int .i64 l).sameKey (.int .i64 x)) = false → inB s.many x = true → inB s.many l = true) := fun l q1 q2 q3 q4 => by
        rw [Bool.and_eq_false_iff] at q3
        rcases q3 with q3 | q3
        · exact HX.out.2.1 l q1 q2 q3
        · have := WideAt.sameKey_eq (by simpa using q3)
          injection this with _ e
          rw [e]
          exact q4
      have hmeas := hrg.left_eq
      clear hkey hlk hv hat c2 c4 hbr hg1 hs1 HD hrg
      cases hin : inB s.many x
      · have HE := Lib.hid (okM_no HM.out hin)
        rw [hin] at HH
        clear hin HHL
        go_wp2_with (go_at_call 67; refine HH.out.mono ?_; rintro e w2 ⟨rfl, hw⟩; subst w2)
        go_ret
        exact ⟨by rw [HE.out]; rfl, HN1.out⟩
      · rw [hin] at HH
        have HIN := Lib.hid hin
        clear hin
        go_wp2_with (go_at_call 67; refine HH.out.mono ?_; rintro e w2 ⟨rfl, hw⟩; subst w2)
        go_roundw
        case rel => exact ⟨_, cnt1, hrg1, Lib.hid (And.intro (fun kl q => HX.out.1 kl (by simp at q; exact q.1)) (And.intro (fun l q1 q2 q3 => HHL.out l q1 q2 q3 HIN.out) HN1.out))⟩
        case measure => rw [hrg1.left_eq, hmeas]; exact hlt
end
end Go.Proofs.YthnpgbmagfhgpaaDoor.As
namespace Go.Proofs.YthnpgbmagfhgpaaDoor.As
open Go.ChangeShapes Go.WideShapes Go.ChangeAt Go.RowKit Num Go.Maps
attribute [local go_sem] run_store_float frombits_run bits_run
def setN (l : List Ins) (k : Nat) (n : Int) : List Ins := l.set k { ci l k with n := n }
def fillL (r : Mk) (lat : List (Int × Nat)) (c : List Ins) : List Ins := lat.foldl (fun c t => setN c t.2 (plN r t.1 : Nat)) c
theorem setN_len (l : List Ins) (k : Nat) (n : Int) : (setN l k n).length = l.length := by simp [setN]
theorem fillL_len (r : Mk) : ∀ (lat : List (Int × Nat)) (c : List Ins), (fillL r lat c).length = c.length
  | [], _ => rfl
  | _ :: lat, _ => (fillL_len r lat _).trans (setN_len _ _ _)
theorem fillL_snoc (r : Mk) (lat : List (Int × Nat)) (t : Int × Nat) (c : List Ins) : fillL r (lat ++ [t]) c = setN (fillL r lat c) t.2 (plN r t.1 : Nat) := by simp [fillL]
theorem ci_setN {l : List Ins} {k : Nat} (n : Int) (hk : k < l.length) (j : Nat) : ci (setN l k n) j = if j = k then { ci l k with n := n } else ci l j := by
  unfold setN ci
  rw [List.getD_eq_getElem?_getD, List.getElem?_set]
  by_cases h : j = k
  · subst h
    rw [if_pos rfl, if_pos hk, if_pos rfl]
    rfl
  · rw [if_neg (Ne.symm h), if_neg h, List.getD_eq_getElem?_getD]
theorem codC_setN {l : List Ins} {k : Nat} (n : Int) (hk : k < l.length) : codC (setN l k n) = (codC l).set (k * 3 + 1) (.int .i64 n) := by
  apply List.ext_getElem?
  intro j
  by_cases hj : j < l.length * 3
  · have hL : j / 3 < l.length := by omega
    obtain ⟨c0, c1, c2⟩ := codC_at (setN l k n) (j / 3) (by rw [setN_len]; exact hL)
    obtain ⟨d0, d1, d2⟩ := codC_at l (j / 3) hL
    rw [ci_setN n hk] at c0 c1 c2
    rw [List.getElem?_set, codC_len]
    by_cases hjk : j / 3 = k
    · rw [if_pos hjk] at c0 c1 c2
      subst hjk
      rcases (by omega : j % 3 = 0 ∨ j % 3 = 1 ∨ j % 3 = 2) with q | q | q
      · rw [if_neg (by omega), show j = j / 3 * 3 by omega, Nat.mul_div_cancel _ (by decide : 0 < 3), c0, d0]
      · rw [if_pos (by omega), if_pos (by omega), show j = j / 3 * 3 + 1 by omega, show (j / 3 * 3 + 1) / 3 = j / 3 by omega, c1]
      · rw [if_neg (by omega), show j = j / 3 * 3 + 2 by omega, show (j / 3 * 3 + 2) / 3 = j / 3 by omega, c2, d2]
    · rw [if_neg hjk] at c0 c1 c2
      rw [if_neg (by omega)]
      rcases (by omega : j % 3 = 0 ∨ j % 3 = 1 ∨ j % 3 = 2) with q | q | q
      · rw [show j = j / 3 * 3 by omega, c0, d0]
      · rw [show j = j / 3 * 3 + 1 by omega, c1, d1]
      · rw [show j = j / 3 * 3 + 2 by omega, c2, d2]
  · rw [List.getElem?_eq_none (by rw [codC_len, setN_len]; omega), List.getElem?_eq_none (by rw [List.length_set, codC_len]; omega)]
theorem fillL_at {s : Bs} (ok : Ok s) : ∀ i, i ≤ s.lat.length → ∀ k, k < s.code.length → ci (fillL s.marks (s.lat.take i) (s.code.map fixI)) k = if (∃ t, t ∈ s.lat.take i ∧ t.2 = k) then fixI (s.fin k) else fixI (ci s.code k)
  | 0, _, k, hk => by rw [List.take_zero, if_neg (by simp)]; exact ci_fix _ _
  | i + 1, hi, k, hk => by
    have hi' : i < s.lat.length := by omega
    rw [List.take_succ_eq_append_getElem hi', fillL_snoc]
    obtain ⟨a, b, _⟩ := ok.of _ (List.getElem_mem hi')
    rw [ci_setN _ (by rw [fillL_len, List.length_map]; exact a)]
    by_cases h : k = (s.lat[i]).2
    · have h2 : ∃ t, t ∈ s.lat.take i ++ [s.lat[i]] ∧ t.2 = k := ⟨_, List.mem_append_right _ (List.mem_singleton.2 rfl), h.symm⟩
      rw [if_pos h, if_pos h2, h, fin_to b]
      have := fillL_at ok i (by omega) _ a
      rw [this]
      split
      · rw [fin_to b]; rfl
      · rfl
    · rw [if_neg h, fillL_at ok i (by omega) k hk]
      have e : (∃ t, t ∈ s.lat.take i ++ [s.lat[i]] ∧ t.2 = k) ↔ ∃ t, t ∈ s.lat.take i ∧ t.2 = k := by
        constructor
        · rintro ⟨t, ht, q⟩
          rcases List.mem_append.1 ht with z | z
          · exact ⟨t, z, q⟩
          · rw [List.mem_singleton] at z
            subst z
            exact absurd q.symm h
        · rintro ⟨t, ht, q⟩
          exact ⟨t, List.mem_append_left _ ht, q⟩
      by_cases q : ∃ t, t ∈ s.lat.take i ∧ t.2 = k
      · rw [if_pos q, if_pos (e.2 q)]
      · rw [if_neg q, if_neg (fun z => q (e.1 z))]
theorem fillL_all {s : Bs} (ok : Ok s) : fillL s.marks s.lat (s.code.map fixI) = s.filled.map fixI := by
  refine ci_ext (by rw [fillL_len, List.length_map, List.length_map, filled_len]) fun k hk => ?_
  rw [fillL_len, List.length_map] at hk
  have := fillL_at ok s.lat.length (Nat.le_refl _) k hk
  rw [List.take_length] at this
  rw [this, ci_fix, filled_at hk]
  split
  · rfl
  · rename_i q
    cases hq : s.tos.getD k none with
    | none => rw [fin_no hq]
    | some l => exact absurd ⟨(l, k), ok.to k hk l hq, rfl⟩ q
section
variable {w w' u w3 : World} {b : Nat} {s : Bs} {v : Bv} {F : List Nat}
theorem fill_enter (args : Array Value) (w : World) : (callFunc 66 args).run Tryd.prog w = .ok (.enter 66 args) w := enter_run Tryd.func66 (by kernel_rfl) (by kernel_rfl) args w
set_option maxRecDepth 100000 in
theorem fill_any {x y z bm g n c k : Nat} {l m : Int} {old : Value} (hx : w.cell? ⟨x, 0, none⟩ = some (.pointer (some ⟨b, 0, none⟩))) (hy : w.cell? ⟨y, 0, none⟩ = some (.int .i64 l)) (hz : w.cell? ⟨z, 0, none⟩ = some (.int .i64 k)) (h3 : w.cell? ⟨b, 3, none⟩ = some (.map (some bm)))
    {has : Bool} (hlk : ∀ u, Same w u → (Instr.lookup 53 (.map (some bm)) (.int .i64 l) true).run Tryd.prog u = .ok (.tuple #[.int .i64 m, .bool has]) u) (hk : k < n) (ho : w.cell? ⟨g, k * 3 + 1, none⟩ = some old) (hf : w.frozen? ⟨g, k * 3 + 1, none⟩ = false) :
    Calls Tryd.prog 66 #[.slice (some ⟨g, 0, none⟩) n c, .pointer (some ⟨x, 0, none⟩), .pointer (some ⟨y, 0, none⟩), .pointer (some ⟨z, 0, none⟩)] w fun e w' => e = .returned (.bool has) ∧ ∃ w0, Same w w0 ∧ w' = w0.setCell ⟨g, k * 3 + 1, none⟩ (.int .i64 m) := by
  have hlx := World.block_lt_of_cell? w _ hx
  have hly := World.block_lt_of_cell? w _ hy
  have hlz := World.block_lt_of_cell? w _ hz
  have hk' : (k : Int) < (n : Int) := by omega
  go_enter Tryd.func66, Tryd.ntmps66
  go_wp2
  have hl2 := hlk _ (Same.drew w)
  clear hlk
  refine wp_region_seq (fun u => u.cell? ⟨x, 0, none⟩ = some (.pointer (some ⟨b, 0, none⟩)) ∧ u.cell? ⟨y, 0, none⟩ = some (.int .i64 l) ∧ u.cell? ⟨b, 3, none⟩ = some (.map (some bm)) ∧ (Instr.lookup 53 (.map (some bm)) (.int .i64 l) true).run Tryd.prog u = .ok (.tuple #[.int .i64 m, .bool has]) u) ((0, true) :: (1, true) :: (2, true) :: (3, true) :: (4, true) :: (5, true) :: (6, true) :: (7, true) :: (8, true) :: (9, true) :: (10, true) :: []) follows (by kernel_rfl) (fun _ _ _ _ _ h => h) ⟨hx, hy, h3, hl2⟩ ?_
  (repeat ((first | (refine wpSeq_take (v := ?_) rfl (by rfl) (fun wq hSq => ?_) ?_; rotate_left; (focus ((try dsimp only at hSq); go_simp; try with_reducible rfl))) | refine wpSeq_skip rfl (by rfl) ?_); simp only [Act.put, List.setIfInBounds_toArray, List.set_cons_zero, List.set_cons_succ]))
  refine wpSeq_nil ?_
  go_wp2_with fail
  go_ret
  exact ⟨rfl, _, Same.drew _, rfl⟩
theorem take_all {r : Mk} {lat : List (Int × Nat)} (h : ∀ j, j < lat.length → hasM r (lat.getD j (0, 0)).1 = true) : (lat.all fun t => hasM r t.1) = true := by
  rw [List.all_eq_true]
  intro t ht
  obtain ⟨j, hj, e⟩ := List.getElem_of_mem ht
  have := h j hj
  rwa [List.getD_eq_getElem?_getD, List.getElem?_eq_getElem hj, Option.getD_some, e] at this
theorem take_no {r : Mk} {lat : List (Int × Nat)} {j : Nat} (hj : j < lat.length) (h : hasM r (lat.getD j (0, 0)).1 = false) : (lat.all fun t => hasM r t.1) = false := by
  cases q : lat.all fun t => hasM r t.1
  · rfl
  · rw [List.all_eq_true] at q
    have := q _ (List.getElem_mem hj)
    rw [List.getD_eq_getElem?_getD, List.getElem?_eq_getElem hj, Option.getD_some] at h
    rw [h] at this
    cases this
theorem RowW.put {E : TypeId} {sz : Nat} {g c n : Nat} {xs : List Value} (h : RowW E sz w (some ⟨g, 0, none⟩) c n xs) (j : Nat) (y : Value) : RowW E sz (w.setCell ⟨g, j, none⟩ y) (some ⟨g, 0, none⟩) c n (xs.set j y) := ⟨(h.own.stored j y).1⟩
set_option maxRecDepth 100000 in
set_option maxHeartbeats 1000000 in
theorem fillIn_any (h : Bld w b F s) {p : Option Addr} {c n : Nat} (hn : s.code.length = n) (hlim : n < lim) (hr : RowW 63 3 w p c n (codC (s.code.map fixI))) (hs : Sep F (fpR p)) : Calls Tryd.prog 61 #[.pointer (some ⟨b, 0, none⟩), .slice p n c] w fun e w' => e = .returned (.bool (s.lat.all fun t => hasM s.marks t.1)) ∧ Hid (∃ cl, cl.length = n ∧ RowW 63 3 w' p c n (codC cl) ∧ ((s.lat.all fun t => hasM s.marks t.1) = true → cl = s.filled.map fixI) ∧ Turn (fpR p) (fpR p) w w') := by
  have ok := h.ok
  have HB := Lib.hid h
  obtain ⟨v, h, rfl⟩ := h
  obtain ⟨hb, _, _, _, _, _, h5, _⟩ := h.cells
  have HV : Hid (∀ u, Turn (fpR p) (fpR p) w u → BAt u b s v) := fun u k => h.keep (k.kept hs h.blw)
  have hnl : s.lat.length ≤ n := hn ▸ ok.size
  have HOK := Lib.hid ok
  have HR := Lib.hid hr
  have HN := Lib.hid hn
  have HL : Hid (n < lim) := hlim
  obtain ⟨nl, hnl2⟩ : ∃ nl, s.lat.length = nl := ⟨_, rfl⟩
  rw [hnl2] at h5 hnl
  have HNL := Lib.hid hnl2
  have hnlI : (nl : Int) ≤ 9223372036854775807 := by unfold lim at hlim; omega
  clear h ok hr hs hn hlim hnl2
  go_enter Tryd.func61, Tryd.ntmps61
  go_wp2
  go_loopw [12] (fun vi wr => ∃ (i : Nat), vi = .int .i64 i ∧ i ≤ nl ∧ Hid (RowW 63 3 wr p c n (codC (fillL s.marks (s.lat.take i) (s.code.map fixI))) ∧ Turn (fpR p) (fpR p) w wr ∧ ∀ j, j < i → hasM s.marks (s.lat.getD j (0, 0)).1 = true)) (fun vi _ => nl - (intOf vi).toNat)
  case atStart => exact ⟨0, rfl, Nat.zero_le _, HR.out, Turn.refl _ _, fun j hj => absurd hj (Nat.not_lt_zero _)⟩
  case round =>
    obtain ⟨i, rfl, hi, HI⟩ := hrel
    by_cases hlt : i < nl
    · have hltI : (i : Int) < (nl : Int) := by omega
      have hv := HV.out _ HI.out.2.1
      obtain ⟨vs, l1, l2⟩ := hv.lat
      have hlti : i < s.lat.length := by rw [HNL.out]; exact hlt
      obtain ⟨u0, e1, x, y, z, rfl, m1, m2, m3, x1, y1, z1⟩ := l2 i hlti
      obtain ⟨gL, eL, hgL, hcL, _, cL, _⟩ := l1.at (by omega)
      have kL : wr.cell? ⟨gL, i, none⟩ = some (cloV x y z) := (cL i (by omega)).trans e1
      have et : s.lat.getD i (0, 0) ∈ s.lat := by
        rw [List.getD_eq_getElem?_getD, List.getElem?_eq_getElem hlti]
        exact List.getElem_mem hlti
      have etk : s.lat.take (i + 1) = s.lat.take i ++ [s.lat.getD i (0, 0)] := by
        rw [List.take_succ_eq_append_getElem hlti, List.getD_eq_getElem?_getD, List.getElem?_eq_getElem hlti]
        rfl
      obtain ⟨q1, q2, q3⟩ := HOK.out.of _ et
      rw [eL]
      have hmap := hv.map
      obtain ⟨hbr, _, _, _, k3, _, _, _⟩ := hv.cells
      have HH : Hid (hasM s.marks (s.lat.getD i (0, 0)).1 = false → (s.lat.all fun t => hasM s.marks t.1) = false) := take_no hlti
      have HQ : Hid (hasM s.marks (s.lat.getD i (0, 0)).1 = true → ∀ j, j < i + 1 → hasM s.marks (s.lat.getD j (0, 0)).1 = true) := fun q j hj => by
        by_cases e : j = i
        · rw [e]; exact q
        · exact HI.out.2.2 j (by omega)
      obtain ⟨l, hl⟩ : ∃ l, (s.lat.getD i (0, 0)).1 = l := ⟨_, rfl⟩
      obtain ⟨k, hk⟩ : ∃ k, (s.lat.getD i (0, 0)).2 = k := ⟨_, rfl⟩
      have eset := fillL_snoc s.marks (s.lat.take i) (s.lat.getD i (0, 0)) (s.code.map fixI)
      rw [hl, hk] at eset
      rw [hk] at q1 z1
      rw [hl] at q3 y1 HH HQ
      have hlen : (fillL s.marks (s.lat.take i) (s.code.map fixI)).length = n := by rw [fillL_len, List.length_map]; exact HN.out
      have hkn : k < n := by rw [← HN.out]; exact q1
      have hrow := HI.out.1
      obtain ⟨g, ep, hg, _, _, cg, fg⟩ := hrow.at (by omega)
      subst ep
      have HF := Lib.hid (fill_any (c := c) (n := n) (k := k) (old := ((codC (fillL s.marks (s.lat.take i) (s.code.map fixI))).getD (k * 3 + 1) (.int .i64 0))) ((cell_of_row _ _ 0 _ _ _ x1).trans rfl) ((cell_of_row _ _ 0 _ _ _ y1).trans rfl) ((cell_of_row _ _ 0 _ _ _ z1).trans rfl) k3 (fun u hu => (hmap.keep (by rw [hu.heap])).look q3) hkn (by rw [cg _ (by omega), List.getD_eq_getElem?_getD, List.getElem?_eq_getElem (by rw [codC_len, hlen]; omega)]; rfl) (fg _))
      have HS : Hid (∀ w0, Same wr w0 → RowW 63 3 (w0.setCell ⟨g, k * 3 + 1, none⟩ (.int .i64 (plN s.marks l : Nat))) (some ⟨g, 0, none⟩) c n (codC (fillL s.marks (s.lat.take (i + 1)) (s.code.map fixI))) ∧ Turn (fpR (some ⟨g, 0, none⟩)) (fpR (some ⟨g, 0, none⟩)) w (w0.setCell ⟨g, k * 3 + 1, none⟩ (.int .i64 (plN s.marks l : Nat)))) := fun w0 h0 => by
        refine ⟨?_, HI.out.2.1.trans ((h0.turn _).trans (turn_set g _ _ w0))⟩
        rw [etk, eset, codC_setN _ (by rw [hlen]; exact hkn)]
        exact (hrow.keep (h0.kept _)).put _ _
      unfold cloV at kL
      have hcall := fill_enter
      cases hh : hasM s.marks l
      · rw [hh] at HF
        have HE := Lib.hid (HH.out hh)
        have HL2 := Lib.hid hlen
        clear HH HQ hh hl hk eset hrow cg fg hmap hv l1 l2 cL e1 x1 y1 z1 q1 q2 q3 etk et m1 m2 m3 hlen HI HV HB HOK HR HN hlti k3 hbr hkn hnl
        go_wp2_with (refine HF.out.mono ?_; rintro e w2 ⟨rfl, w0, h0, hw2⟩; have HZ := Lib.hid (HS.out w0 h0); rw [← hw2] at HZ; clear hw2 h0 HS HF)
        go_ret
        exact ⟨by rw [HE.out]; rfl, fillL s.marks (s.lat.take (i + 1)) (s.code.map fixI), by rw [fillL_len] at *; exact HL2.out, HZ.out.1, (fun q => by rw [HE.out] at q; cases q), HZ.out.2⟩
      · rw [hh] at HF
        have HE := Lib.hid (HQ.out hh)
        clear HH HQ hh hl hk eset hrow cg fg hmap hv l1 l2 cL e1 x1 y1 z1 q1 q2 q3 etk et m1 m2 m3 hlen HI HV HB HOK HR HN hlti k3 hbr hkn hnl
        go_wp2_with (refine HF.out.mono ?_; rintro e w2 ⟨rfl, w0, h0, hw2⟩; have HZ := Lib.hid (HS.out w0 h0); rw [← hw2] at HZ; clear hw2 h0 HS HF)
        exact ⟨⟨i + 1, by first | rfl | (congr 1), by omega, HZ.out.1, HZ.out.2, HE.out⟩, by simp [intOf]; omega⟩
    · have hltI : ¬ (i : Int) < (nl : Int) := by omega
      obtain rfl : i = nl := by omega
      have HE : Hid ((s.lat.all fun t => hasM s.marks t.1) = true) := take_all fun j hj => HI.out.2.2 j (by rw [HNL.out] at hj; exact hj)
      have HZ : Hid (RowW 63 3 wr p c n (codC (s.filled.map fixI)) ∧ Turn (fpR p) (fpR p) w wr) := by
        have := HI.out.1
        rw [← HNL.out, List.take_length, fillL_all HOK.out] at this
        exact ⟨this, HI.out.2.1⟩
      clear HI HV
      go_wp2
      go_ret
      exact ⟨by rw [HE.out]; rfl, _, by rw [List.length_map, filled_len]; exact HN.out, HZ.out.1, fun _ => rfl, HZ.out.2⟩
end
end Go.Proofs.YthnpgbmagfhgpaaDoor.As
namespace Go.Proofs.YthnpgbmagfhgpaaDoor.As
open Go.ChangeShapes Go.WideShapes Go.ChangeAt Go.RowKit Num Go.Maps
attribute [local go_sem] run_store_float frombits_run bits_run
section
variable {w w' u w3 : World} {b : Nat} {s : Bs} {v : Bv} {F : List Nat}
theorem cloneI_nil (w : World) : Calls Tryd.prog 59 #[.slice none 0 0] w fun e w' => e = .returned (.slice none 0 0) ∧ w' = w := by
  have hq := fun w => Lib.run_eql_slice_nil (P := Tryd.prog) w 22 63 none 0 0 0 0 Tryd.underlying22
  go_enter Tryd.func59, Tryd.ntmps59
  go_wp2
  go_ret
  exact ⟨rfl, rfl⟩
set_option maxRecDepth 100000 in
theorem cloneI_some {g c n : Nat} {xs : List Value} (hn : xs.length = n * 3) (hx : ∀ j y, xs[j]? = some y → w.cell? ((⟨g, 0, none⟩ : Addr).add j) = some y) (h1 : ∀ y ∈ xs, y.oneCell' = true) (hz : n ≤ 5864062014805) : Calls Tryd.prog 59 #[.slice (some ⟨g, 0, none⟩) n c] w fun e w' => ∃ p' c', e = .returned (.slice p' n c') ∧ w'.ownsRow w.heap.size 63 3 (.slice p' n c') n xs ∧ Below w.heap.size w w' := by
  have hq := fun w c => Lib.run_eql_slice_nil (P := Tryd.prog) w 22 63 (some ⟨g, 0, none⟩) n c 0 0 Tryd.underlying22
  have HX : Hid (∀ j y, xs[j]? = some y → (w.alloc (.cells #[] 63)).cell? ((⟨g, 0, none⟩ : Addr).add j) = some y) := fun j y hj => ((bl1 w _).cell (World.block_lt_of_cell? w _ (hx j y hj))).trans (hx j y hj)
  have H1 := Lib.hid (And.intro h1 (And.intro hn hz))
  have HO : Hid ((w.alloc (.cells #[] 63)).ownsRow w.heap.size 63 3 (.slice (some ⟨w.heap.size, 0, none⟩) 0 0) 0 []) := ⟨rfl, .inr ⟨w.heap.size, 0, #[], rfl, Nat.le_refl _, heap_alloc_new _ _, Nat.le_refl _, Nat.zero_le _, by simp, by simp⟩⟩
  obtain ⟨i0, hi, hz0, hz1, hz2⟩ := info_parts insInfo
  have HZI := Lib.hid (And.intro hi (And.intro hz0 (And.intro hz1 hz2)))
  clear hi hz0 hz1 hz2 hx h1 hz hn
  go_enter Tryd.func59, Tryd.ntmps59
  go_wp2_with (at_builtin; refine wpList_append_own_at _ rfl _ _ 22 rfl w.heap.size 63 i0 _ 3 24 Tryd.underlying22 HZI.out.1 HZI.out.2.1 HZI.out.2.2.1 HZI.out.2.2.2 rfl (by decide) _ 0 [] rfl HO.out ⟨g, 0, none⟩ n _ xs rfl H1.out.2.1 HX.out H1.out.1 (by have := H1.out.2.2; unfold maxLen; omega) (by have := H1.out.2.2; omega) (by simp) ?_; intro v w3 hown hgrow hnil hloc; have HS := Lib.hid (And.intro hown hgrow); clear hown hgrow hnil hloc)
  have ho3 := HS.out.1
  rw [List.nil_append, Nat.zero_add] at ho3
  obtain ⟨p', c', hv⟩ : ∃ p' c', v = .slice p' n c' := by
    rcases ho3.2 with ⟨rfl, h0⟩ | ⟨g, cap, cur, rfl, _⟩
    · exact ⟨none, 0, by rw [h0]⟩
    · exact ⟨_, cap, rfl⟩
  subst hv
  have hb3 : Below w.heap.size w w3 := (bl1 w _).grown HS.out.2 (by simp) (fun j hj => by
    have := hj
    simp [Act.eval, Value.ownBlock] at this
    omega)
  have HF := Lib.hid (And.intro ho3 hb3)
  clear ho3 hb3 HS H1
  go_wp2
  go_ret
  exact ⟨_, _, rfl, HF.out.1, HF.out.2⟩
theorem clone_any {p : Option Addr} {c n : Nat} {l : List Ins} (h : RowW 63 3 w p c n (codC l)) (hn : n < lim) : Calls Tryd.prog 59 #[.slice p n c] w fun e w' => ∃ p' c', e = .returned (.slice p' n c') ∧ Hid (RowW 63 3 w' p' c' n (codC l) ∧ Abv w.heap.size (fpR p') ∧ Below w.heap.size w w') := by
  unfold lim at hn
  rcases h.own.2 with ⟨q, h0⟩ | ⟨g, cap, cur, hv, _, hg, hc, hm, hs, ht⟩
  · cases q
    refine (cloneI_nil w).mono ?_
    rintro e w' ⟨rfl, rfl⟩
    exact ⟨none, 0, rfl, h, fun k hk => by simp [fpR] at hk, Below.refl _ _⟩
  · cases hv
    refine (cloneI_some h.len (fun j y hj => ?_) (codC_one l) (by omega)).mono ?_
    · rw [Go.WideShapes.add_plain, cell_of_row _ _ _ _ _ _ hg, Nat.zero_add]
      have h1 : cur.toList[j]? = (cur.toList.take (n * 3))[j]? := by
        have := (List.getElem?_eq_some_iff.1 hj).1
        rw [h.len] at this
        rw [List.getElem?_take, if_pos this]
      rw [ht, hj] at h1
      simpa using h1
    · rintro e w' ⟨p', c', rfl, k1, k2⟩
      exact ⟨p', c', rfl, ⟨⟨k1.1, k1.2.imp id (fun ⟨g, cap, cur, a1, _, a3⟩ => ⟨g, cap, cur, a1, Nat.zero_le _, a3⟩)⟩⟩, fun k hk => (k1.lt k (own_fpR.1 hk)).1, k2⟩
theorem prog_back {fn : Func} {p r : Tmp} (h : fn.results = #[.cell p 24, .tmp r]) {Q : Ending → World → Prop} {a : Act} {w : World} (g : Nat) (t : Int) (po : Option Addr) (n c : Nat) (e : Int) (hp : a.tmps.getD p undef = .pointer (some ⟨g, 0, none⟩)) (hu : a.tmps.getD r undef = .int .i64 e)
    (hg : w.heap[g]? = some (.cells #[.int .i64 t, .slice po n c] 24 (0, 0))) (hd : a.defers = []) (hR : Q (.returned (.tuple #[.agg #[.int .i64 t, .slice po n c], .int .i64 e])) w) : bodyPost Tryd.prog fn Q .ret a w := by
  refine bodyPost_ret (v := .tuple #[.agg #[.int .i64 t, .slice po n c], .int .i64 e]) ?_ hd hR
  rw [results_cell_tmp h, hp, hu]
  have hl := run_loadVar_row (P := Tryd.prog) w g 24 24 #[.int .i64 t, .slice po n c] (0, 0) _ hg Tryd.underlying24 rfl (by kernel_rfl)
  simp [asAddr, hl, Result.andThen]
structure PrC (w wc : World) (b : Nat) (F : List Nat) (s : Bs) (r q : Nat) (p : Option Addr) (c n : Nat) (cl : List Ins) : Prop where
  bel : Below w.heap.size w wc
  bld : Bld wc b F s
  row : RowW 63 3 wc p c n (codC cl)
  abv : Abv w.heap.size (fpR p)
  res : wc.heap[r]? = some (.cells #[.int .i64 0, .slice none 0 0] 24 (0, 0))
  box : wc.heap[q]? = some (.cells #[.int .i64 s.tag, .slice p n c] 24 (0, 0))
  ne : r ≠ q
  lr : w.heap.size ≤ r
  lq : w.heap.size ≤ q
theorem PrC.on {r q : Nat} {p : Option Addr} {c n : Nat} {cl : List Ins} {wc wd : World} (h : PrC w wc b F s r q p c n cl) (k : Below wc.heap.size wc wd) : PrC w wd b F s r q p c n cl :=
  ⟨h.bel.trans (k.mono h.bel.size), h.bld.on k, h.row.keep (kept_below k h.row.blw), h.abv, (k.block _ (lt_of_block h.res)).trans h.res, (k.block _ (lt_of_block h.box)).trans h.box, h.ne, h.lr, h.lq⟩
theorem PrC.fill {r q : Nat} {p : Option Addr} {c n : Nat} {cl cl' : List Ins} {wc wd : World} (h : PrC w wc b F s r q p c n cl) (hb : Blw w F) (k : Turn (fpR p) (fpR p) wc wd) (hr : RowW 63 3 wd p c n (codC cl')) : PrC w wd b F s r q p c n cl' := by
  have nr : ∀ {x : Nat} {a : Array Value}, wc.heap[x]? = some (.cells a 24 (0, 0)) → wd.heap[x]? = some (.cells a 24 (0, 0)) := fun {x a} e => (k.block _ (lt_of_block e) fun z => by obtain ⟨arr, e2⟩ := h.row.blk z; exact ne_ty e e2 (by decide) rfl).trans e
  exact ⟨h.bel.trans (k.below h.abv h.bel.size), h.bld.turn k (fun x hx z => absurd (hb x hx) (Nat.not_lt.2 (h.abv x z))), hr, h.abv, nr h.res, nr h.box, h.ne, h.lr, h.lq⟩
def PrE (w w' : World) (s : Bs) (t : Int) (p : Option Addr) (n c : Nat) : Prop := Below w.heap.size w w' ∧ Abv w.heap.size (fpR p) ∧ ((s.ans = 0 ∧ t = s.tag ∧ n = s.code.length ∧ RowW 63 3 w' p c n (codC (s.filled.map fixI))) ∨ (s.ans ≠ 0 ∧ t = 0 ∧ p = none ∧ n = 0 ∧ c = 0))
set_option maxRecDepth 100000 in
set_option maxHeartbeats 1000000 in
theorem prog_any (h : Bld w b F s) (hT : Shaped5 w) (hl : s.code.length < lim) (hwf : ∀ l, hasM s.marks l = true → Wf l) : Calls Tryd.prog 49 #[.pointer (some ⟨b, 0, none⟩)] w fun e w' => ∃ t p n c, e = .returned (.tuple #[.agg #[.int .i64 t, .slice p n c], .int .i64 s.ans]) ∧ Hid (PrE w w' s t p n c) := by
  have ok := h.ok
  have HB := Lib.hid h
  have HT := Lib.hid hT
  have HL := Lib.hid hl
  have HBW := Lib.hid h.blw
  have HMK : Hid (∀ u, Bld u b F s → Calls Tryd.prog 60 #[.pointer (some ⟨b, 0, none⟩)] u fun e w' => e = .returned (.bool (okM s.many s.marks)) ∧ Below u.heap.size u w') := fun u hu => marks_any hu hwf
  obtain ⟨v, h, rfl⟩ := h
  obtain ⟨hb, h0, h1, _⟩ := h.cells
  have HCL : Hid (∀ u, Below w.heap.size w u → Calls Tryd.prog 59 #[.slice v.pi s.code.length v.ci] u fun e w' => ∃ p' c', e = .returned (.slice p' s.code.length c') ∧ Hid (RowW 63 3 w' p' c' s.code.length (codC (s.code.map fixI)) ∧ Abv u.heap.size (fpR p') ∧ Below u.heap.size u w')) := fun u hu => clone_any (h.ins.keep (kept_below hu h.ins.blw)) hl
  obtain ⟨n, hn⟩ : ∃ n, s.code.length = n := ⟨_, rfl⟩
  have HN := Lib.hid hn
  rw [hn] at HCL h1
  clear h hT hl hwf hn
  go_enter Tryd.func49, Tryd.ntmps49
  have HA : Hid (Below w.heap.size w (w.alloc (.cells #[.int .i64 0, .slice none 0 0] 24)).drew ∧ b < (w.alloc (.cells #[.int .i64 0, .slice none 0 0] 24)).drew.heap.size) := ⟨(bl1 w _).trans ((Same.drew _).below _), by show b < (w.alloc _).heap.size; simp; omega⟩
  have HCE : Hid (∀ u u3, b < u.heap.size → u.cell? ⟨b, 0, none⟩ = some (.int .i64 s.tag) → u.cell? ⟨b, 1, none⟩ = some (.slice v.pi n v.ci) → Below u.heap.size u u3 → u3.cell? ⟨b, 0, none⟩ = some (.int .i64 s.tag) ∧ u3.cell? ⟨b, 1, none⟩ = some (.slice v.pi n v.ci)) := fun u u3 hb c0 c1 k => ⟨(k.cell (p := ⟨b, 0, none⟩) hb).trans c0, (k.cell (p := ⟨b, 1, none⟩) hb).trans c1⟩
  go_upto_region 1 with fail
  obtain ⟨w1, hw1⟩ : ∃ w1, w1 = w.alloc (.cells #[.int .i64 0, .slice none 0 0] 24) := ⟨_, rfl⟩
  have g0 : w1.cell? ⟨b, 0, none⟩ = some (.int .i64 s.tag) := by rw [hw1]; exact (World.cell?_alloc_old _ _ _ (Nat.ne_of_lt hb)).trans h0
  have g1 : w1.cell? ⟨b, 1, none⟩ = some (.slice v.pi n v.ci) := by rw [hw1]; exact (World.cell?_alloc_old _ _ _ (Nat.ne_of_lt hb)).trans h1
  have HR1 : Hid (w1.heap[w.heap.size]? = some (.cells #[.int .i64 0, .slice none 0 0] 24 (0, 0)) ∧ w1.heap.size = w.heap.size + 1) := ⟨by rw [hw1]; exact heap_alloc_new _ _, by rw [hw1]; simp⟩
  rw [← hw1] at HA ⊢
  clear hw1
  have gb : b < w1.heap.size := HA.out.2
  have gn := Nat.ne_of_lt gb
  have gn' := gn.symm
  go_cut [4] (fun x wc => ∃ q p c, x = .pointer (some ⟨q, 0, none⟩) ∧ Hid (PrC w wc b (fpB b v) s w.heap.size q p c n (s.code.map fixI)))
  case first =>
    have HG1 : Hid (Below w.heap.size w (w1.drew.alloc (.cells #[.int .i64 0, .slice none 0 0] 24))) := HA.out.1.alloc (by show _ ≤ w1.heap.size; rw [HR1.out.2]; omega) _
    go_region_held (fun u => u.cell? ⟨b, 0, none⟩ = some (.int .i64 s.tag) ∧ u.cell? ⟨b, 1, none⟩ = some (.slice v.pi n v.ci)) (go_keep) (first
      | (go_at_call 59; refine (HCL.out (w1.drew.alloc (.cells #[.int .i64 0, .slice none 0 0] 24)) HG1.out).mono ?_; rintro e u3 ⟨p', c', rfl, q⟩; obtain ⟨y0, y1⟩ := HCE.out (w1.drew.alloc (.cells #[.int .i64 0, .slice none 0 0] 24)) u3 (by simp; omega) ((World.cell?_alloc_old w1.drew _ _ (Nat.ne_of_lt gb)).trans g0) ((World.cell?_alloc_old w1.drew _ _ (Nat.ne_of_lt gb)).trans g1) q.out.2.2; have z := (q.out.2.2.block w1.heap.size (by simp)).trans (heap_alloc_new w1.drew _); obtain ⟨z0, z1, zl⟩ := cells2_of z; have zf0 := frozen_of_row _ _ 0 _ _ z; have zf1 := frozen_of_row _ _ 1 _ _ z; have KB := Lib.hid (And.intro q.out z); clear z q)
      | (go_at_call 59; refine (HCL.out w1.drew HA.out.1).mono ?_; rintro e u3 ⟨p', c', rfl, q⟩; obtain ⟨y0, y1⟩ := HCE.out w1.drew u3 gb g0 g1 q.out.2.2; have yb : b < u3.heap.size := Nat.lt_of_lt_of_le gb q.out.2.2.size; have yn := Nat.ne_of_lt yb; have yn' := yn.symm; have KA := Lib.hid q.out; clear q))
    all_goals go_wp2_with fail
    all_goals go_meet
    · refine ⟨_, p', c', rfl, ?_⟩
      have k := bl1 u3 (.cells #[.int .i64 s.tag, .slice p' n c'] 24)
      have hAS := HA.out.1.size
      have e3 : w1.heap.size ≤ u3.heap.size := KA.out.2.2.size
      have b3 : Below w.heap.size w u3 := HA.out.1.trans (KA.out.2.2.mono hAS)
      exact PrC.mk (b3.trans (k.mono b3.size)) (HB.out.on (b3.trans (k.mono b3.size))) (KA.out.1.keep (kept_below k KA.out.1.blw)) (KA.out.2.1.mono hAS) ((k.block _ (by have := HR1.out.2; omega)).trans ((KA.out.2.2.block _ (by show _ < w1.heap.size; have := HR1.out.2; omega)).trans HR1.out.1)) (heap_alloc_new _ _) (by have := HR1.out.2; omega) (Nat.le_refl _) b3.size
    · refine ⟨_, p', c', rfl, ?_⟩
      have t4 : Turn [w1.heap.size] [w1.heap.size] u3 ((u3.setCell ⟨w1.heap.size, 0, none⟩ (.int .i64 s.tag)).setCell ⟨w1.heap.size, 1, none⟩ (.slice p' n c')) := (turn_set w1.heap.size 0 _ u3).trans (turn_set w1.heap.size 1 _ _)
      have hAS := HA.out.1.size
      have hBS := HG1.out.size
      have e3 : w1.heap.size + 1 ≤ u3.heap.size := by have := KB.out.1.2.2.size; simp at this; exact this
      have b3 : Below w.heap.size w u3 := HG1.out.trans (KB.out.1.2.2.mono hBS)
      have b4 : Below w.heap.size w ((u3.setCell ⟨w1.heap.size, 0, none⟩ (.int .i64 s.tag)).setCell ⟨w1.heap.size, 1, none⟩ (.slice p' n c')) := b3.trans (t4.below (fun k hk => by simp at hk; have := HR1.out.2; omega) b3.size)
      have e1 : ((w1.drew.alloc (.cells #[.int .i64 0, .slice none 0 0] 24)).heap[w.heap.size]? = some (.cells #[.int .i64 0, .slice none 0 0] 24 (0, 0))) := (Below.heap_alloc _ _ _ (by show _ < w1.heap.size; have := HR1.out.2; omega)).trans HR1.out.1
      refine PrC.mk b4 (HB.out.on b4) (KB.out.1.1.keep (t4.kept (fun k hk z => ?_) KB.out.1.1.blw)) (KB.out.1.2.1.mono hBS) ((t4.block _ (by have := HR1.out.2; omega) (by simp; have := HR1.out.2; omega)).trans ((KB.out.1.2.2.block _ (by simp; have := HR1.out.2; omega)).trans e1)) ?_ (by have := HR1.out.2; omega) (Nat.le_refl _) (by have := HR1.out.2; omega)
      · have := KB.out.1.2.1 k hk
        simp at this z
        omega
      · exact (heap_setCell_same _ _ 1 _ _ _ (heap_setCell_same _ _ 0 _ _ _ KB.out.2)).trans rfl
  case rest =>
    obtain ⟨q, p, c, rfl, HK⟩ := hcut
    clear HA HCE HR1 HCL g0 g1 gb gn gn' h0 h1
    have HC2 : Hid (∀ u cl, PrC w u b (fpB b v) s w.heap.size q p c n cl → (u.cell? ⟨q, 0, none⟩ = some (.int .i64 s.tag) ∧ u.cell? ⟨q, 1, none⟩ = some (.slice p n c) ∧ q < u.heap.size) ∧ u.cell? ⟨w.heap.size, 0, none⟩ = some (.int .i64 0) ∧ u.cell? ⟨w.heap.size, 1, none⟩ = some (.slice none 0 0) ∧ w.heap.size < u.heap.size ∧ (∀ j, u.frozen? ⟨w.heap.size, j, none⟩ = false) ∧ w.heap.size ≠ q ∧ q ≠ w.heap.size) := fun u cl k => ⟨cells2_of k.box, (cells2_of k.res).1, (cells2_of k.res).2.1, (cells2_of k.res).2.2, fun j => frozen_of_row _ _ _ _ _ k.res, k.ne, k.ne.symm⟩
    have HEND : Hid (∀ u (cl : List Ins) t x y, PrC w u b (fpB b v) s w.heap.size q p c n cl → Below w.heap.size w ((u.setCell ⟨w.heap.size, 0, none⟩ t).setCell ⟨w.heap.size, 1, none⟩ x) ∧ ((u.setCell ⟨w.heap.size, 0, none⟩ t).setCell ⟨w.heap.size, 1, none⟩ x).heap[w.heap.size]? = some (.cells #[t, x] 24 (0, 0)) ∧ (y = cl → RowW 63 3 ((u.setCell ⟨w.heap.size, 0, none⟩ t).setCell ⟨w.heap.size, 1, none⟩ x) p c n (codC y))) := fun u cl t x y k => by
      have t4 := (turn_set w.heap.size 0 t u).trans (turn_set w.heap.size 1 x _)
      refine ⟨k.bel.trans (t4.below (fun i hi => by simp at hi; omega) k.bel.size), (heap_setCell_same _ _ 1 _ _ _ (heap_setCell_same _ _ 0 _ _ _ k.res)).trans rfl, ?_⟩
      rintro rfl
      refine k.row.keep (t4.kept (fun i hi z => ?_) k.row.blw)
      obtain ⟨arr, e⟩ := k.row.blk hi
      simp at z
      subst z
      exact ne_ty e k.res (by decide) rfl
    obtain ⟨⟨c0, c1, cq⟩, r0, r1, lr, fr, ne1, ne2⟩ := HC2.out _ _ HK.out
    have fr0 := fr 0
    have fr1 := fr 1
    clear fr
    cases hm : okM s.many s.marks
    · have HE : Hid (s.ans = 190) := by
        show s.ans = 190
        unfold Bs.ans Bs.ok
        rw [hm]
        rfl
      rw [hm] at HMK
      clear hm
      go_wp2_with (go_at_call 60; refine (HMK.out _ HK.out.bld).mono ?_; rintro e u2 ⟨rfl, hb2⟩; have K2 := Lib.hid (HK.out.on hb2); obtain ⟨⟨c0, c1, cq⟩, r0, r1, lr, fr, ne1, ne2⟩ := HC2.out _ _ K2.out; have fr0 := fr 0; have fr1 := fr 1; clear fr hb2)
      exact prog_back rfl w.heap.size 0 none 0 0 190 rfl rfl (HEND.out _ _ _ _ [] K2.out).2.1 rfl ⟨0, none, 0, 0, by rw [HE.out], (HEND.out _ _ _ _ [] K2.out).1, fun k hk => by simp [fpR] at hk, .inr ⟨by rw [HE.out]; decide, rfl, rfl, rfl, rfl⟩⟩
    · have HFL : Hid (∀ u, PrC w u b (fpB b v) s w.heap.size q p c n (s.code.map fixI) → Calls Tryd.prog 61 #[.pointer (some ⟨b, 0, none⟩), .slice p n c] u fun e w' => e = .returned (.bool (s.lat.all fun t => hasM s.marks t.1)) ∧ Hid (∃ cl, ((s.lat.all fun t => hasM s.marks t.1) = true → cl = s.filled.map fixI) ∧ PrC w w' b (fpB b v) s w.heap.size q p c n cl)) := fun u k => by
        refine (fillIn_any k.bld HN.out (by rw [← HN.out]; exact HL.out) k.row (fun x hx z => absurd (HBW.out x hx) (Nat.not_lt.2 (k.abv x z)))).mono ?_
        rintro e w' ⟨rfl, z⟩
        obtain ⟨cl, _, z2, z3, z4⟩ := z.out
        exact ⟨rfl, cl, z3, k.fill HBW.out z4 z2⟩
      have HALL : Hid ((s.lat.all fun t => hasM s.marks t.1) = s.ok) := by
        show _ = s.ok
        unfold Bs.ok
        rw [hm, Bool.true_and, Bool.eq_iff_iff, all_range, List.all_eq_true]
        exact (ok_lat ok).symm
      rw [HALL.out] at HFL
      rw [hm] at HMK
      clear hm HALL
      cases hk : s.ok
      · have HE : Hid (s.ans = 190) := by
          show s.ans = 190
          unfold Bs.ans
          rw [hk]
          rfl
        rw [hk] at HFL
        clear hk
        go_wp2_with (first
          | (go_at_call 60; refine (HMK.out _ HK.out.bld).mono ?_; rintro e u2 ⟨rfl, hb2⟩; have K2 := Lib.hid (HK.out.on hb2); obtain ⟨⟨c0, c1, cq⟩, r0, r1, lr, fr, ne1, ne2⟩ := HC2.out _ _ K2.out; have fr0 := fr 0; have fr1 := fr 1; clear fr hb2 HMK)
          | (go_at_call 61; refine (HFL.out _ K2.out).mono ?_; rintro e u3 ⟨rfl, z⟩; obtain ⟨cl, _, K3⟩ := z.out; have K3 := Lib.hid K3; obtain ⟨⟨c0, c1, cq⟩, r0, r1, lr, fr, ne1, ne2⟩ := HC2.out _ _ K3.out; have fr0 := fr 0; have fr1 := fr 1; clear fr z HFL))
        exact prog_back rfl w.heap.size 0 none 0 0 190 rfl rfl (HEND.out _ _ _ _ [] K3.out).2.1 rfl ⟨0, none, 0, 0, by rw [HE.out], (HEND.out _ _ _ _ [] K3.out).1, fun k hk => by simp [fpR] at hk, .inr ⟨by rw [HE.out]; decide, rfl, rfl, rfl, rfl⟩⟩
      · have HE : Hid (s.ans = checkE s.tag s.filled) := by
          show s.ans = _
          unfold Bs.ans
          rw [hk]
          rfl
        have HCK : Hid (∀ u, PrC w u b (fpB b v) s w.heap.size q p c n (s.filled.map fixI) → Calls Tryd.prog 62 #[.agg #[.int .i64 s.tag, .slice p n c]] u fun e w' => e = .returned (.int .i64 (checkE s.tag s.filled)) ∧ Below u.heap.size u w') := fun u k => by
          have hln : (s.filled.map fixI).length = n := by rw [List.length_map, filled_len]; exact HN.out
          have := check_any s.tag c (HT.out.on k.bel) (RowW.code hln k.row) (by rw [hln, ← HN.out]; have := HL.out; unfold lim at this; omega)
          rw [hln, checkE_fix] at this
          exact this
        rw [hk] at HFL
        clear hk
        rcases checkE_ways s.tag s.filled with h5 | h5
        · rw [h5] at HE HCK
          clear h5
          go_wp2_with (first
            | (go_at_call 60; refine (HMK.out _ HK.out.bld).mono ?_; rintro e u2 ⟨rfl, hb2⟩; have K2 := Lib.hid (HK.out.on hb2); obtain ⟨⟨c0, c1, cq⟩, r0, r1, lr, fr, ne1, ne2⟩ := HC2.out _ _ K2.out; have fr0 := fr 0; have fr1 := fr 1; clear fr hb2 HMK)
            | (go_at_call 61; refine (HFL.out _ K2.out).mono ?_; rintro e u3 ⟨rfl, z⟩; obtain ⟨cl, zz, K3⟩ := z.out; obtain rfl := zz (by trivial); have K3 := Lib.hid K3; obtain ⟨⟨c0, c1, cq⟩, r0, r1, lr, fr, ne1, ne2⟩ := HC2.out _ _ K3.out; have fr0 := fr 0; have fr1 := fr 1; clear fr z HFL)
            | (go_at_call 62; refine (HCK.out _ K3.out).mono ?_; rintro e u4 ⟨rfl, hb4⟩; have K4 := Lib.hid (K3.out.on hb4); obtain ⟨⟨c0, c1, cq⟩, r0, r1, lr, fr, ne1, ne2⟩ := HC2.out _ _ K4.out; have fr0 := fr 0; have fr1 := fr 1; clear fr hb4 HCK))
          exact prog_back rfl w.heap.size s.tag p n c 0 rfl rfl (HEND.out _ _ _ _ [] K4.out).2.1 rfl ⟨s.tag, p, n, c, by rw [HE.out], (HEND.out _ _ _ _ [] K4.out).1, K4.out.abv, .inl ⟨HE.out, rfl, HN.out.symm, (HEND.out _ _ _ _ _ K4.out).2.2 rfl⟩⟩
        · rw [h5] at HE HCK
          clear h5
          go_wp2_with (first
            | (go_at_call 60; refine (HMK.out _ HK.out.bld).mono ?_; rintro e u2 ⟨rfl, hb2⟩; have K2 := Lib.hid (HK.out.on hb2); obtain ⟨⟨c0, c1, cq⟩, r0, r1, lr, fr, ne1, ne2⟩ := HC2.out _ _ K2.out; have fr0 := fr 0; have fr1 := fr 1; clear fr hb2 HMK)
            | (go_at_call 61; refine (HFL.out _ K2.out).mono ?_; rintro e u3 ⟨rfl, z⟩; obtain ⟨cl, zz, K3⟩ := z.out; obtain rfl := zz (by trivial); have K3 := Lib.hid K3; obtain ⟨⟨c0, c1, cq⟩, r0, r1, lr, fr, ne1, ne2⟩ := HC2.out _ _ K3.out; have fr0 := fr 0; have fr1 := fr 1; clear fr z HFL)
            | (go_at_call 62; refine (HCK.out _ K3.out).mono ?_; rintro e u4 ⟨rfl, hb4⟩; have K4 := Lib.hid (K3.out.on hb4); obtain ⟨⟨c0, c1, cq⟩, r0, r1, lr, fr, ne1, ne2⟩ := HC2.out _ _ K4.out; have fr0 := fr 0; have fr1 := fr 1; clear fr hb4 HCK))
          exact prog_back rfl w.heap.size 0 none 0 0 50 rfl rfl (HEND.out _ _ _ _ [] K4.out).2.1 rfl ⟨0, none, 0, 0, by rw [HE.out], (HEND.out _ _ _ _ [] K4.out).1, fun k hk => by simp [fpR] at hk, .inr ⟨by rw [HE.out]; decide, rfl, rfl, rfl, rfl⟩⟩
end
end Go.Proofs.YthnpgbmagfhgpaaDoor.As
namespace Go.Proofs.YthnpgbmagfhgpaaDoor.Tr
open Go.ChangeShapes Go.WideShapes Go.ChangeAt Go.RowKit Num Go.Maps As
open Go.ChangeMaps Go.MapKept
attribute [local go_sem] run_store_float frombits_run bits_run
structure O where
  kind : Int
  code : Int
  n : Int
def opC (l : List O) : List Value := l.flatMap fun o => [.int .i64 o.kind, .int .i64 o.code, .int .i64 o.n]
theorem opC_app (a b : List O) : opC (a ++ b) = opC a ++ opC b := by unfold opC; rw [List.flatMap_append]
abbrev OpsW (w : World) (p : Option Addr) (c n : Nat) (l : List O) : Prop := RowW 48 3 w p c n (opC l)
theorem opInfo : (Tryd.prog.info? 48).map (fun i => (i.zero, i.size, i.bytes)) = some (some (.agg #[.int .i64 0, .int .i64 0, .int .i64 0]), 3, 24) := by kernel_rfl
section
variable {E : TypeId} {sz : Nat} {w w' : World} {p : Option Addr} {c n : Nat} {xs : List Value}
theorem RowW.appN (h : RowW E sz w p c n xs) {t : TypeId} {z : Value} {bytes : Nat} (ht : Tryd.prog.underlying t = some (.slice E)) (hI : (Tryd.prog.info? E).map (fun i => (i.zero, i.size, i.bytes)) = some (some z, sz, bytes)) (hzs : z.cells.size = sz) (hsz : 0 < sz)
    {gx k cx : Nat} {ys : List Value} (hx : RowW E sz w (some ⟨gx, 0, none⟩) cx k ys) (hk : 0 < k) (h1 : ∀ u ∈ ys, u.oneCell' = true) (h63 : n + k ≤ maxLen) (hb : (n + k) * bytes ≤ 140737488355328) (ty : TypeId) :
    ∃ v w', (Builtin.append_ #[t, t] ty #[.slice p n c, .slice (some ⟨gx, 0, none⟩) k cx]).run Tryd.prog w = .ok v w' ∧ ∃ g c', v = .slice (some ⟨g, 0, none⟩) (n + k) c' ∧ RowW E sz w' (some ⟨g, 0, none⟩) c' (n + k) (xs ++ ys) ∧ Turn (fpR p) [g] w w' := by
  obtain ⟨i, hi, hz0, hz1, hz2⟩ := info_parts hI
  obtain ⟨g0, e0, _, _, _, cg, _⟩ := hx.at hk
  cases e0
  obtain ⟨v, w', h1, h2, h3, h4, h5⟩ := run_append_own_at (P := Tryd.prog) (w := w) 0 t ty E i z sz bytes ht hi hz0 hz1 hz2 hzs hsz (.slice p n c) n xs h.own ⟨gx, 0, none⟩ k cx ys hx.len (fun j u hu => by
    rw [Go.WideShapes.add_plain, Nat.zero_add]
    have hj : j < k * sz := by
      rw [← hx.len]
      exact (List.getElem?_eq_some_iff.1 hu).1
    exact (cg j hj).trans hu) h1 h63 hb (Nat.zero_le _)
  rcases h2.2 with ⟨_, q⟩ | ⟨g, cap, cur, hv, hrest⟩
  · omega
  · refine ⟨v, w', h1, g, cap, hv, ⟨by rw [hv] at h2; exact h2⟩, ⟨h3.os, h3.tape, h3.output, h3.size, fun k hk hn => h3.block k hk fun q => hn (own_fpR.2 q.symm), fun k hk => ?_⟩⟩
    obtain rfl : k = g := by simpa using hk
    rcases h5 with q | q
    · exact .inl (own_fpR.2 (by rw [← q, hv]; rfl))
    · right
      rw [hv] at q
      have := Option.some.inj q
      show w.heap.size ≤ k
      exact Nat.le_of_eq this.symm
end
structure Parts (w : World) (b : Nat) (Ls : List (List O)) : Prop where
  lt : b < w.heap.size
  at_ : ∀ i, i < Ls.length → ∃ g c, w.cell? ⟨b, i, none⟩ = some (.slice (some ⟨g, 0, none⟩) (Ls.getD i []).length c) ∧ 0 < (Ls.getD i []).length ∧ OpsW w (some ⟨g, 0, none⟩) c (Ls.getD i []).length (Ls.getD i [])
theorem Parts.on {w w' : World} {b : Nat} {Ls : List (List O)} (h : Parts w b Ls) (k : Below w.heap.size w w') : Parts w' b Ls := by
  refine ⟨Nat.lt_of_lt_of_le h.lt k.size, fun i hi => ?_⟩
  obtain ⟨g, c, h1, h2, h3⟩ := h.at_ i hi
  exact ⟨g, c, (World.cell?_of_block (a := ⟨b, i, none⟩) (k.block b h.lt)).trans h1, h2, h3.keep (kept_below k h3.blw)⟩
def sumL (Ls : List (List O)) : Nat := Ls.flatten.length
theorem sumL_take {Ls : List (List O)} {i : Nat} (h : i < Ls.length) : sumL (Ls.take (i + 1)) = sumL (Ls.take i) + (Ls.getD i []).length ∧ (Ls.take (i + 1)).flatten = (Ls.take i).flatten ++ Ls.getD i [] := by
  have e : Ls.getD i [] = Ls[i] := by simp [List.getD_eq_getElem?_getD, h]
  have e2 : (Ls.take (i + 1)).flatten = (Ls.take i).flatten ++ Ls.getD i [] := by
    rw [List.take_succ_eq_append_getElem h, e, List.flatten_append, List.flatten_singleton]
  exact ⟨by unfold sumL; rw [e2, List.length_append], e2⟩
theorem sumL_le (Ls : List (List O)) (i : Nat) : sumL (Ls.take i) ≤ sumL Ls := by
  unfold sumL
  have : Ls.flatten = (Ls.take i).flatten ++ (Ls.drop i).flatten := by rw [← List.flatten_append, List.take_append_drop]
  rw [this, List.length_append]
  omega
set_option maxRecDepth 100000 in
set_option maxHeartbeats 4000000 in
theorem grow_any (n : Nat) (h0 : 0 < n) (hn : n ≤ 4096) (w : World) : Calls Tryd.prog 63 #[.slice none 0 0, .int .i64 n] w fun e w' => ∃ g c, e = .returned (.slice (some ⟨g, 0, none⟩) 0 c) ∧ Hid (OpsW w' (some ⟨g, 0, none⟩) c 0 [] ∧ w.heap.size ≤ g ∧ Below w.heap.size w w') := by
  obtain ⟨i, hi, hz0, hz1, hz2⟩ := info_parts opInfo
  have HA : Hid (∀ ty, ∃ v w', (Builtin.append_ #[37, 3] ty #[.slice none 0 0, .int .i64 n]).run Tryd.prog w = .ok v w' ∧ ∃ g c : Nat, v = .slice (some ⟨g, 0, none⟩) n c ∧ 0 ≤ (c : Int) ∧ Hid (OpsW w' (some ⟨g, 0, none⟩) c 0 [] ∧ w.heap.size ≤ g ∧ Below w.heap.size w w')) := fun ty => by
    have hge := grownCap_ge w n 0 48
    have hle := grownCap_le_maxLen w n 0 48 (by unfold maxLen; omega)
    have hrun := Lib.run_append_nil_zeros w 37 3 ty 48 i (.agg #[.int .i64 0, .int .i64 0, .int .i64 0]) .i64 .i64 Tryd.underlying37 Tryd.underlying3 hi hz0 n h0 (by rw [hz1]; decide) (by omega) (by rw [hz2]; omega)
    have e3 : (Value.agg #[.int .i64 0, .int .i64 0, .int .i64 0] : Value).cells.size = 3 := by kernel_rfl
    have hs : (Builtin.zeroCells (Value.agg #[.int .i64 0, .int .i64 0, .int .i64 0] : Value).cells n ++ Builtin.zeroCells (Value.agg #[.int .i64 0, .int .i64 0, .int .i64 0] : Value).cells (grownCap w n 0 48 - n)).size = grownCap w n 0 48 * 3 := by
      rw [Array.size_append, size_zeroCells, size_zeroCells, e3]
      omega
    clear e3 hi hz0 hz1 hz2
    generalize Builtin.zeroCells (Value.agg #[.int .i64 0, .int .i64 0, .int .i64 0] : Value).cells n ++ Builtin.zeroCells (Value.agg #[.int .i64 0, .int .i64 0, .int .i64 0] : Value).cells (grownCap w n 0 48 - n) = arr at hrun hs
    generalize grownCap w n 0 48 = c at hrun hs hge hle
    have hR : OpsW (w.drew.alloc (.cells arr 48)) (some ⟨w.heap.size, 0, none⟩) c 0 [] := ⟨⟨by simp [opC], .inr ⟨w.heap.size, c, arr, rfl, Nat.zero_le _, heap_alloc_new w.drew _, Nat.zero_le _, hle, hs, by simp [opC]⟩⟩⟩
    exact ⟨_, _, hrun, w.heap.size, c, rfl, by omega, hR, Nat.le_refl _, ((Same.drew w).below _).trans (bl1 w.drew _)⟩
  clear hi hz0 hz1 hz2
  have hn1 : ¬ (n : Int) < 0 := by omega
  have hn2 : 0 < (n : Int) := by omega
  have hwr : wrap64 (n : Int) = n := by unfold wrap64; omega
  clear h0 hn
  have HA2 := HA
  rw [← hwr] at HA2
  go_enter Tryd.func63, Tryd.ntmps63
  go_wp2_with (at_builtin; first | (refine wpList_append_ex rfl _ _ _ _ rfl _ _ rfl rfl (by exact HA.out _) ?_; rintro r w3 ⟨g, c, rfl, hc0, hR⟩; clear HA) | (refine wpList_append_ex rfl _ _ _ _ rfl _ _ rfl rfl (by exact HA2.out _) ?_; rintro r w3 ⟨g, c, rfl, hc0, hR⟩; clear HA))
  go_ret
  exact ⟨g, c, rfl, hR.out⟩
theorem opC_one (l : List O) : ∀ u ∈ opC l, u.oneCell' = true := by
  intro u hu
  obtain ⟨o, _, h⟩ := List.mem_flatMap.1 hu
  simp only [List.mem_cons, List.not_mem_nil, or_false] at h
  rcases h with rfl | rfl | rfl <;> rfl
set_option maxHeartbeats 4000000 in
set_option maxRecDepth 100000 in
theorem concat_any {w : World} {b k cc : Nat} {Ls : List (List O)} (h : Parts w b Ls) (hk : Ls.length = k) (h0 : 0 < sumL Ls) (hs : sumL Ls ≤ 4096) (hk2 : k ≤ 4096) : Calls Tryd.prog 54 #[.slice (some ⟨b, 0, none⟩) k cc] w fun e w' => ∃ g n c, e = .returned (.slice (some ⟨g, 0, none⟩) n c) ∧ Hid (n = sumL Ls ∧ OpsW w' (some ⟨g, 0, none⟩) c n Ls.flatten ∧ Below w.heap.size w w' ∧ w.heap.size ≤ g) := by
  have HP := Lib.hid h
  have HK := Lib.hid hk
  have HS := Lib.hid hs
  have hbl := h.lt
  obtain ⟨N, hN⟩ : ∃ N, sumL Ls = N := ⟨_, rfl⟩
  have HN := Lib.hid hN
  rw [hN] at hs h0
  have HG := Lib.hid (grow_any N h0 hs w)
  have hN63 : (N : Int) ≤ 4096 := by omega
  have hN0 : 0 < (N : Int) := by omega
  clear h hk hs h0 hN
  go_enter Tryd.func54, Tryd.ntmps54
  go_wp2
  go_loopw [3, 5, 11] (fun vs _ vi wr => ∃ i s : Nat, vi = .int .i64 i ∧ i ≤ k ∧ vs = .int .i64 s ∧ w = wr ∧ Hid (s = sumL (Ls.take i))) (fun _ _ vi _ => k - (intOf vi).toNat)
  case atStart => exact ⟨0, 0, rfl, Nat.zero_le _, rfl, rfl, rfl⟩
  case round =>
    obtain ⟨i, s, rfl, hi, rfl, rfl, HI⟩ := hrel
    by_cases hlt : i < k
    · have hltI : (i : Int) < (k : Int) := by omega
      have hlt' : i < Ls.length := by rw [HK.out]; exact hlt
      obtain ⟨g, c, e1, e2, e3⟩ := HP.out.at_ i hlt'
      obtain ⟨t1, t2⟩ := sumL_take hlt'
      have t3 := sumL_le Ls (i + 1)
      obtain ⟨n, hn⟩ : ∃ n, (Ls.getD i []).length = n := ⟨_, rfl⟩
      rw [hn] at e1 t1
      have hsum : s + n ≤ 4096 := by rw [HI.out, ← t1]; exact Nat.le_trans t3 HS.out
      have HT : Hid (s + n = sumL (Ls.take (i + 1))) := by rw [HI.out]; exact t1.symm
      have hadd : wrap64 ((s : Int) + (n : Int)) = ((s + n : Nat) : Int) := by clear HG HP HI e2 e3 t1 t2 t3 hn hlt' HT HN HK HS; unfold wrap64; omega
      have hneg : ¬ ((s + n : Nat) : Int) < 0 := Int.not_lt.2 (Int.natCast_nonneg _)
      clear HG HP HI e2 e3 t1 t2 t3 hn hlt'
      go_wp2
      refine ⟨⟨i + 1, s + n, ?_, by omega, ?_, ?_, HT.out⟩, by simp [intOf]; omega⟩
      all_goals first | trivial | rfl | (congr 1)
    · have hltI : ¬ (i : Int) < (k : Int) := by omega
      obtain rfl : k = i := by omega
      obtain rfl : N = s := by rw [HI.out, ← HN.out, ← HK.out, List.take_length]
      clear HI
      go_wp2_with (go_at_call 63; refine HG.out.mono ?_; rintro e w1 ⟨g0, c0, rfl, hR⟩; have hw1 : b < w1.heap.size := Nat.lt_of_lt_of_le hbl hR.out.2.2.size; clear HG)
      go_loopw [6, 8, 27] (fun vs _ vi wr => ∃ i s g c : Nat, vi = .int .i64 i ∧ i ≤ k ∧ vs = .slice (some ⟨g, 0, none⟩) s c ∧ Hid (s = sumL (Ls.take i) ∧ OpsW wr (some ⟨g, 0, none⟩) c s (Ls.take i).flatten ∧ w.heap.size ≤ g ∧ Below w.heap.size w wr)) (fun _ _ vi _ => k - (intOf vi).toNat)
      case atStart => exact ⟨0, 0, g0, c0, rfl, Nat.zero_le _, rfl, rfl, hR.out.1, hR.out.2.1, hR.out.2.2⟩
      case round =>
        obtain ⟨i, s, g1, c1, rfl, hi2, rfl, HI⟩ := hrel
        by_cases hlt : i < k
        · have hltI2 : (i : Int) < (k : Int) := by omega
          have hlt' : i < Ls.length := by rw [HK.out]; exact hlt
          obtain ⟨g, c, e1, e2, e3⟩ := (HP.out.on HI.out.2.2.2).at_ i hlt'
          obtain ⟨t1, t2⟩ := sumL_take hlt'
          have t3 := sumL_le Ls (i + 1)
          obtain ⟨n, hn⟩ : ∃ n, (Ls.getD i []).length = n := ⟨_, rfl⟩
          rw [hn] at e1 e2 e3 t1
          have hsum : s + n ≤ 4096 := by rw [HI.out.1, ← t1]; exact Nat.le_trans t3 HS.out
          have HA : Hid (∀ ty, ∃ v w', (Builtin.append_ #[37, 37] ty #[.slice (some ⟨g1, 0, none⟩) s c1, .slice (some ⟨g, 0, none⟩) n c]).run Tryd.prog wr = .ok v w' ∧ ∃ g' n' c' : Nat, v = .slice (some ⟨g', 0, none⟩) n' c' ∧ Hid (n' = sumL (Ls.take (i + 1)) ∧ OpsW w' (some ⟨g', 0, none⟩) c' n' (Ls.take (i + 1)).flatten ∧ w.heap.size ≤ g' ∧ Below w.heap.size w w')) := fun ty => by
            obtain ⟨v, w', q1, g', c', q2, q3, q4⟩ := RowW.appN HI.out.2.1 Tryd.underlying37 opInfo (by kernel_rfl) (by decide) e3 e2 (opC_one _) (by unfold maxLen; omega) (by omega) ty
            have e5 : opC (Ls.take i).flatten ++ opC (Ls.getD i []) = opC (Ls.take (i + 1)).flatten := by rw [t2, opC_app]
            rw [e5] at q3
            have hbw := q4.own g' (by simp)
            exact ⟨v, w', q1, g', s + n, c', q2, by rw [HI.out.1]; exact t1.symm, q3, by have := HI.out.2.2.1; have := HI.out.2.2.2.size; rcases hbw with q | q; simp [fpR] at q; omega; omega, HI.out.2.2.2.trans (q4.below (fun x hx => by simp [fpR] at hx; have := HI.out.2.2.1; omega) HI.out.2.2.2.size)⟩
          clear HP HI e2 e3 t1 t2 t3 hn hlt' hsum
          go_wp2_with (at_builtin; refine wpList_append_ex rfl _ _ _ _ rfl _ _ rfl rfl (by exact HA.out _) ?_; rintro r w3 ⟨g', n', c', rfl, k4⟩; clear HA)
          exact ⟨⟨i + 1, n', g', c', by first | rfl | (congr 1), by omega, rfl, k4.out⟩, by simp [intOf]; omega⟩
        · have hltI2 : ¬ (i : Int) < (k : Int) := by omega
          obtain rfl : k = i := by omega
          have HZ : Hid (s = sumL Ls ∧ OpsW wr (some ⟨g1, 0, none⟩) c1 s Ls.flatten ∧ Below w.heap.size w wr ∧ w.heap.size ≤ g1) := by
            obtain ⟨z1, z2, z3, z4⟩ := HI.out
            rw [← HK.out, List.take_length] at z1 z2
            exact ⟨z1, z2, z4, z3⟩
          clear HI HP
          go_wp2
          go_ret
          exact ⟨g1, s, c1, rfl, HZ.out⟩
end Go.Proofs.YthnpgbmagfhgpaaDoor.Tr
namespace Go.Proofs.YthnpgbmagfhgpaaDoor.Tr
open Go.ChangeShapes Go.WideShapes Go.ChangeAt Go.RowKit Num Go.Maps As
open Go.ChangeMaps Go.MapKept
attribute [local go_sem] run_store_float frombits_run bits_run
def Op1 (w : World) (g n c : Nat) (l : List O) : Prop := n = l.length ∧ 0 < n ∧ OpsW w (some ⟨g, 0, none⟩) c n l
theorem Op1.on {w w' : World} {g n c : Nat} {l : List O} (h : Op1 w g n c l) (k : Below w.heap.size w w') : Op1 w' g n c l := ⟨h.1, h.2.1, h.2.2.keep (kept_below k h.2.2.blw)⟩
def Gv (W : World) (l : List O) (e : Ending) (w' : World) : Prop := ∃ g n c, e = .returned (.slice (some ⟨g, 0, none⟩) n c) ∧ Hid (Op1 w' g n c l ∧ Below W.heap.size W w')
structure It where
  g : Nat
  n : Nat
  c : Nat
  l : List O
def It.v (t : It) : Value := .slice (some ⟨t.g, 0, none⟩) t.n t.c
structure Acc (W u : World) (L : List It) : Prop where
  bl : Below W.heap.size W u
  it : ∀ t ∈ L, Op1 u t.g t.n t.c t.l
theorem acc_nil {W u : World} (h : Below W.heap.size W u) : Acc W u [] := ⟨h, fun t ht => by cases ht⟩
theorem Acc.on {W u u' : World} {L : List It} (h : Acc W u L) (k : Below u.heap.size u u') : Acc W u' L := ⟨h.bl.trans (k.mono h.bl.size), fun t ht => (h.it t ht).on k⟩
theorem Acc.more {W u u' : World} {L : List It} {g n c : Nat} {l : List O} (h : Acc W u L) (k : Op1 u' g n c l ∧ Below u.heap.size u u') : Acc W u' (⟨g, n, c, l⟩ :: L) :=
  ⟨(h.on k.2).bl, fun t ht => by rcases List.mem_cons.1 ht with rfl | ht; exact k.1; exact (h.on k.2).it t ht⟩
theorem Acc.also {W u : World} {L : List It} {g n c : Nat} {l : List O} (h : Acc W u L) (k : Op1 u g n c l) : Acc W u (⟨g, n, c, l⟩ :: L) :=
  ⟨h.bl, fun t ht => by rcases List.mem_cons.1 ht with rfl | ht; exact k; exact h.it t ht⟩
theorem Acc.pop {W u : World} {L : List It} {i : It} (h : Acc W u (i :: L)) : Acc W u L := ⟨h.bl, fun t ht => h.it t (List.mem_cons_of_mem _ ht)⟩
theorem Acc.fst {W u : World} {L : List It} {g n c : Nat} {l : List O} (h : Acc W u (⟨g, n, c, l⟩ :: L)) : Op1 u g n c l := h.it _ (List.mem_cons_self ..)
theorem Acc.snd {W u : World} {L : List It} {i : It} {g n c : Nat} {l : List O} (h : Acc W u (i :: ⟨g, n, c, l⟩ :: L)) : Op1 u g n c l := h.pop.fst
theorem Acc.parts {W u : World} {L : List It} (h : Acc W u L) {vs : Array Value} (hv : (L.reverse.map It.v).toArray = vs) {T : TypeId} : Parts (u.alloc (.cells vs T)) u.heap.size (L.reverse.map It.l) := by
  subst hv
  refine ⟨by simp, fun i hi => ?_⟩
  rw [List.length_map] at hi
  have hm : L.reverse[i] ∈ L := List.mem_reverse.1 (List.getElem_mem hi)
  have h1 := (h.it _ hm).on (bl1 u (.cells (L.reverse.map It.v).toArray T))
  have e : (L.reverse.map It.l).getD i [] = L.reverse[i].l := by simp [List.getD_eq_getElem?_getD, List.length_reverse ▸ hi]
  rw [e, ← h1.1]
  refine ⟨L.reverse[i].g, L.reverse[i].c, ?_, h1.2.1, h1.2.2⟩
  rw [cell_of_row _ _ i _ _ _ (heap_alloc_new _ _)]
  rw [List.getElem?_toArray, List.getElem?_map, List.getElem?_eq_getElem hi]
  rfl
theorem join_new {w : World} {b k cc : Nat} {Ls : List (List O)} (h : Parts w b Ls) (hk : Ls.length = k) (h0 : 0 < sumL Ls) (hs : sumL Ls ≤ 4096) (hk2 : k ≤ 4096) : Calls Tryd.prog 47 #[.slice (some ⟨b, 0, none⟩) k cc] w fun e w' => ∃ g n c, e = .returned (.slice (some ⟨g, 0, none⟩) n c) ∧ Hid ((Op1 w' g n c Ls.flatten ∧ Below w.heap.size w w') ∧ w.heap.size ≤ g) := by
  have HC := Lib.hid (concat_any (cc := cc) h hk h0 hs hk2)
  have H0 : Hid (0 < sumL Ls) := h0
  clear h hk h0 hs hk2
  go_enter Tryd.func47, Tryd.ntmps47
  go_wp2_with (go_at_call 54; refine HC.out.mono ?_; rintro e u ⟨g, n, c, rfl, hR⟩; clear HC)
  go_ret
  exact ⟨g, n, c, rfl, ⟨⟨hR.out.1, by rw [hR.out.1]; exact H0.out, hR.out.2.1⟩, hR.out.2.2.1⟩, hR.out.2.2.2⟩
theorem join_parts {w : World} {b k cc : Nat} {Ls : List (List O)} (h : Parts w b Ls) (hk : Ls.length = k) (h0 : 0 < sumL Ls) (hs : sumL Ls ≤ 4096) (hk2 : k ≤ 4096) : Calls Tryd.prog 47 #[.slice (some ⟨b, 0, none⟩) k cc] w fun e w' => Gv w Ls.flatten e w' := by
  refine (join_new h hk h0 hs hk2).mono ?_
  rintro e w' ⟨g, n, c, rfl, hR⟩
  exact ⟨g, n, c, rfl, hR.out.1⟩
theorem join_acc {W u : World} {L : List It} {vs : Array Value} {T : TypeId} {k : Nat} (h : Acc W u L) (hv : (L.reverse.map It.v).toArray = vs) (hk : L.length = k) (h0 : 0 < sumL (L.reverse.map It.l)) (hs : sumL (L.reverse.map It.l) ≤ 4096) (hk2 : k ≤ 4096) : Calls Tryd.prog 47 #[.slice (some ⟨u.heap.size, 0, none⟩) k k] (u.alloc (.cells vs T)) fun e w' => Gv W (L.reverse.map It.l).flatten e w' := by
  refine (join_parts (h.parts hv) (by simpa using hk) h0 hs hk2).mono ?_
  rintro e w' ⟨g, n, c, rfl, hR⟩
  exact ⟨g, n, c, rfl, hR.out.1, h.bl.trans (((bl1 u _).trans (hR.out.2.mono (by simp))).mono h.bl.size)⟩
theorem op_new {w : World} {a b d : Int} : Op1 (w.alloc (.cells #[.int .i64 a, .int .i64 b, .int .i64 d] 48)) w.heap.size 1 1 [⟨a, b, d⟩] :=
  ⟨rfl, by decide, ⟨⟨rfl, .inr ⟨w.heap.size, 1, _, rfl, Nat.zero_le _, heap_alloc_new _ _, Nat.le_refl _, by decide, rfl, rfl⟩⟩⟩⟩
theorem Acc.take {W u : World} {L : List It} (h : Acc W u L) (k : Nat) : Acc W u (L.take k) := ⟨h.bl, fun t ht => h.it t (List.mem_of_mem_take ht)⟩
theorem Acc.drop {W u : World} {L : List It} (h : Acc W u L) (k : Nat) : Acc W u (L.drop k) := ⟨h.bl, fun t ht => h.it t (List.mem_of_mem_drop ht)⟩
theorem Acc.over {W u u' : World} {L : List It} {o : Obj} {g n c : Nat} {l : List O} (h : Acc W u L) (k : Op1 u' g n c l ∧ Below (u.alloc o).heap.size (u.alloc o) u') : Acc W u' (⟨g, n, c, l⟩ :: L) := (h.on (bl1 u o)).more k
section
variable {w : World} {B R : Int}
def oPush (n : Int) : List O := [⟨1, 0, n⟩]
theorem g_push (n : Int) (w : World) : Calls Tryd.prog 24 #[.int .i64 n] w fun e w' => Gv w (oPush n) e w' := by
  go_enter Tryd.func24, Tryd.ntmps24
  go_wp2
  go_ret
  exact ⟨_, _, _, rfl, op_new, bl1 _ _⟩
def oTo (c : Int) (l : Int) : List O := [⟨2, c, l⟩]
theorem g_to (c : Int) (l : Int) (w : World) : Calls Tryd.prog 26 #[.int .i64 c, .int .i64 l] w fun e w' => Gv w (oTo c l) e w' := by
  go_enter Tryd.func26, Tryd.ntmps26
  go_wp2
  go_ret
  exact ⟨_, _, _, rfl, op_new, bl1 _ _⟩
def oMark (l : Int) : List O := [⟨3, 0, l⟩]
theorem g_mark (l : Int) (w : World) : Calls Tryd.prog 15 #[.int .i64 l] w fun e w' => Gv w (oMark l) e w' := by
  go_enter Tryd.func15, Tryd.ntmps15
  go_wp2
  go_ret
  exact ⟨_, _, _, rfl, op_new, bl1 _ _⟩
def oDo (c : Int) (n : Int) : List O := [⟨0, c, n⟩]
theorem g_do (c : Int) (n : Int) (w : World) : Calls Tryd.prog 27 #[.int .i64 c, .int .i64 n] w fun e w' => Gv w (oDo c n) e w' := by
  go_enter Tryd.func27, Tryd.ntmps27
  go_wp2
  go_ret
  exact ⟨_, _, _, rfl, op_new, bl1 _ _⟩
def oOne (n : Int) : List O := oDo (9) (n)
set_option maxHeartbeats 1000000 in
set_option maxRecDepth 100000 in
theorem g_one (n : Int) (w : World) : Calls Tryd.prog 42 #[.int .i64 n] w fun e w' => Gv w (oOne n) e w' := by
  have A : Hid (Acc w w []) := acc_nil (Below.refl _ _)
  go_enter Tryd.func42, Tryd.ntmps42
  go_wp2_with (first
    | (go_at_call 27; refine (g_do _ _ _).mono ?_; rintro e u ⟨g, n, c, rfl, h⟩; replace A := Lib.hid (A.out.more h.out); clear h))
  go_ret
  exact ⟨g, n, c, rfl, A.out.fst, A.out.bl⟩
def oTwo (n : Int) : List O := oDo (10) (n)
set_option maxHeartbeats 1000000 in
set_option maxRecDepth 100000 in
theorem g_two (n : Int) (w : World) : Calls Tryd.prog 25 #[.int .i64 n] w fun e w' => Gv w (oTwo n) e w' := by
  have A : Hid (Acc w w []) := acc_nil (Below.refl _ _)
  go_enter Tryd.func25, Tryd.ntmps25
  go_wp2_with (first
    | (go_at_call 27; refine (g_do _ _ _).mono ?_; rintro e u ⟨g, n, c, rfl, h⟩; replace A := Lib.hid (A.out.more h.out); clear h))
  go_ret
  exact ⟨g, n, c, rfl, A.out.fst, A.out.bl⟩
def oArg (n : Int) : List O := oDo (6) (n)
set_option maxHeartbeats 1000000 in
set_option maxRecDepth 100000 in
theorem g_arg (n : Int) (w : World) : Calls Tryd.prog 20 #[.int .i64 n] w fun e w' => Gv w (oArg n) e w' := by
  have A : Hid (Acc w w []) := acc_nil (Below.refl _ _)
  go_enter Tryd.func20, Tryd.ntmps20
  go_wp2_with (first
    | (go_at_call 27; refine (g_do _ _ _).mono ?_; rintro e u ⟨g, n, c, rfl, h⟩; replace A := Lib.hid (A.out.more h.out); clear h))
  go_ret
  exact ⟨g, n, c, rfl, A.out.fst, A.out.bl⟩
def oGet (l : Int) : List O := oDo (7) (l)
set_option maxHeartbeats 1000000 in
set_option maxRecDepth 100000 in
theorem g_get (l : Int) (w : World) : Calls Tryd.prog 30 #[.int .i64 l] w fun e w' => Gv w (oGet l) e w' := by
  have A : Hid (Acc w w []) := acc_nil (Below.refl _ _)
  go_enter Tryd.func30, Tryd.ntmps30
  go_wp2_with (first
    | (go_at_call 27; refine (g_do _ _ _).mono ?_; rintro e u ⟨g, n, c, rfl, h⟩; replace A := Lib.hid (A.out.more h.out); clear h))
  go_ret
  exact ⟨g, n, c, rfl, A.out.fst, A.out.bl⟩
def oSet (l : Int) : List O := oDo (8) (l)
set_option maxHeartbeats 1000000 in
set_option maxRecDepth 100000 in
theorem g_set (l : Int) (w : World) : Calls Tryd.prog 29 #[.int .i64 l] w fun e w' => Gv w (oSet l) e w' := by
  have A : Hid (Acc w w []) := acc_nil (Below.refl _ _)
  go_enter Tryd.func29, Tryd.ntmps29
  go_wp2_with (first
    | (go_at_call 27; refine (g_do _ _ _).mono ?_; rintro e u ⟨g, n, c, rfl, h⟩; replace A := Lib.hid (A.out.more h.out); clear h))
  go_ret
  exact ⟨g, n, c, rfl, A.out.fst, A.out.bl⟩
def oRead  : List O := oDo (16) (0)
set_option maxHeartbeats 1000000 in
set_option maxRecDepth 100000 in
theorem g_read  (w : World) : Calls Tryd.prog 50 #[] w fun e w' => Gv w (oRead) e w' := by
  have A : Hid (Acc w w []) := acc_nil (Below.refl _ _)
  go_enter Tryd.func50, Tryd.ntmps50
  go_wp2_with (first
    | (go_at_call 27; refine (g_do _ _ _).mono ?_; rintro e u ⟨g, n, c, rfl, h⟩; replace A := Lib.hid (A.out.more h.out); clear h))
  go_ret
  exact ⟨g, n, c, rfl, A.out.fst, A.out.bl⟩
def oWrite  : List O := oDo (17) (0)
set_option maxHeartbeats 1000000 in
set_option maxRecDepth 100000 in
theorem g_write  (w : World) : Calls Tryd.prog 32 #[] w fun e w' => Gv w (oWrite) e w' := by
  have A : Hid (Acc w w []) := acc_nil (Below.refl _ _)
  go_enter Tryd.func32, Tryd.ntmps32
  go_wp2_with (first
    | (go_at_call 27; refine (g_do _ _ _).mono ?_; rintro e u ⟨g, n, c, rfl, h⟩; replace A := Lib.hid (A.out.more h.out); clear h))
  go_ret
  exact ⟨g, n, c, rfl, A.out.fst, A.out.bl⟩
def oEmit  : List O := oDo (18) (0)
set_option maxHeartbeats 1000000 in
set_option maxRecDepth 100000 in
theorem g_emit  (w : World) : Calls Tryd.prog 17 #[] w fun e w' => Gv w (oEmit) e w' := by
  have A : Hid (Acc w w []) := acc_nil (Below.refl _ _)
  go_enter Tryd.func17, Tryd.ntmps17
  go_wp2_with (first
    | (go_at_call 27; refine (g_do _ _ _).mono ?_; rintro e u ⟨g, n, c, rfl, h⟩; replace A := Lib.hid (A.out.more h.out); clear h))
  go_ret
  exact ⟨g, n, c, rfl, A.out.fst, A.out.bl⟩
def oHalt  : List O := oDo (20) (0)
set_option maxHeartbeats 1000000 in
set_option maxRecDepth 100000 in
theorem g_halt  (w : World) : Calls Tryd.prog 18 #[] w fun e w' => Gv w (oHalt) e w' := by
  have A : Hid (Acc w w []) := acc_nil (Below.refl _ _)
  go_enter Tryd.func18, Tryd.ntmps18
  go_wp2_with (first
    | (go_at_call 27; refine (g_do _ _ _).mono ?_; rintro e u ⟨g, n, c, rfl, h⟩; replace A := Lib.hid (A.out.more h.out); clear h))
  go_ret
  exact ⟨g, n, c, rfl, A.out.fst, A.out.bl⟩
def oTell (n : Int) : List O := ([oPush (n), oEmit, oHalt]).flatten
set_option maxHeartbeats 1000000 in
set_option maxRecDepth 100000 in
theorem g_tell (n : Int) (w : World) : Calls Tryd.prog 21 #[.int .i64 n] w fun e w' => Gv w (oTell n) e w' := by
  have A : Hid (Acc w w []) := acc_nil (Below.refl _ _)
  go_enter Tryd.func21, Tryd.ntmps21
  go_wp2_with (first
    | (go_at_call 47; refine (join_acc A.out rfl rfl (Nat.le_of_ble_eq_true rfl) (Nat.le_of_ble_eq_true rfl) (Nat.le_of_ble_eq_true rfl)).mono ?_; rintro e u ⟨g, n, c, rfl, hZ⟩; clear A)
    | (go_at_call 24; refine (g_push _ _).mono ?_; rintro e u ⟨g, n, c, rfl, h⟩; replace A := Lib.hid (A.out.more h.out); clear h)
    | (go_at_call 17; refine (g_emit _).mono ?_; rintro e u ⟨g, n, c, rfl, h⟩; replace A := Lib.hid (A.out.more h.out); clear h)
    | (go_at_call 18; refine (g_halt _).mono ?_; rintro e u ⟨g, n, c, rfl, h⟩; replace A := Lib.hid (A.out.more h.out); clear h))
  go_ret
  exact ⟨g, n, c, rfl, hZ.out.1, hZ.out.2⟩
def oCell (l : Int) (f : Int) : List O := ([oGet (l), oPush (f), oTwo (1)]).flatten
set_option maxHeartbeats 1000000 in
set_option maxRecDepth 100000 in
theorem g_cell (l : Int) (f : Int) (w : World) : Calls Tryd.prog 37 #[.int .i64 l, .int .i64 f] w fun e w' => Gv w (oCell l f) e w' := by
  have A : Hid (Acc w w []) := acc_nil (Below.refl _ _)
  go_enter Tryd.func37, Tryd.ntmps37
  go_wp2_with (first
    | (go_at_call 47; refine (join_acc A.out rfl rfl (Nat.le_of_ble_eq_true rfl) (Nat.le_of_ble_eq_true rfl) (Nat.le_of_ble_eq_true rfl)).mono ?_; rintro e u ⟨g, n, c, rfl, hZ⟩; clear A)
    | (go_at_call 30; refine (g_get _ _).mono ?_; rintro e u ⟨g, n, c, rfl, h⟩; replace A := Lib.hid (A.out.more h.out); clear h)
    | (go_at_call 24; refine (g_push _ _).mono ?_; rintro e u ⟨g, n, c, rfl, h⟩; replace A := Lib.hid (A.out.more h.out); clear h)
    | (go_at_call 25; refine (g_two _ _).mono ?_; rintro e u ⟨g, n, c, rfl, h⟩; replace A := Lib.hid (A.out.more h.out); clear h))
  go_ret
  exact ⟨g, n, c, rfl, hZ.out.1, hZ.out.2⟩
def oLoad (l : Int) (f : Int) : List O := ([oCell (l) (f), oRead]).flatten
set_option maxHeartbeats 1000000 in
set_option maxRecDepth 100000 in
theorem g_load (l : Int) (f : Int) (w : World) : Calls Tryd.prog 16 #[.int .i64 l, .int .i64 f] w fun e w' => Gv w (oLoad l f) e w' := by
  have A : Hid (Acc w w []) := acc_nil (Below.refl _ _)
  go_enter Tryd.func16, Tryd.ntmps16
  go_wp2_with (first
    | (go_at_call 47; refine (join_acc A.out rfl rfl (Nat.le_of_ble_eq_true rfl) (Nat.le_of_ble_eq_true rfl) (Nat.le_of_ble_eq_true rfl)).mono ?_; rintro e u ⟨g, n, c, rfl, hZ⟩; clear A)
    | (go_at_call 37; refine (g_cell _ _ _).mono ?_; rintro e u ⟨g, n, c, rfl, h⟩; replace A := Lib.hid (A.out.more h.out); clear h)
    | (go_at_call 50; refine (g_read _).mono ?_; rintro e u ⟨g, n, c, rfl, h⟩; replace A := Lib.hid (A.out.more h.out); clear h))
  go_ret
  exact ⟨g, n, c, rfl, hZ.out.1, hZ.out.2⟩
def oStore (l : Int) (f : Int) (Ls : List (List O)) : List O := ([(Ls).flatten, oCell (l) (f), oWrite]).flatten
set_option maxHeartbeats 1000000 in
set_option maxRecDepth 100000 in
theorem g_store {b k cc : Nat} {Ls : List (List O)} (hp : Parts w b Ls) (hk : Ls.length = k) (h0 : 0 < sumL Ls) (h1 : sumL Ls ≤ 100) (h2 : k ≤ 4096) (l : Int) (f : Int) : Calls Tryd.prog 19 #[.int .i64 l, .int .i64 f, .slice (some ⟨b, 0, none⟩) k cc] w fun e w' => Gv w (oStore l f Ls) e w' := by
  have HP : Hid (Parts w b Ls) := hp
  have HK := Lib.hid hk
  have H0 := Lib.hid h0
  have H1 : Hid (sumL Ls ≤ 4096) := Nat.le_trans h1 (by decide)
  have H3 := Lib.hid h1
  have H2 := Lib.hid h2
  clear hp hk h0 h1 h2
  have A : Hid (Acc w w []) := acc_nil (Below.refl _ _)
  go_enter Tryd.func19, Tryd.ntmps19
  go_wp2_with (first
    | (go_at_call 47; refine (join_parts (HP.out.on A.out.bl) HK.out H0.out H1.out H2.out).mono ?_; rintro e u ⟨g, n, c, rfl, h⟩; replace A := Lib.hid (A.out.more h.out); have HJ := Lib.hid (And.intro H0.out H3.out); clear h HP HK H0 H1 H2 H3)
    | (go_at_call 47; refine (join_acc A.out rfl rfl (by have h7 := HJ.out.2; simp [sumL] at h7; simp [sumL, oWrite_len, oCell_len] <;> omega) (by have h7 := HJ.out.2; simp [sumL] at h7; simp [sumL, oWrite_len, oCell_len] <;> omega) (Nat.le_of_ble_eq_true rfl)).mono ?_; rintro e u ⟨g, n, c, rfl, hZ⟩; clear A)
    | (go_at_call 37; refine (g_cell _ _ _).mono ?_; rintro e u ⟨g, n, c, rfl, h⟩; replace A := Lib.hid (A.out.more h.out); clear h)
    | (go_at_call 32; refine (g_write _).mono ?_; rintro e u ⟨g, n, c, rfl, h⟩; replace A := Lib.hid (A.out.more h.out); clear h))
  go_ret
  exact ⟨g, n, c, rfl, hZ.out.1, hZ.out.2⟩
def oEmitPair (l : Int) : List O := ([oLoad (l) (0), oEmit, oLoad (l) (1), oEmit]).flatten
set_option maxHeartbeats 1000000 in
set_option maxRecDepth 100000 in
theorem g_emitPair (l : Int) (w : World) : Calls Tryd.prog 44 #[.int .i64 l] w fun e w' => Gv w (oEmitPair l) e w' := by
  have A : Hid (Acc w w []) := acc_nil (Below.refl _ _)
  go_enter Tryd.func44, Tryd.ntmps44
  go_wp2_with (first
    | (go_at_call 47; refine (join_acc A.out rfl rfl (Nat.le_of_ble_eq_true rfl) (Nat.le_of_ble_eq_true rfl) (Nat.le_of_ble_eq_true rfl)).mono ?_; rintro e u ⟨g, n, c, rfl, hZ⟩; clear A)
    | (go_at_call 16; refine (g_load _ _ _).mono ?_; rintro e u ⟨g, n, c, rfl, h⟩; replace A := Lib.hid (A.out.more h.out); clear h)
    | (go_at_call 17; refine (g_emit _).mono ?_; rintro e u ⟨g, n, c, rfl, h⟩; replace A := Lib.hid (A.out.more h.out); clear h))
  go_ret
  exact ⟨g, n, c, rfl, hZ.out.1, hZ.out.2⟩
def oEmitKept  : List O := ([oGet (4), oTo (13) (9), oEmitPair (4), oMark (9), oHalt]).flatten
set_option maxHeartbeats 1000000 in
set_option maxRecDepth 100000 in
theorem g_emitKept  (w : World) : Calls Tryd.prog 41 #[] w fun e w' => Gv w (oEmitKept) e w' := by
  have A : Hid (Acc w w []) := acc_nil (Below.refl _ _)
  go_enter Tryd.func41, Tryd.ntmps41
  go_wp2_with (first
    | (go_at_call 47; refine (join_acc A.out rfl rfl (Nat.le_of_ble_eq_true rfl) (Nat.le_of_ble_eq_true rfl) (Nat.le_of_ble_eq_true rfl)).mono ?_; rintro e u ⟨g, n, c, rfl, hZ⟩; clear A)
    | (go_at_call 30; refine (g_get _ _).mono ?_; rintro e u ⟨g, n, c, rfl, h⟩; replace A := Lib.hid (A.out.more h.out); clear h)
    | (go_at_call 26; refine (g_to _ _ _).mono ?_; rintro e u ⟨g, n, c, rfl, h⟩; replace A := Lib.hid (A.out.more h.out); clear h)
    | (go_at_call 44; refine (g_emitPair _ _).mono ?_; rintro e u ⟨g, n, c, rfl, h⟩; replace A := Lib.hid (A.out.more h.out); clear h)
    | (go_at_call 15; refine (g_mark _ _).mono ?_; rintro e u ⟨g, n, c, rfl, h⟩; replace A := Lib.hid (A.out.more h.out); clear h)
    | (go_at_call 18; refine (g_halt _).mono ?_; rintro e u ⟨g, n, c, rfl, h⟩; replace A := Lib.hid (A.out.more h.out); clear h))
  go_ret
  exact ⟨g, n, c, rfl, hZ.out.1, hZ.out.2⟩
theorem g_spare (_hB : 0 ≤ B ∧ B ≤ 256) (_hR : 0 ≤ R ∧ R ≤ 16)  (w : World) : Calls Tryd.prog 28 #[.agg #[.int .i64 B, .int .i64 R]] w fun e w' => e = .returned (.int .i64 (B)) ∧ Below w.heap.size w w' := by
  go_enter Tryd.func28, Tryd.ntmps28
  go_wp2
  go_ret
  exact ⟨by first | rfl | simp, bl1 _ _⟩
theorem g_count (_hB : 0 ≤ B ∧ B ≤ 256) (_hR : 0 ≤ R ∧ R ≤ 16)  (w : World) : Calls Tryd.prog 23 #[.agg #[.int .i64 B, .int .i64 R]] w fun e w' => e = .returned (.int .i64 (B + 1)) ∧ Below w.heap.size w w' := by
  go_enter Tryd.func23, Tryd.ntmps23
  go_wp2
  go_ret
  exact ⟨by first | rfl | simp, bl1 _ _⟩
theorem g_root (_hB : 0 ≤ B ∧ B ≤ 256) (_hR : 0 ≤ R ∧ R ≤ 16)  (w : World) : Calls Tryd.prog 53 #[.agg #[.int .i64 B, .int .i64 R]] w fun e w' => e = .returned (.int .i64 (B + 2)) ∧ Below w.heap.size w w' := by
  go_enter Tryd.func53, Tryd.ntmps53
  go_wp2
  go_ret
  exact ⟨by first | rfl | simp, bl1 _ _⟩
theorem g_wide (_hB : 0 ≤ B ∧ B ≤ 256) (_hR : 0 ≤ R ∧ R ≤ 16)  (w : World) : Calls Tryd.prog 38 #[.agg #[.int .i64 B, .int .i64 R]] w fun e w' => e = .returned (.int .i64 (R + 1)) ∧ Below w.heap.size w w' := by
  go_enter Tryd.func38, Tryd.ntmps38
  go_wp2
  go_ret
  exact ⟨by first | rfl | simp, bl1 _ _⟩
end
end Go.Proofs.YthnpgbmagfhgpaaDoor.Tr
namespace Go.Proofs.YthnpgbmagfhgpaaDoor.Tr
open Go.ChangeShapes Go.WideShapes Go.ChangeAt Go.RowKit Num Go.Maps As
open Go.ChangeMaps Go.MapKept
attribute [local go_sem] run_store_float frombits_run bits_run
section
variable {w : World} {B R : Int}
def oFold (_B R : Int)  : List O := ([oPush (R + 1), oTwo (5)]).flatten
set_option maxHeartbeats 1000000 in
set_option maxRecDepth 100000 in
theorem g_fold (hB : 0 ≤ B ∧ B ≤ 256) (hR : 0 ≤ R ∧ R ≤ 16)  (w : World) : Calls Tryd.prog 51 #[.agg #[.int .i64 B, .int .i64 R]] w fun e w' => Gv w (oFold B R) e w' := by
  have A : Hid (Acc (w.alloc (.cells #[.int .i64 B, .int .i64 R] 33)) (w.alloc (.cells #[.int .i64 B, .int .i64 R] 33)) []) := acc_nil (Below.refl _ _)
  go_enter Tryd.func51, Tryd.ntmps51
  go_wp2_with (first
    | (go_at_call 47; refine (join_acc A.out rfl rfl (Nat.le_of_ble_eq_true rfl) (Nat.le_of_ble_eq_true rfl) (Nat.le_of_ble_eq_true rfl)).mono ?_; rintro e u ⟨g, n, c, rfl, hZ⟩; clear A)
    | (go_at_call 38; refine (g_wide hB hR _).mono ?_; rintro e u ⟨rfl, h⟩; replace A := Lib.hid (A.out.on h); clear h)
    | (go_at_call 24; refine (g_push _ _).mono ?_; rintro e u ⟨g, n, c, rfl, h⟩; replace A := Lib.hid (A.out.more h.out); clear h)
    | (go_at_call 25; refine (g_two _ _).mono ?_; rintro e u ⟨g, n, c, rfl, h⟩; replace A := Lib.hid (A.out.more h.out); clear h))
  go_ret
  exact ⟨g, n, c, rfl, hZ.out.1, (bl1 w _).trans (hZ.out.2.mono (by simp))⟩
def oFolded (B R : Int) (c : Int) : List O := ([oPush (c), oRead, oFold B R]).flatten
set_option maxHeartbeats 1000000 in
set_option maxRecDepth 100000 in
theorem g_folded (hB : 0 ≤ B ∧ B ≤ 256) (hR : 0 ≤ R ∧ R ≤ 16) (c : Int) (w : World) : Calls Tryd.prog 22 #[.agg #[.int .i64 B, .int .i64 R], .int .i64 c] w fun e w' => Gv w (oFolded B R c) e w' := by
  have A : Hid (Acc (w.alloc (.cells #[.int .i64 B, .int .i64 R] 33)) ((w.alloc (.cells #[.int .i64 B, .int .i64 R] 33)).drew) []) := acc_nil ((Same.drew _).below _)
  have HB : Hid (∀ u, Below (w.alloc (.cells #[.int .i64 B, .int .i64 R] 33)).heap.size (w.alloc (.cells #[.int .i64 B, .int .i64 R] 33)) u → u.cell? ⟨w.heap.size, 0, none⟩ = some (.int .i64 B) ∧ u.cell? ⟨w.heap.size, 1, none⟩ = some (.int .i64 R)) := fun u k => by
    have := cells2_of ((k.block _ (by simp)).trans (heap_alloc_new w (.cells #[.int .i64 B, .int .i64 R] 33)))
    exact ⟨this.1, this.2.1⟩
  go_enter Tryd.func22, Tryd.ntmps22
  go_wp2_with fail
  refine wp_region_seq (fun u => u.cell? ⟨w.heap.size, 0, none⟩ = some (.int .i64 B) ∧ u.cell? ⟨w.heap.size, 1, none⟩ = some (.int .i64 R)) ((0, true) :: (3, true) :: (1, false) :: (2, false) :: (4, false) :: (5, false) :: (6, false) :: (7, true) :: []) follows (by kernel_rfl) (fun _ _ _ _ _ h => h) (HB.out _ ((Same.drew _).below _)) ?_
  (repeat ((first | (refine wpSeq_take (v := ?_) rfl (by rfl) (fun wq hSq => ?_) ?_; rotate_left; (focus ((try dsimp only at hSq); go_simp; try with_reducible rfl))) | refine wpSeq_skip rfl (by rfl) ?_); simp only [Act.put, List.setIfInBounds_toArray, List.set_cons_zero, List.set_cons_succ]))
  (refine wpSeq_do rfl (by rfl) (fun KK hK => ?_); go_simp)
  refine (g_push _ _).mono ?_; rintro e u ⟨g, n, c, rfl, h⟩; replace A := Lib.hid (A.out.more h.out); clear h
  refine hK.out _ _ (HB.out _ A.out.bl) ?_
  (clear hK KK; try simp only [Act.put, List.setIfInBounds_toArray, List.set_cons_zero, List.set_cons_succ])
  (repeat ((first | (refine wpSeq_take (v := ?_) rfl (by rfl) (fun wq hSq => ?_) ?_; rotate_left; (focus ((try dsimp only at hSq); go_simp; try with_reducible rfl))) | refine wpSeq_skip rfl (by rfl) ?_); simp only [Act.put, List.setIfInBounds_toArray, List.set_cons_zero, List.set_cons_succ]))
  (refine wpSeq_do rfl (by rfl) (fun KK hK => ?_); go_simp)
  refine (g_read _).mono ?_; rintro e u ⟨g, n, c, rfl, h⟩; replace A := Lib.hid (A.out.more h.out); clear h
  refine hK.out _ _ (HB.out _ A.out.bl) ?_
  (clear hK KK; try simp only [Act.put, List.setIfInBounds_toArray, List.set_cons_zero, List.set_cons_succ])
  (repeat ((first | (refine wpSeq_take (v := ?_) rfl (by rfl) (fun wq hSq => ?_) ?_; rotate_left; (focus ((try dsimp only at hSq); go_simp; try with_reducible rfl))) | refine wpSeq_skip rfl (by rfl) ?_); simp only [Act.put, List.setIfInBounds_toArray, List.set_cons_zero, List.set_cons_succ]))
  (refine wpSeq_do rfl (by rfl) (fun KK hK => ?_); go_simp)
  refine (g_fold hB hR _).mono ?_; rintro e u ⟨g, n, c, rfl, h⟩; replace A := Lib.hid (A.out.more h.out); clear h
  refine hK.out _ _ (HB.out _ A.out.bl) ?_
  (clear hK KK; try simp only [Act.put, List.setIfInBounds_toArray, List.set_cons_zero, List.set_cons_succ])
  (repeat ((first | (refine wpSeq_take (v := ?_) rfl (by rfl) (fun wq hSq => ?_) ?_; rotate_left; (focus ((try dsimp only at hSq); go_simp; try with_reducible rfl))) | refine wpSeq_skip rfl (by rfl) ?_); simp only [Act.put, List.setIfInBounds_toArray, List.set_cons_zero, List.set_cons_succ]))
  (refine wpSeq_do rfl (by rfl) (fun KK hK => ?_); go_simp)
  refine hK.out _ _ (HB.out _ (A.out.on (bl1 _ _)).bl) ?_
  (clear hK KK; try simp only [Act.put, List.setIfInBounds_toArray, List.set_cons_zero, List.set_cons_succ])
  (repeat ((first | (refine wpSeq_take (v := ?_) rfl (by rfl) (fun wq hSq => ?_) ?_; rotate_left; (focus ((try dsimp only at hSq); go_simp; try with_reducible rfl))) | refine wpSeq_skip rfl (by rfl) ?_); simp only [Act.put, List.setIfInBounds_toArray, List.set_cons_zero, List.set_cons_succ]))
  (refine wpSeq_do rfl (by rfl) (fun KK hK => ?_); go_simp)
  refine (join_acc A.out rfl rfl (Nat.le_of_ble_eq_true rfl) (Nat.le_of_ble_eq_true rfl) (Nat.le_of_ble_eq_true rfl)).mono ?_; rintro e u ⟨g, n, c, rfl, hZ⟩; clear A
  refine hK.out _ _ (HB.out _ hZ.out.2) ?_
  (clear hK KK; try simp only [Act.put, List.setIfInBounds_toArray, List.set_cons_zero, List.set_cons_succ])
  (repeat ((first | (refine wpSeq_take (v := ?_) rfl (by rfl) (fun wq hSq => ?_) ?_; rotate_left; (focus ((try dsimp only at hSq); go_simp; try with_reducible rfl))) | refine wpSeq_skip rfl (by rfl) ?_); simp only [Act.put, List.setIfInBounds_toArray, List.set_cons_zero, List.set_cons_succ]))
  refine wpSeq_nil ?_
  go_wp2_with fail
  go_ret
  exact ⟨g, n, c, rfl, hZ.out.1, (bl1 w _).trans (hZ.out.2.mono (by simp))⟩
def oGoTo (B _R : Int)  : List O := ([oGet (0), oPush (3), oTwo (3), oPush (B), oTwo (1), oSet (1)]).flatten
set_option maxHeartbeats 1000000 in
set_option maxRecDepth 100000 in
theorem g_goTo (_hB : 0 ≤ B ∧ B ≤ 256) (_hR : 0 ≤ R ∧ R ≤ 16)  (w : World) : Calls Tryd.prog 31 #[.agg #[.int .i64 B, .int .i64 R]] w fun e w' => Gv w (oGoTo B R) e w' := by
  have A : Hid (Acc (w.alloc (.cells #[.int .i64 B, .int .i64 R] 33)) ((w.alloc (.cells #[.int .i64 B, .int .i64 R] 33)).drew) []) := acc_nil ((Same.drew _).below _)
  have HB : Hid (∀ u, Below (w.alloc (.cells #[.int .i64 B, .int .i64 R] 33)).heap.size (w.alloc (.cells #[.int .i64 B, .int .i64 R] 33)) u → u.cell? ⟨w.heap.size, 0, none⟩ = some (.int .i64 B) ∧ u.cell? ⟨w.heap.size, 1, none⟩ = some (.int .i64 R)) := fun u k => by
    have := cells2_of ((k.block _ (by simp)).trans (heap_alloc_new w (.cells #[.int .i64 B, .int .i64 R] 33)))
    exact ⟨this.1, this.2.1⟩
  go_enter Tryd.func31, Tryd.ntmps31
  go_wp2_with fail
  refine wp_region_seq (fun u => u.cell? ⟨w.heap.size, 0, none⟩ = some (.int .i64 B) ∧ u.cell? ⟨w.heap.size, 1, none⟩ = some (.int .i64 R)) ((3, true) :: (4, true) :: (0, false) :: (1, false) :: (2, false) :: (5, false) :: (6, false) :: (7, false) :: (8, false) :: (9, false) :: (10, true) :: []) follows (by kernel_rfl) (fun _ _ _ _ _ h => h) (HB.out _ ((Same.drew _).below _)) ?_
  (repeat ((first | (refine wpSeq_take (v := ?_) rfl (by rfl) (fun wq hSq => ?_) ?_; rotate_left; (focus ((try dsimp only at hSq); go_simp; try with_reducible rfl))) | refine wpSeq_skip rfl (by rfl) ?_); simp only [Act.put, List.setIfInBounds_toArray, List.set_cons_zero, List.set_cons_succ]))
  (refine wpSeq_do rfl (by rfl) (fun KK hK => ?_); go_simp)
  refine (g_get _ _).mono ?_; rintro e u ⟨g, n, c, rfl, h⟩; replace A := Lib.hid (A.out.more h.out); clear h
  refine hK.out _ _ (HB.out _ A.out.bl) ?_
  (clear hK KK; try simp only [Act.put, List.setIfInBounds_toArray, List.set_cons_zero, List.set_cons_succ])
  (repeat ((first | (refine wpSeq_take (v := ?_) rfl (by rfl) (fun wq hSq => ?_) ?_; rotate_left; (focus ((try dsimp only at hSq); go_simp; try with_reducible rfl))) | refine wpSeq_skip rfl (by rfl) ?_); simp only [Act.put, List.setIfInBounds_toArray, List.set_cons_zero, List.set_cons_succ]))
  (refine wpSeq_do rfl (by rfl) (fun KK hK => ?_); go_simp)
  refine (g_push _ _).mono ?_; rintro e u ⟨g, n, c, rfl, h⟩; replace A := Lib.hid (A.out.more h.out); clear h
  refine hK.out _ _ (HB.out _ A.out.bl) ?_
  (clear hK KK; try simp only [Act.put, List.setIfInBounds_toArray, List.set_cons_zero, List.set_cons_succ])
  (repeat ((first | (refine wpSeq_take (v := ?_) rfl (by rfl) (fun wq hSq => ?_) ?_; rotate_left; (focus ((try dsimp only at hSq); go_simp; try with_reducible rfl))) | refine wpSeq_skip rfl (by rfl) ?_); simp only [Act.put, List.setIfInBounds_toArray, List.set_cons_zero, List.set_cons_succ]))
  (refine wpSeq_do rfl (by rfl) (fun KK hK => ?_); go_simp)
  refine (g_two _ _).mono ?_; rintro e u ⟨g, n, c, rfl, h⟩; replace A := Lib.hid (A.out.more h.out); clear h
  refine hK.out _ _ (HB.out _ A.out.bl) ?_
  (clear hK KK; try simp only [Act.put, List.setIfInBounds_toArray, List.set_cons_zero, List.set_cons_succ])
  (repeat ((first | (refine wpSeq_take (v := ?_) rfl (by rfl) (fun wq hSq => ?_) ?_; rotate_left; (focus ((try dsimp only at hSq); go_simp; try with_reducible rfl))) | refine wpSeq_skip rfl (by rfl) ?_); simp only [Act.put, List.setIfInBounds_toArray, List.set_cons_zero, List.set_cons_succ]))
  (refine wpSeq_do rfl (by rfl) (fun KK hK => ?_); go_simp)
  refine (g_push _ _).mono ?_; rintro e u ⟨g, n, c, rfl, h⟩; replace A := Lib.hid (A.out.more h.out); clear h
  refine hK.out _ _ (HB.out _ A.out.bl) ?_
  (clear hK KK; try simp only [Act.put, List.setIfInBounds_toArray, List.set_cons_zero, List.set_cons_succ])
  (repeat ((first | (refine wpSeq_take (v := ?_) rfl (by rfl) (fun wq hSq => ?_) ?_; rotate_left; (focus ((try dsimp only at hSq); go_simp; try with_reducible rfl))) | refine wpSeq_skip rfl (by rfl) ?_); simp only [Act.put, List.setIfInBounds_toArray, List.set_cons_zero, List.set_cons_succ]))
  (refine wpSeq_do rfl (by rfl) (fun KK hK => ?_); go_simp)
  refine (g_two _ _).mono ?_; rintro e u ⟨g, n, c, rfl, h⟩; replace A := Lib.hid (A.out.more h.out); clear h
  refine hK.out _ _ (HB.out _ A.out.bl) ?_
  (clear hK KK; try simp only [Act.put, List.setIfInBounds_toArray, List.set_cons_zero, List.set_cons_succ])
  (repeat ((first | (refine wpSeq_take (v := ?_) rfl (by rfl) (fun wq hSq => ?_) ?_; rotate_left; (focus ((try dsimp only at hSq); go_simp; try with_reducible rfl))) | refine wpSeq_skip rfl (by rfl) ?_); simp only [Act.put, List.setIfInBounds_toArray, List.set_cons_zero, List.set_cons_succ]))
  (refine wpSeq_do rfl (by rfl) (fun KK hK => ?_); go_simp)
  refine (g_set _ _).mono ?_; rintro e u ⟨g, n, c, rfl, h⟩; replace A := Lib.hid (A.out.more h.out); clear h
  refine hK.out _ _ (HB.out _ A.out.bl) ?_
  (clear hK KK; try simp only [Act.put, List.setIfInBounds_toArray, List.set_cons_zero, List.set_cons_succ])
  (repeat ((first | (refine wpSeq_take (v := ?_) rfl (by rfl) (fun wq hSq => ?_) ?_; rotate_left; (focus ((try dsimp only at hSq); go_simp; try with_reducible rfl))) | refine wpSeq_skip rfl (by rfl) ?_); simp only [Act.put, List.setIfInBounds_toArray, List.set_cons_zero, List.set_cons_succ]))
  (refine wpSeq_do rfl (by rfl) (fun KK hK => ?_); go_simp)
  refine hK.out _ _ (HB.out _ (A.out.on (bl1 _ _)).bl) ?_
  (clear hK KK; try simp only [Act.put, List.setIfInBounds_toArray, List.set_cons_zero, List.set_cons_succ])
  (repeat ((first | (refine wpSeq_take (v := ?_) rfl (by rfl) (fun wq hSq => ?_) ?_; rotate_left; (focus ((try dsimp only at hSq); go_simp; try with_reducible rfl))) | refine wpSeq_skip rfl (by rfl) ?_); simp only [Act.put, List.setIfInBounds_toArray, List.set_cons_zero, List.set_cons_succ]))
  (refine wpSeq_do rfl (by rfl) (fun KK hK => ?_); go_simp)
  refine (join_acc A.out rfl rfl (Nat.le_of_ble_eq_true rfl) (Nat.le_of_ble_eq_true rfl) (Nat.le_of_ble_eq_true rfl)).mono ?_; rintro e u ⟨g, n, c, rfl, hZ⟩; clear A
  refine hK.out _ _ (HB.out _ hZ.out.2) ?_
  (clear hK KK; try simp only [Act.put, List.setIfInBounds_toArray, List.set_cons_zero, List.set_cons_succ])
  (repeat ((first | (refine wpSeq_take (v := ?_) rfl (by rfl) (fun wq hSq => ?_) ?_; rotate_left; (focus ((try dsimp only at hSq); go_simp; try with_reducible rfl))) | refine wpSeq_skip rfl (by rfl) ?_); simp only [Act.put, List.setIfInBounds_toArray, List.set_cons_zero, List.set_cons_succ]))
  refine wpSeq_nil ?_
  go_wp2_with fail
  go_ret
  exact ⟨g, n, c, rfl, hZ.out.1, (bl1 w _).trans (hZ.out.2.mono (by simp))⟩
def oLinked (B R : Int) (a : List O) (s : List O) : List O := ([a, oRead, s, oTwo (4), oOne (3), oFold B R]).flatten
theorem oLinked_len (B R : Int) (a : List O) (s : List O) : (oLinked B R a s).length = 5 + a.length + s.length := by simp [oLinked, oOne_len, oTwo_len, oRead_len, oFold_len]; try omega
set_option maxHeartbeats 1000000 in
set_option maxRecDepth 100000 in
theorem g_linked (hB : 0 ≤ B ∧ B ≤ 256) (hR : 0 ≤ R ∧ R ≤ 16) {ga na ca : Nat} {a : List O} {gs ns cs : Nat} {s : List O} (ha : Op1 w ga na ca a) (hs : Op1 w gs ns cs s) (ma : a.length ≤ 8) (ms : s.length ≤ 8)  : Calls Tryd.prog 52 #[.agg #[.int .i64 B, .int .i64 R], .slice (some ⟨ga, 0, none⟩) na ca, .slice (some ⟨gs, 0, none⟩) ns cs] w fun e w' => Gv w (oLinked B R a s) e w' := by
  have HA : Hid (Op1 (w.alloc (.cells #[.int .i64 B, .int .i64 R] 33)) ga na ca a) := ha.on (bl1 _ _)
  have HS : Hid (Op1 (w.alloc (.cells #[.int .i64 B, .int .i64 R] 33)) gs ns cs s) := hs.on (bl1 _ _)
  have A : Hid (Acc (w.alloc (.cells #[.int .i64 B, .int .i64 R] 33)) ((w.alloc (.cells #[.int .i64 B, .int .i64 R] 33)).drew) []) := acc_nil ((Same.drew _).below _)
  have HB : Hid (∀ u, Below (w.alloc (.cells #[.int .i64 B, .int .i64 R] 33)).heap.size (w.alloc (.cells #[.int .i64 B, .int .i64 R] 33)) u → u.cell? ⟨w.heap.size, 0, none⟩ = some (.int .i64 B) ∧ u.cell? ⟨w.heap.size, 1, none⟩ = some (.int .i64 R)) := fun u k => by
    have := cells2_of ((k.block _ (by simp)).trans (heap_alloc_new w (.cells #[.int .i64 B, .int .i64 R] 33)))
    exact ⟨this.1, this.2.1⟩
  clear ha hs
  go_enter Tryd.func52, Tryd.ntmps52
  go_wp2_with fail
  refine wp_region_seq (fun u => u.cell? ⟨w.heap.size, 0, none⟩ = some (.int .i64 B) ∧ u.cell? ⟨w.heap.size, 1, none⟩ = some (.int .i64 R)) ((0, true) :: (2, true) :: (5, true) :: (1, false) :: (3, false) :: (4, false) :: (6, false) :: (7, false) :: (8, false) :: (9, true) :: []) follows (by kernel_rfl) (fun _ _ _ _ _ h => h) (HB.out _ ((Same.drew _).below _)) ?_
  replace A := Lib.hid (A.out.also (HA.out.on ((Same.drew _).below _)))
  (repeat ((first | (refine wpSeq_take (v := ?_) rfl (by rfl) (fun wq hSq => ?_) ?_; rotate_left; (focus ((try dsimp only at hSq); go_simp; try with_reducible rfl))) | refine wpSeq_skip rfl (by rfl) ?_); simp only [Act.put, List.setIfInBounds_toArray, List.set_cons_zero, List.set_cons_succ]))
  (refine wpSeq_do rfl (by rfl) (fun KK hK => ?_); go_simp)
  refine (g_read _).mono ?_; rintro e u ⟨g, n, c, rfl, h⟩; replace A := Lib.hid (A.out.more h.out); clear h
  refine hK.out _ _ (HB.out _ A.out.bl) ?_
  (clear hK KK; try simp only [Act.put, List.setIfInBounds_toArray, List.set_cons_zero, List.set_cons_succ])
  (repeat ((first | (refine wpSeq_take (v := ?_) rfl (by rfl) (fun wq hSq => ?_) ?_; rotate_left; (focus ((try dsimp only at hSq); go_simp; try with_reducible rfl))) | refine wpSeq_skip rfl (by rfl) ?_); simp only [Act.put, List.setIfInBounds_toArray, List.set_cons_zero, List.set_cons_succ]))
  replace A := Lib.hid (A.out.also (HS.out.on A.out.bl))
  (refine wpSeq_do rfl (by rfl) (fun KK hK => ?_); go_simp)
  refine (g_two _ _).mono ?_; rintro e u ⟨g, n, c, rfl, h⟩; replace A := Lib.hid (A.out.more h.out); clear h
  refine hK.out _ _ (HB.out _ A.out.bl) ?_
  (clear hK KK; try simp only [Act.put, List.setIfInBounds_toArray, List.set_cons_zero, List.set_cons_succ])
  (repeat ((first | (refine wpSeq_take (v := ?_) rfl (by rfl) (fun wq hSq => ?_) ?_; rotate_left; (focus ((try dsimp only at hSq); go_simp; try with_reducible rfl))) | refine wpSeq_skip rfl (by rfl) ?_); simp only [Act.put, List.setIfInBounds_toArray, List.set_cons_zero, List.set_cons_succ]))
  (refine wpSeq_do rfl (by rfl) (fun KK hK => ?_); go_simp)
  refine (g_one _ _).mono ?_; rintro e u ⟨g, n, c, rfl, h⟩; replace A := Lib.hid (A.out.more h.out); clear h
  refine hK.out _ _ (HB.out _ A.out.bl) ?_
  (clear hK KK; try simp only [Act.put, List.setIfInBounds_toArray, List.set_cons_zero, List.set_cons_succ])
  (repeat ((first | (refine wpSeq_take (v := ?_) rfl (by rfl) (fun wq hSq => ?_) ?_; rotate_left; (focus ((try dsimp only at hSq); go_simp; try with_reducible rfl))) | refine wpSeq_skip rfl (by rfl) ?_); simp only [Act.put, List.setIfInBounds_toArray, List.set_cons_zero, List.set_cons_succ]))
  (refine wpSeq_do rfl (by rfl) (fun KK hK => ?_); go_simp)
  refine (g_fold hB hR _).mono ?_; rintro e u ⟨g, n, c, rfl, h⟩; replace A := Lib.hid (A.out.more h.out); clear h
  refine hK.out _ _ (HB.out _ A.out.bl) ?_
  (clear hK KK; try simp only [Act.put, List.setIfInBounds_toArray, List.set_cons_zero, List.set_cons_succ])
  (repeat ((first | (refine wpSeq_take (v := ?_) rfl (by rfl) (fun wq hSq => ?_) ?_; rotate_left; (focus ((try dsimp only at hSq); go_simp; try with_reducible rfl))) | refine wpSeq_skip rfl (by rfl) ?_); simp only [Act.put, List.setIfInBounds_toArray, List.set_cons_zero, List.set_cons_succ]))
  (refine wpSeq_do rfl (by rfl) (fun KK hK => ?_); go_simp)
  refine hK.out _ _ (HB.out _ (A.out.on (bl1 _ _)).bl) ?_
  (clear hK KK; try simp only [Act.put, List.setIfInBounds_toArray, List.set_cons_zero, List.set_cons_succ])
  (repeat ((first | (refine wpSeq_take (v := ?_) rfl (by rfl) (fun wq hSq => ?_) ?_; rotate_left; (focus ((try dsimp only at hSq); go_simp; try with_reducible rfl))) | refine wpSeq_skip rfl (by rfl) ?_); simp only [Act.put, List.setIfInBounds_toArray, List.set_cons_zero, List.set_cons_succ]))
  (refine wpSeq_do rfl (by rfl) (fun KK hK => ?_); go_simp)
  refine (join_acc A.out rfl rfl (by simp [sumL, oOne_len, oTwo_len, oRead_len, oFold_len] <;> omega) (by simp [sumL, oOne_len, oTwo_len, oRead_len, oFold_len] <;> omega) (Nat.le_of_ble_eq_true rfl)).mono ?_; rintro e u ⟨g, n, c, rfl, hZ⟩; clear A
  refine hK.out _ _ (HB.out _ hZ.out.2) ?_
  (clear hK KK; try simp only [Act.put, List.setIfInBounds_toArray, List.set_cons_zero, List.set_cons_succ])
  (repeat ((first | (refine wpSeq_take (v := ?_) rfl (by rfl) (fun wq hSq => ?_) ?_; rotate_left; (focus ((try dsimp only at hSq); go_simp; try with_reducible rfl))) | refine wpSeq_skip rfl (by rfl) ?_); simp only [Act.put, List.setIfInBounds_toArray, List.set_cons_zero, List.set_cons_succ]))
  refine wpSeq_nil ?_
  go_wp2_with fail
  go_ret
  exact ⟨g, n, c, rfl, hZ.out.1, (bl1 w _).trans (hZ.out.2.mono (by simp))⟩
def oAhead (B R : Int)  : List O := oLinked B R (oCell (1) (2)) (oPush (1))
set_option maxHeartbeats 1000000 in
set_option maxRecDepth 100000 in
theorem g_ahead (hB : 0 ≤ B ∧ B ≤ 256) (hR : 0 ≤ R ∧ R ≤ 16)  (w : World) : Calls Tryd.prog 35 #[.agg #[.int .i64 B, .int .i64 R]] w fun e w' => Gv w (oAhead B R) e w' := by
  have A : Hid (Acc (w.alloc (.cells #[.int .i64 B, .int .i64 R] 33)) ((w.alloc (.cells #[.int .i64 B, .int .i64 R] 33)).drew) []) := acc_nil ((Same.drew _).below _)
  have HB : Hid (∀ u, Below (w.alloc (.cells #[.int .i64 B, .int .i64 R] 33)).heap.size (w.alloc (.cells #[.int .i64 B, .int .i64 R] 33)) u → u.cell? ⟨w.heap.size, 0, none⟩ = some (.int .i64 B) ∧ u.cell? ⟨w.heap.size, 1, none⟩ = some (.int .i64 R)) := fun u k => by
    have := cells2_of ((k.block _ (by simp)).trans (heap_alloc_new w (.cells #[.int .i64 B, .int .i64 R] 33)))
    exact ⟨this.1, this.2.1⟩
  go_enter Tryd.func35, Tryd.ntmps35
  go_wp2_with fail
  refine wp_region_seq (fun u => u.cell? ⟨w.heap.size, 0, none⟩ = some (.int .i64 B) ∧ u.cell? ⟨w.heap.size, 1, none⟩ = some (.int .i64 R)) ((0, true) :: (1, false) :: (2, false) :: (3, false) :: (4, true) :: []) follows (by kernel_rfl) (fun _ _ _ _ _ h => h) (HB.out _ ((Same.drew _).below _)) ?_
  (repeat ((first | (refine wpSeq_take (v := ?_) rfl (by rfl) (fun wq hSq => ?_) ?_; rotate_left; (focus ((try dsimp only at hSq); go_simp; try with_reducible rfl))) | refine wpSeq_skip rfl (by rfl) ?_); simp only [Act.put, List.setIfInBounds_toArray, List.set_cons_zero, List.set_cons_succ]))
  (refine wpSeq_do rfl (by rfl) (fun KK hK => ?_); go_simp)
  refine (g_cell _ _ _).mono ?_; rintro e u ⟨g, n, c, rfl, h⟩; replace A := Lib.hid (A.out.more h.out); clear h
  refine hK.out _ _ (HB.out _ A.out.bl) ?_
  (clear hK KK; try simp only [Act.put, List.setIfInBounds_toArray, List.set_cons_zero, List.set_cons_succ])
  (repeat ((first | (refine wpSeq_take (v := ?_) rfl (by rfl) (fun wq hSq => ?_) ?_; rotate_left; (focus ((try dsimp only at hSq); go_simp; try with_reducible rfl))) | refine wpSeq_skip rfl (by rfl) ?_); simp only [Act.put, List.setIfInBounds_toArray, List.set_cons_zero, List.set_cons_succ]))
  (refine wpSeq_do rfl (by rfl) (fun KK hK => ?_); go_simp)
  refine (g_push _ _).mono ?_; rintro e u ⟨g, n, c, rfl, h⟩; replace A := Lib.hid (A.out.more h.out); clear h
  refine hK.out _ _ (HB.out _ A.out.bl) ?_
  (clear hK KK; try simp only [Act.put, List.setIfInBounds_toArray, List.set_cons_zero, List.set_cons_succ])
  (repeat ((first | (refine wpSeq_take (v := ?_) rfl (by rfl) (fun wq hSq => ?_) ?_; rotate_left; (focus ((try dsimp only at hSq); go_simp; try with_reducible rfl))) | refine wpSeq_skip rfl (by rfl) ?_); simp only [Act.put, List.setIfInBounds_toArray, List.set_cons_zero, List.set_cons_succ]))
  (refine wpSeq_do rfl (by rfl) (fun KK hK => ?_); go_simp)
  refine (g_linked hB hR A.out.snd A.out.fst (Nat.le_of_ble_eq_true rfl) (Nat.le_of_ble_eq_true rfl)).mono ?_; rintro e u ⟨g, n, c, rfl, h⟩; replace A := Lib.hid (A.out.pop.pop.more h.out); clear h
  refine hK.out _ _ (HB.out _ A.out.bl) ?_
  (clear hK KK; try simp only [Act.put, List.setIfInBounds_toArray, List.set_cons_zero, List.set_cons_succ])
  (repeat ((first | (refine wpSeq_take (v := ?_) rfl (by rfl) (fun wq hSq => ?_) ?_; rotate_left; (focus ((try dsimp only at hSq); go_simp; try with_reducible rfl))) | refine wpSeq_skip rfl (by rfl) ?_); simp only [Act.put, List.setIfInBounds_toArray, List.set_cons_zero, List.set_cons_succ]))
  refine wpSeq_nil ?_
  go_wp2_with fail
  go_ret
  exact ⟨g, n, c, rfl, A.out.fst, (bl1 w _).trans (A.out.bl.mono (by simp))⟩
def oBehind (B R : Int)  : List O := oLinked B R (oCell (1) (2)) (oPush (R + 1))
set_option maxHeartbeats 1000000 in
set_option maxRecDepth 100000 in
theorem g_behind (hB : 0 ≤ B ∧ B ≤ 256) (hR : 0 ≤ R ∧ R ≤ 16)  (w : World) : Calls Tryd.prog 36 #[.agg #[.int .i64 B, .int .i64 R]] w fun e w' => Gv w (oBehind B R) e w' := by
  have A : Hid (Acc (w.alloc (.cells #[.int .i64 B, .int .i64 R] 33)) ((w.alloc (.cells #[.int .i64 B, .int .i64 R] 33)).drew) []) := acc_nil ((Same.drew _).below _)
  have HB : Hid (∀ u, Below (w.alloc (.cells #[.int .i64 B, .int .i64 R] 33)).heap.size (w.alloc (.cells #[.int .i64 B, .int .i64 R] 33)) u → u.cell? ⟨w.heap.size, 0, none⟩ = some (.int .i64 B) ∧ u.cell? ⟨w.heap.size, 1, none⟩ = some (.int .i64 R)) := fun u k => by
    have := cells2_of ((k.block _ (by simp)).trans (heap_alloc_new w (.cells #[.int .i64 B, .int .i64 R] 33)))
    exact ⟨this.1, this.2.1⟩
  go_enter Tryd.func36, Tryd.ntmps36
  go_wp2_with fail
  refine wp_region_seq (fun u => u.cell? ⟨w.heap.size, 0, none⟩ = some (.int .i64 B) ∧ u.cell? ⟨w.heap.size, 1, none⟩ = some (.int .i64 R)) ((0, true) :: (2, true) :: (1, false) :: (3, false) :: (4, false) :: (5, false) :: (6, true) :: []) follows (by kernel_rfl) (fun _ _ _ _ _ h => h) (HB.out _ ((Same.drew _).below _)) ?_
  (repeat ((first | (refine wpSeq_take (v := ?_) rfl (by rfl) (fun wq hSq => ?_) ?_; rotate_left; (focus ((try dsimp only at hSq); go_simp; try with_reducible rfl))) | refine wpSeq_skip rfl (by rfl) ?_); simp only [Act.put, List.setIfInBounds_toArray, List.set_cons_zero, List.set_cons_succ]))
  (refine wpSeq_do rfl (by rfl) (fun KK hK => ?_); go_simp)
  refine (g_cell _ _ _).mono ?_; rintro e u ⟨g, n, c, rfl, h⟩; replace A := Lib.hid (A.out.more h.out); clear h
  refine hK.out _ _ (HB.out _ A.out.bl) ?_
  (clear hK KK; try simp only [Act.put, List.setIfInBounds_toArray, List.set_cons_zero, List.set_cons_succ])
  (repeat ((first | (refine wpSeq_take (v := ?_) rfl (by rfl) (fun wq hSq => ?_) ?_; rotate_left; (focus ((try dsimp only at hSq); go_simp; try with_reducible rfl))) | refine wpSeq_skip rfl (by rfl) ?_); simp only [Act.put, List.setIfInBounds_toArray, List.set_cons_zero, List.set_cons_succ]))
  (refine wpSeq_do rfl (by rfl) (fun KK hK => ?_); go_simp)
  refine (g_wide hB hR _).mono ?_; rintro e u ⟨rfl, h⟩; replace A := Lib.hid (A.out.on h); clear h
  refine hK.out _ _ (HB.out _ A.out.bl) ?_
  (clear hK KK; try simp only [Act.put, List.setIfInBounds_toArray, List.set_cons_zero, List.set_cons_succ])
  (repeat ((first | (refine wpSeq_take (v := ?_) rfl (by rfl) (fun wq hSq => ?_) ?_; rotate_left; (focus ((try dsimp only at hSq); go_simp; try with_reducible rfl))) | refine wpSeq_skip rfl (by rfl) ?_); simp only [Act.put, List.setIfInBounds_toArray, List.set_cons_zero, List.set_cons_succ]))
  (refine wpSeq_do rfl (by rfl) (fun KK hK => ?_); go_simp)
  refine (g_push _ _).mono ?_; rintro e u ⟨g, n, c, rfl, h⟩; replace A := Lib.hid (A.out.more h.out); clear h
  refine hK.out _ _ (HB.out _ A.out.bl) ?_
  (clear hK KK; try simp only [Act.put, List.setIfInBounds_toArray, List.set_cons_zero, List.set_cons_succ])
  (repeat ((first | (refine wpSeq_take (v := ?_) rfl (by rfl) (fun wq hSq => ?_) ?_; rotate_left; (focus ((try dsimp only at hSq); go_simp; try with_reducible rfl))) | refine wpSeq_skip rfl (by rfl) ?_); simp only [Act.put, List.setIfInBounds_toArray, List.set_cons_zero, List.set_cons_succ]))
  (refine wpSeq_do rfl (by rfl) (fun KK hK => ?_); go_simp)
  refine (g_linked hB hR A.out.snd A.out.fst (Nat.le_of_ble_eq_true rfl) (Nat.le_of_ble_eq_true rfl)).mono ?_; rintro e u ⟨g, n, c, rfl, h⟩; replace A := Lib.hid (A.out.pop.pop.more h.out); clear h
  refine hK.out _ _ (HB.out _ A.out.bl) ?_
  (clear hK KK; try simp only [Act.put, List.setIfInBounds_toArray, List.set_cons_zero, List.set_cons_succ])
  (repeat ((first | (refine wpSeq_take (v := ?_) rfl (by rfl) (fun wq hSq => ?_) ?_; rotate_left; (focus ((try dsimp only at hSq); go_simp; try with_reducible rfl))) | refine wpSeq_skip rfl (by rfl) ?_); simp only [Act.put, List.setIfInBounds_toArray, List.set_cons_zero, List.set_cons_succ]))
  refine wpSeq_nil ?_
  go_wp2_with fail
  go_ret
  exact ⟨g, n, c, rfl, A.out.fst, (bl1 w _).trans (A.out.bl.mono (by simp))⟩
def oBegin (B _R : Int)  : List O := ([oPush (B + 2), oSet (2), oPush (1), oSet (3)]).flatten
set_option maxHeartbeats 1000000 in
set_option maxRecDepth 100000 in
theorem g_begin (hB : 0 ≤ B ∧ B ≤ 256) (hR : 0 ≤ R ∧ R ≤ 16)  (w : World) : Calls Tryd.prog 40 #[.agg #[.int .i64 B, .int .i64 R]] w fun e w' => Gv w (oBegin B R) e w' := by
  have A : Hid (Acc (w.alloc (.cells #[.int .i64 B, .int .i64 R] 33)) (w.alloc (.cells #[.int .i64 B, .int .i64 R] 33)) []) := acc_nil (Below.refl _ _)
  go_enter Tryd.func40, Tryd.ntmps40
  go_wp2_with (first
    | (go_at_call 47; refine (join_acc A.out rfl rfl (Nat.le_of_ble_eq_true rfl) (Nat.le_of_ble_eq_true rfl) (Nat.le_of_ble_eq_true rfl)).mono ?_; rintro e u ⟨g, n, c, rfl, hZ⟩; clear A)
    | (go_at_call 53; refine (g_root hB hR _).mono ?_; rintro e u ⟨rfl, h⟩; replace A := Lib.hid (A.out.on h); clear h)
    | (go_at_call 24; refine (g_push _ _).mono ?_; rintro e u ⟨g, n, c, rfl, h⟩; replace A := Lib.hid (A.out.more h.out); clear h)
    | (go_at_call 29; refine (g_set _ _).mono ?_; rintro e u ⟨g, n, c, rfl, h⟩; replace A := Lib.hid (A.out.more h.out); clear h))
  go_ret
  exact ⟨g, n, c, rfl, hZ.out.1, (bl1 w _).trans (hZ.out.2.mono (by simp))⟩
def oWalk (B R : Int) (again : Int) (fin : Int) (Ls : List (List O)) : List O := ([oMark (again), oLinked B R (oGet (2)) (oGet (3)), oSet (0), oGet (0), oTo (13) (fin), oGoTo B R, (Ls).flatten, oCell (1) (2), oSet (2), oTo (11) (again)]).flatten
set_option maxHeartbeats 1000000 in
set_option maxRecDepth 100000 in
theorem g_walk (hB : 0 ≤ B ∧ B ≤ 256) (hR : 0 ≤ R ∧ R ≤ 16) {b k cc : Nat} {Ls : List (List O)} (hp : Parts w b Ls) (hk : Ls.length = k) (h0 : 0 < sumL Ls) (h1 : sumL Ls ≤ 100) (h2 : k ≤ 4096) (again : Int) (fin : Int) : Calls Tryd.prog 39 #[.agg #[.int .i64 B, .int .i64 R], .int .i64 again, .int .i64 fin, .slice (some ⟨b, 0, none⟩) k cc] w fun e w' => Gv w (oWalk B R again fin Ls) e w' := by
  have HP : Hid (Parts (w.alloc (.cells #[.int .i64 B, .int .i64 R] 33)) b Ls) := hp.on (bl1 _ _)
  have HK := Lib.hid hk
  have H0 := Lib.hid h0
  have H1 : Hid (sumL Ls ≤ 4096) := Nat.le_trans h1 (by decide)
  have H3 := Lib.hid h1
  have H2 := Lib.hid h2
  have A : Hid (Acc (w.alloc (.cells #[.int .i64 B, .int .i64 R] 33)) ((w.alloc (.cells #[.int .i64 B, .int .i64 R] 33)).drew) []) := acc_nil ((Same.drew _).below _)
  have HB : Hid (∀ u, Below (w.alloc (.cells #[.int .i64 B, .int .i64 R] 33)).heap.size (w.alloc (.cells #[.int .i64 B, .int .i64 R] 33)) u → u.cell? ⟨w.heap.size, 0, none⟩ = some (.int .i64 B) ∧ u.cell? ⟨w.heap.size, 1, none⟩ = some (.int .i64 R)) := fun u k => by
    have := cells2_of ((k.block _ (by simp)).trans (heap_alloc_new w (.cells #[.int .i64 B, .int .i64 R] 33)))
    exact ⟨this.1, this.2.1⟩
  clear hp hk h0 h1 h2
  go_enter Tryd.func39, Tryd.ntmps39
  go_wp2_with fail
  refine wp_region_seq (fun u => u.cell? ⟨w.heap.size, 0, none⟩ = some (.int .i64 B) ∧ u.cell? ⟨w.heap.size, 1, none⟩ = some (.int .i64 R)) ((0, true) :: (2, true) :: (8, true) :: (10, true) :: (12, true) :: (16, true) :: (1, false) :: (3, false) :: (4, false) :: (5, false) :: (6, false) :: (7, false) :: (9, false) :: (11, false) :: (13, false) :: (14, false) :: (15, false) :: (17, false) :: (18, false) :: (19, false) :: (20, true) :: []) follows (by kernel_rfl) (fun _ _ _ _ _ h => h) (HB.out _ ((Same.drew _).below _)) ?_
  (repeat ((first | (refine wpSeq_take (v := ?_) rfl (by rfl) (fun wq hSq => ?_) ?_; rotate_left; (focus ((try dsimp only at hSq); go_simp; try with_reducible rfl))) | refine wpSeq_skip rfl (by rfl) ?_); simp only [Act.put, List.setIfInBounds_toArray, List.set_cons_zero, List.set_cons_succ]))
  (refine wpSeq_do rfl (by rfl) (fun KK hK => ?_); go_simp)
  refine (g_mark _ _).mono ?_; rintro e u ⟨g, n, c, rfl, h⟩; replace A := Lib.hid (A.out.more h.out); clear h
  refine hK.out _ _ (HB.out _ A.out.bl) ?_
  (clear hK KK; try simp only [Act.put, List.setIfInBounds_toArray, List.set_cons_zero, List.set_cons_succ])
  (repeat ((first | (refine wpSeq_take (v := ?_) rfl (by rfl) (fun wq hSq => ?_) ?_; rotate_left; (focus ((try dsimp only at hSq); go_simp; try with_reducible rfl))) | refine wpSeq_skip rfl (by rfl) ?_); simp only [Act.put, List.setIfInBounds_toArray, List.set_cons_zero, List.set_cons_succ]))
  (refine wpSeq_do rfl (by rfl) (fun KK hK => ?_); go_simp)
  refine (g_get _ _).mono ?_; rintro e u ⟨g, n, c, rfl, h⟩; replace A := Lib.hid (A.out.more h.out); clear h
  refine hK.out _ _ (HB.out _ A.out.bl) ?_
  (clear hK KK; try simp only [Act.put, List.setIfInBounds_toArray, List.set_cons_zero, List.set_cons_succ])
  (repeat ((first | (refine wpSeq_take (v := ?_) rfl (by rfl) (fun wq hSq => ?_) ?_; rotate_left; (focus ((try dsimp only at hSq); go_simp; try with_reducible rfl))) | refine wpSeq_skip rfl (by rfl) ?_); simp only [Act.put, List.setIfInBounds_toArray, List.set_cons_zero, List.set_cons_succ]))
  (refine wpSeq_do rfl (by rfl) (fun KK hK => ?_); go_simp)
  refine (g_get _ _).mono ?_; rintro e u ⟨g, n, c, rfl, h⟩; replace A := Lib.hid (A.out.more h.out); clear h
  refine hK.out _ _ (HB.out _ A.out.bl) ?_
  (clear hK KK; try simp only [Act.put, List.setIfInBounds_toArray, List.set_cons_zero, List.set_cons_succ])
  (repeat ((first | (refine wpSeq_take (v := ?_) rfl (by rfl) (fun wq hSq => ?_) ?_; rotate_left; (focus ((try dsimp only at hSq); go_simp; try with_reducible rfl))) | refine wpSeq_skip rfl (by rfl) ?_); simp only [Act.put, List.setIfInBounds_toArray, List.set_cons_zero, List.set_cons_succ]))
  (refine wpSeq_do rfl (by rfl) (fun KK hK => ?_); go_simp)
  refine (g_linked hB hR A.out.snd A.out.fst (Nat.le_of_ble_eq_true rfl) (Nat.le_of_ble_eq_true rfl)).mono ?_; rintro e u ⟨g, n, c, rfl, h⟩; replace A := Lib.hid (A.out.pop.pop.more h.out); clear h
  refine hK.out _ _ (HB.out _ A.out.bl) ?_
  (clear hK KK; try simp only [Act.put, List.setIfInBounds_toArray, List.set_cons_zero, List.set_cons_succ])
  (repeat ((first | (refine wpSeq_take (v := ?_) rfl (by rfl) (fun wq hSq => ?_) ?_; rotate_left; (focus ((try dsimp only at hSq); go_simp; try with_reducible rfl))) | refine wpSeq_skip rfl (by rfl) ?_); simp only [Act.put, List.setIfInBounds_toArray, List.set_cons_zero, List.set_cons_succ]))
  (refine wpSeq_do rfl (by rfl) (fun KK hK => ?_); go_simp)
  refine (g_set _ _).mono ?_; rintro e u ⟨g, n, c, rfl, h⟩; replace A := Lib.hid (A.out.more h.out); clear h
  refine hK.out _ _ (HB.out _ A.out.bl) ?_
  (clear hK KK; try simp only [Act.put, List.setIfInBounds_toArray, List.set_cons_zero, List.set_cons_succ])
  (repeat ((first | (refine wpSeq_take (v := ?_) rfl (by rfl) (fun wq hSq => ?_) ?_; rotate_left; (focus ((try dsimp only at hSq); go_simp; try with_reducible rfl))) | refine wpSeq_skip rfl (by rfl) ?_); simp only [Act.put, List.setIfInBounds_toArray, List.set_cons_zero, List.set_cons_succ]))
  (refine wpSeq_do rfl (by rfl) (fun KK hK => ?_); go_simp)
  refine (g_get _ _).mono ?_; rintro e u ⟨g, n, c, rfl, h⟩; replace A := Lib.hid (A.out.more h.out); clear h
  refine hK.out _ _ (HB.out _ A.out.bl) ?_
  (clear hK KK; try simp only [Act.put, List.setIfInBounds_toArray, List.set_cons_zero, List.set_cons_succ])
  (repeat ((first | (refine wpSeq_take (v := ?_) rfl (by rfl) (fun wq hSq => ?_) ?_; rotate_left; (focus ((try dsimp only at hSq); go_simp; try with_reducible rfl))) | refine wpSeq_skip rfl (by rfl) ?_); simp only [Act.put, List.setIfInBounds_toArray, List.set_cons_zero, List.set_cons_succ]))
  (refine wpSeq_do rfl (by rfl) (fun KK hK => ?_); go_simp)
  refine (g_to _ _ _).mono ?_; rintro e u ⟨g, n, c, rfl, h⟩; replace A := Lib.hid (A.out.more h.out); clear h
  refine hK.out _ _ (HB.out _ A.out.bl) ?_
  (clear hK KK; try simp only [Act.put, List.setIfInBounds_toArray, List.set_cons_zero, List.set_cons_succ])
  (repeat ((first | (refine wpSeq_take (v := ?_) rfl (by rfl) (fun wq hSq => ?_) ?_; rotate_left; (focus ((try dsimp only at hSq); go_simp; try with_reducible rfl))) | refine wpSeq_skip rfl (by rfl) ?_); simp only [Act.put, List.setIfInBounds_toArray, List.set_cons_zero, List.set_cons_succ]))
  (refine wpSeq_do rfl (by rfl) (fun KK hK => ?_); go_simp)
  refine (g_goTo hB hR _).mono ?_; rintro e u ⟨g, n, c, rfl, h⟩; replace A := Lib.hid (A.out.more h.out); clear h
  refine hK.out _ _ (HB.out _ A.out.bl) ?_
  (clear hK KK; try simp only [Act.put, List.setIfInBounds_toArray, List.set_cons_zero, List.set_cons_succ])
  (repeat ((first | (refine wpSeq_take (v := ?_) rfl (by rfl) (fun wq hSq => ?_) ?_; rotate_left; (focus ((try dsimp only at hSq); go_simp; try with_reducible rfl))) | refine wpSeq_skip rfl (by rfl) ?_); simp only [Act.put, List.setIfInBounds_toArray, List.set_cons_zero, List.set_cons_succ]))
  (refine wpSeq_do rfl (by rfl) (fun KK hK => ?_); go_simp)
  refine (join_parts (HP.out.on A.out.bl) HK.out H0.out H1.out H2.out).mono ?_; rintro e u ⟨g, n, c, rfl, h⟩; replace A := Lib.hid (A.out.more h.out); have HJ := Lib.hid (And.intro H0.out H3.out); clear h HP HK H0 H1 H2 H3
  refine hK.out _ _ (HB.out _ A.out.bl) ?_
  (clear hK KK; try simp only [Act.put, List.setIfInBounds_toArray, List.set_cons_zero, List.set_cons_succ])
  (repeat ((first | (refine wpSeq_take (v := ?_) rfl (by rfl) (fun wq hSq => ?_) ?_; rotate_left; (focus ((try dsimp only at hSq); go_simp; try with_reducible rfl))) | refine wpSeq_skip rfl (by rfl) ?_); simp only [Act.put, List.setIfInBounds_toArray, List.set_cons_zero, List.set_cons_succ]))
  (refine wpSeq_do rfl (by rfl) (fun KK hK => ?_); go_simp)
  refine (g_cell _ _ _).mono ?_; rintro e u ⟨g, n, c, rfl, h⟩; replace A := Lib.hid (A.out.more h.out); clear h
  refine hK.out _ _ (HB.out _ A.out.bl) ?_
  (clear hK KK; try simp only [Act.put, List.setIfInBounds_toArray, List.set_cons_zero, List.set_cons_succ])
  (repeat ((first | (refine wpSeq_take (v := ?_) rfl (by rfl) (fun wq hSq => ?_) ?_; rotate_left; (focus ((try dsimp only at hSq); go_simp; try with_reducible rfl))) | refine wpSeq_skip rfl (by rfl) ?_); simp only [Act.put, List.setIfInBounds_toArray, List.set_cons_zero, List.set_cons_succ]))
  (refine wpSeq_do rfl (by rfl) (fun KK hK => ?_); go_simp)
  refine (g_set _ _).mono ?_; rintro e u ⟨g, n, c, rfl, h⟩; replace A := Lib.hid (A.out.more h.out); clear h
  refine hK.out _ _ (HB.out _ A.out.bl) ?_
  (clear hK KK; try simp only [Act.put, List.setIfInBounds_toArray, List.set_cons_zero, List.set_cons_succ])
  (repeat ((first | (refine wpSeq_take (v := ?_) rfl (by rfl) (fun wq hSq => ?_) ?_; rotate_left; (focus ((try dsimp only at hSq); go_simp; try with_reducible rfl))) | refine wpSeq_skip rfl (by rfl) ?_); simp only [Act.put, List.setIfInBounds_toArray, List.set_cons_zero, List.set_cons_succ]))
  (refine wpSeq_do rfl (by rfl) (fun KK hK => ?_); go_simp)
  refine (g_to _ _ _).mono ?_; rintro e u ⟨g, n, c, rfl, h⟩; replace A := Lib.hid (A.out.more h.out); clear h
  refine hK.out _ _ (HB.out _ A.out.bl) ?_
  (clear hK KK; try simp only [Act.put, List.setIfInBounds_toArray, List.set_cons_zero, List.set_cons_succ])
  (repeat ((first | (refine wpSeq_take (v := ?_) rfl (by rfl) (fun wq hSq => ?_) ?_; rotate_left; (focus ((try dsimp only at hSq); go_simp; try with_reducible rfl))) | refine wpSeq_skip rfl (by rfl) ?_); simp only [Act.put, List.setIfInBounds_toArray, List.set_cons_zero, List.set_cons_succ]))
  (refine wpSeq_do rfl (by rfl) (fun KK hK => ?_); go_simp)
  refine hK.out _ _ (HB.out _ (A.out.on (bl1 _ _)).bl) ?_
  (clear hK KK; try simp only [Act.put, List.setIfInBounds_toArray, List.set_cons_zero, List.set_cons_succ])
  (repeat ((first | (refine wpSeq_take (v := ?_) rfl (by rfl) (fun wq hSq => ?_) ?_; rotate_left; (focus ((try dsimp only at hSq); go_simp; try with_reducible rfl))) | refine wpSeq_skip rfl (by rfl) ?_); simp only [Act.put, List.setIfInBounds_toArray, List.set_cons_zero, List.set_cons_succ]))
  (refine wpSeq_do rfl (by rfl) (fun KK hK => ?_); go_simp)
  refine (join_acc A.out rfl rfl (by have h7 := HJ.out.2; simp [sumL] at h7; simp [sumL, oTo_len, oMark_len, oGet_len, oSet_len, oCell_len, oGoTo_len, oLinked_len] <;> omega) (by have h7 := HJ.out.2; simp [sumL] at h7; simp [sumL, oTo_len, oMark_len, oGet_len, oSet_len, oCell_len, oGoTo_len, oLinked_len] <;> omega) (Nat.le_of_ble_eq_true rfl)).mono ?_; rintro e u ⟨g, n, c, rfl, hZ⟩; clear A
  refine hK.out _ _ (HB.out _ hZ.out.2) ?_
  (clear hK KK; try simp only [Act.put, List.setIfInBounds_toArray, List.set_cons_zero, List.set_cons_succ])
  (repeat ((first | (refine wpSeq_take (v := ?_) rfl (by rfl) (fun wq hSq => ?_) ?_; rotate_left; (focus ((try dsimp only at hSq); go_simp; try with_reducible rfl))) | refine wpSeq_skip rfl (by rfl) ?_); simp only [Act.put, List.setIfInBounds_toArray, List.set_cons_zero, List.set_cons_succ]))
  refine wpSeq_nil ?_
  go_wp2_with fail
  go_ret
  exact ⟨g, n, c, rfl, hZ.out.1, (bl1 w _).trans (hZ.out.2.mono (by simp))⟩
def oTurn (_B R : Int)  : List O := ([oPush (R), oTwo (3), oPush (1), oTwo (1), oSet (3)]).flatten
set_option maxHeartbeats 1000000 in
set_option maxRecDepth 100000 in
theorem g_turn (hB : 0 ≤ B ∧ B ≤ 256) (hR : 0 ≤ R ∧ R ≤ 16)  (w : World) : Calls Tryd.prog 43 #[.agg #[.int .i64 B, .int .i64 R]] w fun e w' => Gv w (oTurn B R) e w' := by
  have A : Hid (Acc (w.alloc (.cells #[.int .i64 B, .int .i64 R] 33)) (w.alloc (.cells #[.int .i64 B, .int .i64 R] 33)) []) := acc_nil (Below.refl _ _)
  go_enter Tryd.func43, Tryd.ntmps43
  go_wp2_with (first
    | (go_at_call 47; refine (join_acc A.out rfl rfl (Nat.le_of_ble_eq_true rfl) (Nat.le_of_ble_eq_true rfl) (Nat.le_of_ble_eq_true rfl)).mono ?_; rintro e u ⟨g, n, c, rfl, hZ⟩; clear A)
    | (go_at_call 38; refine (g_wide hB hR _).mono ?_; rintro e u ⟨rfl, h⟩; replace A := Lib.hid (A.out.on h); clear h)
    | (go_at_call 24; refine (g_push _ _).mono ?_; rintro e u ⟨g, n, c, rfl, h⟩; replace A := Lib.hid (A.out.more h.out); clear h)
    | (go_at_call 25; refine (g_two _ _).mono ?_; rintro e u ⟨g, n, c, rfl, h⟩; replace A := Lib.hid (A.out.more h.out); clear h)
    | (go_at_call 29; refine (g_set _ _).mono ?_; rintro e u ⟨g, n, c, rfl, h⟩; replace A := Lib.hid (A.out.more h.out); clear h))
  go_ret
  exact ⟨g, n, c, rfl, hZ.out.1, (bl1 w _).trans (hZ.out.2.mono (by simp))⟩
def oSearch (B R : Int)  : List O := ([oBegin B R, oWalk B R (0) (1) ([oLoad (1) (0), oArg (0), oTwo (11), oTo (12) (2), oLoad (1) (0), oArg (0), oTwo (12), oTurn B R])]).flatten
set_option maxHeartbeats 1000000 in
set_option maxRecDepth 100000 in
theorem g_search (hB : 0 ≤ B ∧ B ≤ 256) (hR : 0 ≤ R ∧ R ≤ 16)  (w : World) : Calls Tryd.prog 14 #[.agg #[.int .i64 B, .int .i64 R]] w fun e w' => Gv w (oSearch B R) e w' := by
  have A : Hid (Acc (w.alloc (.cells #[.int .i64 B, .int .i64 R] 33)) ((w.alloc (.cells #[.int .i64 B, .int .i64 R] 33)).drew) []) := acc_nil ((Same.drew _).below _)
  have HB : Hid (∀ u, Below (w.alloc (.cells #[.int .i64 B, .int .i64 R] 33)).heap.size (w.alloc (.cells #[.int .i64 B, .int .i64 R] 33)) u → u.cell? ⟨w.heap.size, 0, none⟩ = some (.int .i64 B) ∧ u.cell? ⟨w.heap.size, 1, none⟩ = some (.int .i64 R)) := fun u k => by
    have := cells2_of ((k.block _ (by simp)).trans (heap_alloc_new w (.cells #[.int .i64 B, .int .i64 R] 33)))
    exact ⟨this.1, this.2.1⟩
  go_enter Tryd.func14, Tryd.ntmps14
  go_wp2_with fail
  refine wp_region_seq (fun u => u.cell? ⟨w.heap.size, 0, none⟩ = some (.int .i64 B) ∧ u.cell? ⟨w.heap.size, 1, none⟩ = some (.int .i64 R)) ((0, true) :: (2, true) :: (10, true) :: (1, false) :: (3, false) :: (4, false) :: (5, false) :: (6, false) :: (7, false) :: (8, false) :: (9, false) :: (11, false) :: (12, false) :: (13, false) :: (14, false) :: (15, false) :: (16, true) :: []) follows (by kernel_rfl) (fun _ _ _ _ _ h => h) (HB.out _ ((Same.drew _).below _)) ?_
  (repeat ((first | (refine wpSeq_take (v := ?_) rfl (by rfl) (fun wq hSq => ?_) ?_; rotate_left; (focus ((try dsimp only at hSq); go_simp; try with_reducible rfl))) | refine wpSeq_skip rfl (by rfl) ?_); simp only [Act.put, List.setIfInBounds_toArray, List.set_cons_zero, List.set_cons_succ]))
  (refine wpSeq_do rfl (by rfl) (fun KK hK => ?_); go_simp)
  refine (g_begin hB hR _).mono ?_; rintro e u ⟨g, n, c, rfl, h⟩; replace A := Lib.hid (A.out.more h.out); clear h
  refine hK.out _ _ (HB.out _ A.out.bl) ?_
  (clear hK KK; try simp only [Act.put, List.setIfInBounds_toArray, List.set_cons_zero, List.set_cons_succ])
  (repeat ((first | (refine wpSeq_take (v := ?_) rfl (by rfl) (fun wq hSq => ?_) ?_; rotate_left; (focus ((try dsimp only at hSq); go_simp; try with_reducible rfl))) | refine wpSeq_skip rfl (by rfl) ?_); simp only [Act.put, List.setIfInBounds_toArray, List.set_cons_zero, List.set_cons_succ]))
  (refine wpSeq_do rfl (by rfl) (fun KK hK => ?_); go_simp)
  refine (g_load _ _ _).mono ?_; rintro e u ⟨g, n, c, rfl, h⟩; replace A := Lib.hid (A.out.more h.out); clear h
  refine hK.out _ _ (HB.out _ A.out.bl) ?_
  (clear hK KK; try simp only [Act.put, List.setIfInBounds_toArray, List.set_cons_zero, List.set_cons_succ])
  (repeat ((first | (refine wpSeq_take (v := ?_) rfl (by rfl) (fun wq hSq => ?_) ?_; rotate_left; (focus ((try dsimp only at hSq); go_simp; try with_reducible rfl))) | refine wpSeq_skip rfl (by rfl) ?_); simp only [Act.put, List.setIfInBounds_toArray, List.set_cons_zero, List.set_cons_succ]))
  (refine wpSeq_do rfl (by rfl) (fun KK hK => ?_); go_simp)
  refine (g_arg _ _).mono ?_; rintro e u ⟨g, n, c, rfl, h⟩; replace A := Lib.hid (A.out.more h.out); clear h
  refine hK.out _ _ (HB.out _ A.out.bl) ?_
  (clear hK KK; try simp only [Act.put, List.setIfInBounds_toArray, List.set_cons_zero, List.set_cons_succ])
  (repeat ((first | (refine wpSeq_take (v := ?_) rfl (by rfl) (fun wq hSq => ?_) ?_; rotate_left; (focus ((try dsimp only at hSq); go_simp; try with_reducible rfl))) | refine wpSeq_skip rfl (by rfl) ?_); simp only [Act.put, List.setIfInBounds_toArray, List.set_cons_zero, List.set_cons_succ]))
  (refine wpSeq_do rfl (by rfl) (fun KK hK => ?_); go_simp)
  refine (g_two _ _).mono ?_; rintro e u ⟨g, n, c, rfl, h⟩; replace A := Lib.hid (A.out.more h.out); clear h
  refine hK.out _ _ (HB.out _ A.out.bl) ?_
  (clear hK KK; try simp only [Act.put, List.setIfInBounds_toArray, List.set_cons_zero, List.set_cons_succ])
  (repeat ((first | (refine wpSeq_take (v := ?_) rfl (by rfl) (fun wq hSq => ?_) ?_; rotate_left; (focus ((try dsimp only at hSq); go_simp; try with_reducible rfl))) | refine wpSeq_skip rfl (by rfl) ?_); simp only [Act.put, List.setIfInBounds_toArray, List.set_cons_zero, List.set_cons_succ]))
  (refine wpSeq_do rfl (by rfl) (fun KK hK => ?_); go_simp)
  refine (g_to _ _ _).mono ?_; rintro e u ⟨g, n, c, rfl, h⟩; replace A := Lib.hid (A.out.more h.out); clear h
  refine hK.out _ _ (HB.out _ A.out.bl) ?_
  (clear hK KK; try simp only [Act.put, List.setIfInBounds_toArray, List.set_cons_zero, List.set_cons_succ])
  (repeat ((first | (refine wpSeq_take (v := ?_) rfl (by rfl) (fun wq hSq => ?_) ?_; rotate_left; (focus ((try dsimp only at hSq); go_simp; try with_reducible rfl))) | refine wpSeq_skip rfl (by rfl) ?_); simp only [Act.put, List.setIfInBounds_toArray, List.set_cons_zero, List.set_cons_succ]))
  (refine wpSeq_do rfl (by rfl) (fun KK hK => ?_); go_simp)
  refine (g_load _ _ _).mono ?_; rintro e u ⟨g, n, c, rfl, h⟩; replace A := Lib.hid (A.out.more h.out); clear h
  refine hK.out _ _ (HB.out _ A.out.bl) ?_
  (clear hK KK; try simp only [Act.put, List.setIfInBounds_toArray, List.set_cons_zero, List.set_cons_succ])
  (repeat ((first | (refine wpSeq_take (v := ?_) rfl (by rfl) (fun wq hSq => ?_) ?_; rotate_left; (focus ((try dsimp only at hSq); go_simp; try with_reducible rfl))) | refine wpSeq_skip rfl (by rfl) ?_); simp only [Act.put, List.setIfInBounds_toArray, List.set_cons_zero, List.set_cons_succ]))
  (refine wpSeq_do rfl (by rfl) (fun KK hK => ?_); go_simp)
  refine (g_arg _ _).mono ?_; rintro e u ⟨g, n, c, rfl, h⟩; replace A := Lib.hid (A.out.more h.out); clear h
  refine hK.out _ _ (HB.out _ A.out.bl) ?_
  (clear hK KK; try simp only [Act.put, List.setIfInBounds_toArray, List.set_cons_zero, List.set_cons_succ])
  (repeat ((first | (refine wpSeq_take (v := ?_) rfl (by rfl) (fun wq hSq => ?_) ?_; rotate_left; (focus ((try dsimp only at hSq); go_simp; try with_reducible rfl))) | refine wpSeq_skip rfl (by rfl) ?_); simp only [Act.put, List.setIfInBounds_toArray, List.set_cons_zero, List.set_cons_succ]))
  (refine wpSeq_do rfl (by rfl) (fun KK hK => ?_); go_simp)
  refine (g_two _ _).mono ?_; rintro e u ⟨g, n, c, rfl, h⟩; replace A := Lib.hid (A.out.more h.out); clear h
  refine hK.out _ _ (HB.out _ A.out.bl) ?_
  (clear hK KK; try simp only [Act.put, List.setIfInBounds_toArray, List.set_cons_zero, List.set_cons_succ])
  (repeat ((first | (refine wpSeq_take (v := ?_) rfl (by rfl) (fun wq hSq => ?_) ?_; rotate_left; (focus ((try dsimp only at hSq); go_simp; try with_reducible rfl))) | refine wpSeq_skip rfl (by rfl) ?_); simp only [Act.put, List.setIfInBounds_toArray, List.set_cons_zero, List.set_cons_succ]))
  (refine wpSeq_do rfl (by rfl) (fun KK hK => ?_); go_simp)
  refine (g_turn hB hR _).mono ?_; rintro e u ⟨g, n, c, rfl, h⟩; replace A := Lib.hid (A.out.more h.out); clear h
  refine hK.out _ _ (HB.out _ A.out.bl) ?_
  (clear hK KK; try simp only [Act.put, List.setIfInBounds_toArray, List.set_cons_zero, List.set_cons_succ])
  (repeat ((first | (refine wpSeq_take (v := ?_) rfl (by rfl) (fun wq hSq => ?_) ?_; rotate_left; (focus ((try dsimp only at hSq); go_simp; try with_reducible rfl))) | refine wpSeq_skip rfl (by rfl) ?_); simp only [Act.put, List.setIfInBounds_toArray, List.set_cons_zero, List.set_cons_succ]))
  (refine wpSeq_do rfl (by rfl) (fun KK hK => ?_); go_simp)
  refine hK.out _ _ (HB.out _ (A.out.on (bl1 _ _)).bl) ?_
  (clear hK KK; try simp only [Act.put, List.setIfInBounds_toArray, List.set_cons_zero, List.set_cons_succ])
  (repeat ((first | (refine wpSeq_take (v := ?_) rfl (by rfl) (fun wq hSq => ?_) ?_; rotate_left; (focus ((try dsimp only at hSq); go_simp; try with_reducible rfl))) | refine wpSeq_skip rfl (by rfl) ?_); simp only [Act.put, List.setIfInBounds_toArray, List.set_cons_zero, List.set_cons_succ]))
  (refine wpSeq_do rfl (by rfl) (fun KK hK => ?_); go_simp)
  refine (g_walk hB hR ((A.out.take 8).parts rfl) rfl (Nat.le_of_ble_eq_true rfl) (Nat.le_of_ble_eq_true rfl) (Nat.le_of_ble_eq_true rfl) _ _).mono ?_; rintro e u ⟨g, n, c, rfl, h⟩; replace A := Lib.hid ((A.out.drop 8).over h.out); clear h
  refine hK.out _ _ (HB.out _ A.out.bl) ?_
  (clear hK KK; try simp only [Act.put, List.setIfInBounds_toArray, List.set_cons_zero, List.set_cons_succ])
  (repeat ((first | (refine wpSeq_take (v := ?_) rfl (by rfl) (fun wq hSq => ?_) ?_; rotate_left; (focus ((try dsimp only at hSq); go_simp; try with_reducible rfl))) | refine wpSeq_skip rfl (by rfl) ?_); simp only [Act.put, List.setIfInBounds_toArray, List.set_cons_zero, List.set_cons_succ]))
  (refine wpSeq_do rfl (by rfl) (fun KK hK => ?_); go_simp)
  refine hK.out _ _ (HB.out _ (A.out.on (bl1 _ _)).bl) ?_
  (clear hK KK; try simp only [Act.put, List.setIfInBounds_toArray, List.set_cons_zero, List.set_cons_succ])
  (repeat ((first | (refine wpSeq_take (v := ?_) rfl (by rfl) (fun wq hSq => ?_) ?_; rotate_left; (focus ((try dsimp only at hSq); go_simp; try with_reducible rfl))) | refine wpSeq_skip rfl (by rfl) ?_); simp only [Act.put, List.setIfInBounds_toArray, List.set_cons_zero, List.set_cons_succ]))
  (refine wpSeq_do rfl (by rfl) (fun KK hK => ?_); go_simp)
  refine (join_acc A.out rfl rfl (Nat.le_of_ble_eq_true rfl) (Nat.le_of_ble_eq_true rfl) (Nat.le_of_ble_eq_true rfl)).mono ?_; rintro e u ⟨g, n, c, rfl, hZ⟩; clear A
  refine hK.out _ _ (HB.out _ hZ.out.2) ?_
  (clear hK KK; try simp only [Act.put, List.setIfInBounds_toArray, List.set_cons_zero, List.set_cons_succ])
  (repeat ((first | (refine wpSeq_take (v := ?_) rfl (by rfl) (fun wq hSq => ?_) ?_; rotate_left; (focus ((try dsimp only at hSq); go_simp; try with_reducible rfl))) | refine wpSeq_skip rfl (by rfl) ?_); simp only [Act.put, List.setIfInBounds_toArray, List.set_cons_zero, List.set_cons_succ]))
  refine wpSeq_nil ?_
  go_wp2_with fail
  go_ret
  exact ⟨g, n, c, rfl, hZ.out.1, (bl1 w _).trans (hZ.out.2.mono (by simp))⟩
def oRelink (_B _R : Int) (Ls : List (List O)) : List O := ([oGet (2), oRead, (Ls).flatten, oGet (3), oTwo (3), oTwo (1), oGet (2), oWrite]).flatten
set_option maxHeartbeats 1000000 in
set_option maxRecDepth 100000 in
theorem g_relink (_hB : 0 ≤ B ∧ B ≤ 256) (_hR : 0 ≤ R ∧ R ≤ 16) {b k cc : Nat} {Ls : List (List O)} (hp : Parts w b Ls) (hk : Ls.length = k) (h0 : 0 < sumL Ls) (h1 : sumL Ls ≤ 100) (h2 : k ≤ 4096)  : Calls Tryd.prog 33 #[.agg #[.int .i64 B, .int .i64 R], .slice (some ⟨b, 0, none⟩) k cc] w fun e w' => Gv w (oRelink B R Ls) e w' := by
  have HP : Hid (Parts (w.alloc (.cells #[.int .i64 B, .int .i64 R] 33)) b Ls) := hp.on (bl1 _ _)
  have HK := Lib.hid hk
  have H0 := Lib.hid h0
  have H1 : Hid (sumL Ls ≤ 4096) := Nat.le_trans h1 (by decide)
  have H3 := Lib.hid h1
  have H2 := Lib.hid h2
  clear hp hk h0 h1 h2
  have A : Hid (Acc (w.alloc (.cells #[.int .i64 B, .int .i64 R] 33)) (w.alloc (.cells #[.int .i64 B, .int .i64 R] 33)) []) := acc_nil (Below.refl _ _)
  go_enter Tryd.func33, Tryd.ntmps33
  go_wp2_with (first
    | (go_at_call 47; refine (join_parts (HP.out.on A.out.bl) HK.out H0.out H1.out H2.out).mono ?_; rintro e u ⟨g, n, c, rfl, h⟩; replace A := Lib.hid (A.out.more h.out); have HJ := Lib.hid (And.intro H0.out H3.out); clear h HP HK H0 H1 H2 H3)
    | (go_at_call 47; refine (join_acc A.out rfl rfl (by have h7 := HJ.out.2; simp [sumL] at h7; simp [sumL, oTwo_len, oGet_len, oRead_len, oWrite_len] <;> omega) (by have h7 := HJ.out.2; simp [sumL] at h7; simp [sumL, oTwo_len, oGet_len, oRead_len, oWrite_len] <;> omega) (Nat.le_of_ble_eq_true rfl)).mono ?_; rintro e u ⟨g, n, c, rfl, hZ⟩; clear A)
    | (go_at_call 30; refine (g_get _ _).mono ?_; rintro e u ⟨g, n, c, rfl, h⟩; replace A := Lib.hid (A.out.more h.out); clear h)
    | (go_at_call 50; refine (g_read _).mono ?_; rintro e u ⟨g, n, c, rfl, h⟩; replace A := Lib.hid (A.out.more h.out); clear h)
    | (go_at_call 25; refine (g_two _ _).mono ?_; rintro e u ⟨g, n, c, rfl, h⟩; replace A := Lib.hid (A.out.more h.out); clear h)
    | (go_at_call 32; refine (g_write _).mono ?_; rintro e u ⟨g, n, c, rfl, h⟩; replace A := Lib.hid (A.out.more h.out); clear h))
  go_ret
  exact ⟨g, n, c, rfl, hZ.out.1, (bl1 w _).trans (hZ.out.2.mono (by simp))⟩
def oGrow (B R : Int) (k : Int) : List O := ([oFolded B R (B + 1), oPush (k), oTwo (1), oPush (B + 1), oWrite]).flatten
set_option maxHeartbeats 1000000 in
set_option maxRecDepth 100000 in
theorem g_grow (hB : 0 ≤ B ∧ B ≤ 256) (hR : 0 ≤ R ∧ R ≤ 16) (k : Int) (w : World) : Calls Tryd.prog 34 #[.agg #[.int .i64 B, .int .i64 R], .int .i64 k] w fun e w' => Gv w (oGrow B R k) e w' := by
  have A : Hid (Acc (w.alloc (.cells #[.int .i64 B, .int .i64 R] 33)) ((w.alloc (.cells #[.int .i64 B, .int .i64 R] 33)).drew) []) := acc_nil ((Same.drew _).below _)
  have HB : Hid (∀ u, Below (w.alloc (.cells #[.int .i64 B, .int .i64 R] 33)).heap.size (w.alloc (.cells #[.int .i64 B, .int .i64 R] 33)) u → u.cell? ⟨w.heap.size, 0, none⟩ = some (.int .i64 B) ∧ u.cell? ⟨w.heap.size, 1, none⟩ = some (.int .i64 R)) := fun u k => by
    have := cells2_of ((k.block _ (by simp)).trans (heap_alloc_new w (.cells #[.int .i64 B, .int .i64 R] 33)))
    exact ⟨this.1, this.2.1⟩
  go_enter Tryd.func34, Tryd.ntmps34
  go_wp2_with fail
  refine wp_region_seq (fun u => u.cell? ⟨w.heap.size, 0, none⟩ = some (.int .i64 B) ∧ u.cell? ⟨w.heap.size, 1, none⟩ = some (.int .i64 R)) ((0, true) :: (1, true) :: (4, true) :: (7, true) :: (2, false) :: (3, false) :: (5, false) :: (6, false) :: (8, false) :: (9, false) :: (10, false) :: (11, false) :: (12, false) :: (13, true) :: []) follows (by kernel_rfl) (fun _ _ _ _ _ h => h) (HB.out _ ((Same.drew _).below _)) ?_
  (repeat ((first | (refine wpSeq_take (v := ?_) rfl (by rfl) (fun wq hSq => ?_) ?_; rotate_left; (focus ((try dsimp only at hSq); go_simp; try with_reducible rfl))) | refine wpSeq_skip rfl (by rfl) ?_); simp only [Act.put, List.setIfInBounds_toArray, List.set_cons_zero, List.set_cons_succ]))
  (refine wpSeq_do rfl (by rfl) (fun KK hK => ?_); go_simp)
  refine (g_count hB hR _).mono ?_; rintro e u ⟨rfl, h⟩; replace A := Lib.hid (A.out.on h); clear h
  refine hK.out _ _ (HB.out _ A.out.bl) ?_
  (clear hK KK; try simp only [Act.put, List.setIfInBounds_toArray, List.set_cons_zero, List.set_cons_succ])
  (repeat ((first | (refine wpSeq_take (v := ?_) rfl (by rfl) (fun wq hSq => ?_) ?_; rotate_left; (focus ((try dsimp only at hSq); go_simp; try with_reducible rfl))) | refine wpSeq_skip rfl (by rfl) ?_); simp only [Act.put, List.setIfInBounds_toArray, List.set_cons_zero, List.set_cons_succ]))
  (refine wpSeq_do rfl (by rfl) (fun KK hK => ?_); go_simp)
  refine (g_folded hB hR _ _).mono ?_; rintro e u ⟨g, n, c, rfl, h⟩; replace A := Lib.hid (A.out.more h.out); clear h
  refine hK.out _ _ (HB.out _ A.out.bl) ?_
  (clear hK KK; try simp only [Act.put, List.setIfInBounds_toArray, List.set_cons_zero, List.set_cons_succ])
  (repeat ((first | (refine wpSeq_take (v := ?_) rfl (by rfl) (fun wq hSq => ?_) ?_; rotate_left; (focus ((try dsimp only at hSq); go_simp; try with_reducible rfl))) | refine wpSeq_skip rfl (by rfl) ?_); simp only [Act.put, List.setIfInBounds_toArray, List.set_cons_zero, List.set_cons_succ]))
  (refine wpSeq_do rfl (by rfl) (fun KK hK => ?_); go_simp)
  refine (g_push _ _).mono ?_; rintro e u ⟨g, n, c, rfl, h⟩; replace A := Lib.hid (A.out.more h.out); clear h
  refine hK.out _ _ (HB.out _ A.out.bl) ?_
  (clear hK KK; try simp only [Act.put, List.setIfInBounds_toArray, List.set_cons_zero, List.set_cons_succ])
  (repeat ((first | (refine wpSeq_take (v := ?_) rfl (by rfl) (fun wq hSq => ?_) ?_; rotate_left; (focus ((try dsimp only at hSq); go_simp; try with_reducible rfl))) | refine wpSeq_skip rfl (by rfl) ?_); simp only [Act.put, List.setIfInBounds_toArray, List.set_cons_zero, List.set_cons_succ]))
  (refine wpSeq_do rfl (by rfl) (fun KK hK => ?_); go_simp)
  refine (g_two _ _).mono ?_; rintro e u ⟨g, n, c, rfl, h⟩; replace A := Lib.hid (A.out.more h.out); clear h
  refine hK.out _ _ (HB.out _ A.out.bl) ?_
  (clear hK KK; try simp only [Act.put, List.setIfInBounds_toArray, List.set_cons_zero, List.set_cons_succ])
  (repeat ((first | (refine wpSeq_take (v := ?_) rfl (by rfl) (fun wq hSq => ?_) ?_; rotate_left; (focus ((try dsimp only at hSq); go_simp; try with_reducible rfl))) | refine wpSeq_skip rfl (by rfl) ?_); simp only [Act.put, List.setIfInBounds_toArray, List.set_cons_zero, List.set_cons_succ]))
  (refine wpSeq_do rfl (by rfl) (fun KK hK => ?_); go_simp)
  refine (g_count hB hR _).mono ?_; rintro e u ⟨rfl, h⟩; replace A := Lib.hid (A.out.on h); clear h
  refine hK.out _ _ (HB.out _ A.out.bl) ?_
  (clear hK KK; try simp only [Act.put, List.setIfInBounds_toArray, List.set_cons_zero, List.set_cons_succ])
  (repeat ((first | (refine wpSeq_take (v := ?_) rfl (by rfl) (fun wq hSq => ?_) ?_; rotate_left; (focus ((try dsimp only at hSq); go_simp; try with_reducible rfl))) | refine wpSeq_skip rfl (by rfl) ?_); simp only [Act.put, List.setIfInBounds_toArray, List.set_cons_zero, List.set_cons_succ]))
  (refine wpSeq_do rfl (by rfl) (fun KK hK => ?_); go_simp)
  refine (g_push _ _).mono ?_; rintro e u ⟨g, n, c, rfl, h⟩; replace A := Lib.hid (A.out.more h.out); clear h
  refine hK.out _ _ (HB.out _ A.out.bl) ?_
  (clear hK KK; try simp only [Act.put, List.setIfInBounds_toArray, List.set_cons_zero, List.set_cons_succ])
  (repeat ((first | (refine wpSeq_take (v := ?_) rfl (by rfl) (fun wq hSq => ?_) ?_; rotate_left; (focus ((try dsimp only at hSq); go_simp; try with_reducible rfl))) | refine wpSeq_skip rfl (by rfl) ?_); simp only [Act.put, List.setIfInBounds_toArray, List.set_cons_zero, List.set_cons_succ]))
  (refine wpSeq_do rfl (by rfl) (fun KK hK => ?_); go_simp)
  refine (g_write _).mono ?_; rintro e u ⟨g, n, c, rfl, h⟩; replace A := Lib.hid (A.out.more h.out); clear h
  refine hK.out _ _ (HB.out _ A.out.bl) ?_
  (clear hK KK; try simp only [Act.put, List.setIfInBounds_toArray, List.set_cons_zero, List.set_cons_succ])
  (repeat ((first | (refine wpSeq_take (v := ?_) rfl (by rfl) (fun wq hSq => ?_) ?_; rotate_left; (focus ((try dsimp only at hSq); go_simp; try with_reducible rfl))) | refine wpSeq_skip rfl (by rfl) ?_); simp only [Act.put, List.setIfInBounds_toArray, List.set_cons_zero, List.set_cons_succ]))
  (refine wpSeq_do rfl (by rfl) (fun KK hK => ?_); go_simp)
  refine hK.out _ _ (HB.out _ (A.out.on (bl1 _ _)).bl) ?_
  (clear hK KK; try simp only [Act.put, List.setIfInBounds_toArray, List.set_cons_zero, List.set_cons_succ])
  (repeat ((first | (refine wpSeq_take (v := ?_) rfl (by rfl) (fun wq hSq => ?_) ?_; rotate_left; (focus ((try dsimp only at hSq); go_simp; try with_reducible rfl))) | refine wpSeq_skip rfl (by rfl) ?_); simp only [Act.put, List.setIfInBounds_toArray, List.set_cons_zero, List.set_cons_succ]))
  (refine wpSeq_do rfl (by rfl) (fun KK hK => ?_); go_simp)
  refine (join_acc A.out rfl rfl (Nat.le_of_ble_eq_true rfl) (Nat.le_of_ble_eq_true rfl) (Nat.le_of_ble_eq_true rfl)).mono ?_; rintro e u ⟨g, n, c, rfl, hZ⟩; clear A
  refine hK.out _ _ (HB.out _ hZ.out.2) ?_
  (clear hK KK; try simp only [Act.put, List.setIfInBounds_toArray, List.set_cons_zero, List.set_cons_succ])
  (repeat ((first | (refine wpSeq_take (v := ?_) rfl (by rfl) (fun wq hSq => ?_) ?_; rotate_left; (focus ((try dsimp only at hSq); go_simp; try with_reducible rfl))) | refine wpSeq_skip rfl (by rfl) ?_); simp only [Act.put, List.setIfInBounds_toArray, List.set_cons_zero, List.set_cons_succ]))
  refine wpSeq_nil ?_
  go_wp2_with fail
  go_ret
  exact ⟨g, n, c, rfl, hZ.out.1, (bl1 w _).trans (hZ.out.2.mono (by simp))⟩
end
end Go.Proofs.YthnpgbmagfhgpaaDoor.Tr
namespace Go.Proofs.YthnpgbmagfhgpaaDoor.As
open Go.ChangeShapes Go.WideShapes Go.ChangeAt Go.RowKit Num Go.Maps
attribute [local go_sem] run_store_float frombits_run bits_run
def On (w u : World) (b : Nat) (s : Bs) : Prop := ∃ F, Bld u b F s ∧ Abv w.heap.size F ∧ Below w.heap.size w u
section
variable {w u u' : World} {b : Nat} {s s' : Bs}
theorem on_turn {F F' : List Nat} (a : Abv w.heap.size F) (k : Below w.heap.size w u) (h' : Bld u' b F' s') (t : Turn F F' u u') : On w u' b s' := ⟨F', h', a.turn k.size t, k.trans (t.below a k.size)⟩
theorem On.label (h : On w u b s) : Calls Tryd.prog 46 #[.pointer (some ⟨b, 0, none⟩)] u fun e w' => e = .returned (.int .i64 s.labV) ∧ Hid (On w w' b s.lab) := by
  obtain ⟨F, h1, h2, h3⟩ := h
  refine (label_any h1).mono ?_
  rintro e w' ⟨F', rfl, q, t⟩
  exact ⟨rfl, on_turn h2 h3 q t⟩
theorem On.on (h : On w u b s) (k : Below u.heap.size u u') : On w u' b s := by
  obtain ⟨F, h1, h2, h3⟩ := h
  exact ⟨F, h1.on k, h2, h3.trans (k.mono h3.size)⟩
theorem new_on (w u : World) (k : Below w.heap.size w u) (t : Int) : Calls Tryd.prog 45 #[.int .i64 t] u fun e w' => ∃ b, e = .returned (.pointer (some ⟨b, 0, none⟩)) ∧ Hid (On w w' b (new t)) := by
  refine (new_any t u).mono ?_
  rintro e w' ⟨b, F, rfl, h1, h2, h3⟩
  exact ⟨b, rfl, F, h1, h2.mono k.size, k.trans (h3.mono k.size)⟩
theorem On.prog (h : On w u b s) (hT : Shaped5 w) (hl : s.code.length < lim) (hwf : ∀ l, hasM s.marks l = true → Wf l) : Calls Tryd.prog 49 #[.pointer (some ⟨b, 0, none⟩)] u fun e w' => ∃ t p n c, e = .returned (.tuple #[.agg #[.int .i64 t, .slice p n c], .int .i64 s.ans]) ∧ Hid (PrE u w' s t p n c ∧ On w w' b s) := by
  have h0 := h
  obtain ⟨F, h1, h2, h3⟩ := h
  refine (prog_any h1 (hT.on h3) hl hwf).mono ?_
  rintro e w' ⟨t, p, n, c, rfl, q⟩
  exact ⟨t, p, n, c, rfl, q.out, h0.on q.out.1⟩
end
end Go.Proofs.YthnpgbmagfhgpaaDoor.As
