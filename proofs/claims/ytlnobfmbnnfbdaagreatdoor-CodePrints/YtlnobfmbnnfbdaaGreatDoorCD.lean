import Derived.Test.YtlnobfmbnnfbdaaGreatDoorCP
import Derived.Test.YtlnobfmbnnfbdaaGreatDoorC7
import Derived.Laws.IdiomStrings
namespace Go.Proofs.YtlnobfmbnnfbdaaGreatDoor
open Go.ChangeShapes Go.WideShapes Go.ChangeAt Go.RowKit Num
attribute [local go_sem] run_store_float

theorem conv1 (u : World) (b : Nat) (c : UInt8) (z : Int) (hz : z = c.toNat) (h : u.heap[b]? = some (.cells #[.int .u8 z] 5 (0, 0))) : (convert 55 9 (.slice (some ⟨b, 0, none⟩) 1 1)).run Tryz.prog u = .ok (.string ⟨#[c]⟩) u := by
  have := run_convert_bytes_back (P := Tryz.prog) u 55 9 5 ⟨b, 0, none⟩ 1 [c] Tryz.underlying55 Tryz.underlying5 Tryz.underlying9 (fun j hj => by
    obtain rfl : j = 0 := by simpa using hj
    rw [Lib.add_plain, cell_of_row u b _ _ _ _ h]
    simp [hz])
  exact this
theorem dec_one {n : Nat} (h : n < 10) : Lib.decDigits n = [UInt8.ofNat (48 + n)] := Lib.decDigits_one h
theorem dec_more {n : Nat} (h : ¬ n < 10) : Lib.decDigits n = Lib.decDigits (n / 10) ++ [UInt8.ofNat (48 + n % 10)] := by rw [Lib.decDigits, dif_neg h]
theorem byte_nat {n : Nat} (h : n < 10) : (48 + (n : Int)) = ((UInt8.ofNat (48 + n)).toNat : Int) := by
  have : (UInt8.ofNat (48 + n)).toNat = 48 + n := by simp; omega
  rw [this]
  omega
set_option maxHeartbeats 2000000 in
set_option maxRecDepth 100000 in
theorem digits_any : ∀ (m n : Nat), n < 10 ^ (m + 1) → m < 5 → ∀ w : World, Calls Tryz.prog 47 #[.int .i64 n] w fun e w' => e = .returned (.string ⟨(Lib.decDigits n).toArray⟩) ∧ Below w.heap.size w w'
  | m, n, hm, hm5, w => by
    by_cases hn : n < 10
    · have h10 : (n : Int) < 10 := by omega
      have hcv := conv1 (w.alloc (.cells #[.int .u8 (48 + (n : Int))] 5)) w.heap.size _ _ (byte_nat hn) (heap_alloc_new _ _)
      rw [dec_one hn]
      generalize UInt8.ofNat (48 + n) = ch at hcv ⊢
      clear hm hm5
      go_enter Tryz.func47, Tryz.ntmps47
      go_wp2
      go_ret
      exact ⟨rfl, box5 _ _⟩
    · cases m with
      | zero => exact absurd hm (by omega)
      | succ m =>
        have h10 : ¬ (n : Int) < 10 := by omega
        have hn6 : n < 1000000 := by
          have : 10 ^ (m + 1 + 1) ≤ 10 ^ 5 := Nat.pow_le_pow_right (by decide) (by omega)
          omega
        have ih := digits_any m (n / 10) (by
          have : 10 ^ (m + 1 + 1) = 10 * 10 ^ (m + 1) := by rw [Nat.pow_succ]; omega
          omega) (by omega)
        have HD : Hid (∀ (z : Int) (w : World), z = ((n / 10 : Nat) : Int) → Calls Tryz.prog 47 #[.int .i64 z] w fun e w' => e = .returned (.string ⟨(Lib.decDigits (n / 10)).toArray⟩) ∧ Below w.heap.size w w') := fun z w h => by
          rw [h]
          exact ih w
        obtain ⟨v, hv⟩ : ∃ v : Int, v = 48 + ((n % 10 : Nat) : Int) := ⟨_, rfl⟩
        have e1 : IntKind.u8.wrap (IntKind.i64.wrap (48 + (n : Int).tmod 10)) = v := by
          have e2 : (n : Int).tmod 10 = ((n % 10 : Nat) : Int) := by
            rw [Int.tmod_eq_emod_of_nonneg (by omega)]
            omega
          rw [e2, ← hv]
          have h3 : 48 ≤ v ∧ v < 58 := by omega
          rw [IntKind.wrap_i64, IntKind.wrap_u8]
          omega
        have hcv : ∀ (u : World) (b : Nat), u.heap[b]? = some (.cells #[.int .u8 v] 5 (0, 0)) → (convert 55 9 (.slice (some ⟨b, 0, none⟩) 1 1)).run Tryz.prog u = .ok (.string ⟨#[UInt8.ofNat (48 + n % 10)]⟩) u := fun u b h => conv1 u b _ _ (by rw [hv]; exact byte_nat (Nat.mod_lt _ (by decide))) h
        have eq1 : IntKind.i64.wrap ((n : Int) / 10) = ((n / 10 : Nat) : Int) := by
          rw [IntKind.wrap_i64]
          omega
        clear hv
        have EQ1 := Lib.hid eq1
        clear eq1
        have hcn := fun u : World => hcv (u.alloc (.cells #[.int .u8 v] 5)) u.heap.size (heap_alloc_new _ _)
        have hcd := fun u : World => hcv (u.alloc (.cells #[.int .u8 v] 5)).drew u.heap.size (heap_alloc_new _ _)
        have hce := fun (u : World) (k : Nat) => hcv ((u.alloc (.cells #[.int .u8 v] 5)).drewN k) u.heap.size (heap_alloc_new _ _)
        have HCV := Lib.hid hcv
        clear hcv
        have hlen : (Lib.decDigits (n / 10)).length ≤ 5 := by
          rw [Lib.decDigits_length]
          refine nDigits_of_lt 5 _ ?_ (by decide)
          have : 10 ^ (m + 1 + 1) ≤ 10 ^ 5 := Nat.pow_le_pow_right (by decide) (by omega)
          omega
        have z1 : ¬ 9223372036854775807 < (Lib.decDigits (n / 10)).length + 1 := by omega
        rw [dec_more hn]
        generalize UInt8.ofNat (48 + n % 10) = ch at HCV hcn hcd hce ⊢
        generalize Lib.decDigits (n / 10) = dl at HD z1 ⊢
        clear hm hm5 ih hlen
        go_enter Tryz.func47, Tryz.ntmps47
        go_wp2
        go_region_with (go_at_call 47; refine (HD.out _ _ (by first | rfl | exact EQ1.out)).mono ?_; rintro e w' ⟨rfl, hb⟩; (try (have hcw := HCV.out w' w.heap.size ((hb.block w.heap.size (by simp)).trans (heap_alloc_new _ _)))); (try (have hcx := HCV.out w'.drew w.heap.size ((hb.block w.heap.size (by simp)).trans (heap_alloc_new _ _)))); have HB : Hid (Below w.heap.size w w') := (by first | exact hb | exact chain5 (bl_drew (Below.refl _ _)) hb | exact chain5 (box5 _ _) hb | exact chain5 (bl_drew (box5 _ _)) hb | exact chain5 (bl_drewN _ (Below.refl _ _)) hb | exact chain5 (box5n _ _ _) hb); clear hb)
        all_goals go_wp2
        all_goals go_ret
        all_goals exact ⟨congrArg (fun s => Ending.returned (.string s)) (join2 dl [ch]), chain5 HB.out (by repeat (first | exact Below.refl _ _ | apply bl_alloc | apply bl_drewN | apply bl_drew))⟩
end Go.Proofs.YtlnobfmbnnfbdaaGreatDoor
