import Derived.Test.YtlnobfmbnnfbdaaGreatDoorC5
import Derived.Test.YtlnobfmbnnfbdaaGreatDoorCB
import Derived.Test.YtlnobfmbnnfbdaaGreatDoorC2
namespace Go.Proofs.YtlnobfmbnnfbdaaGreatDoor
open Go.ChangeShapes Go.WideShapes Go.ChangeAt Go.RowKit Num
attribute [local go_sem] run_store_float

/-- what all the listed variables hold -/
structure Tabs5 (w : World) : Prop where
  base : Tabs w
  sh : Shaped5 w
  len : ∃ m, w.cell? ⟨5, 0, none⟩ = some (.int .i64 m)
theorem Tabs5.on {w w' : World} (h : Tabs5 w) (hb : Below w.heap.size w w') : Tabs5 w' := by
  obtain ⟨m, hm⟩ := h.len
  exact ⟨h.base.on hb, h.sh.on hb, m, cell_on hm hb⟩
theorem itoa_any (n : Int) (h0 : -9223372036854775808 ≤ n) (h1 : n ≤ 9223372036854775807) (w : World) (hT : Tabs w) :
    Calls Tryz.prog 43 #[.int .i64 n] w fun e w' => e = .returned (.string ⟨(Lib.itoa n).toArray⟩) ∧ Below w.heap.size w w' :=
  (Any.strconv_Itoa Tryz.laysM171 n h0 h1 w hT.pow).mono fun e w' ⟨he, k, os, hw⟩ => ⟨he, by rw [hw]; exact Lib.below_grow _ w (Nat.le_refl _) k os⟩
theorem itoa_dec {n : Int} (h : 0 ≤ n) : Lib.itoa n = Lib.decDigits n.toNat := by unfold Lib.itoa; rw [if_neg (by omega)]
theorem join2 (a b : List UInt8) : (⟨a.toArray⟩ : ByteArray) ++ ⟨b.toArray⟩ = ⟨(a ++ b).toArray⟩ := bytes_eq (by simp [ByteArray.data_append])
theorem join3 (a b : List UInt8) : (⟨a.toArray⟩ : ByteArray) ++ ⟨#[32]⟩ ++ ⟨b.toArray⟩ = ⟨(a ++ 32 :: b).toArray⟩ := by
  have h := join2 a [32]
  have h2 := join2 (a ++ [32]) b
  rw [← h] at h2
  rw [List.append_assoc] at h2
  exact h2
theorem word_len : ∀ k, k < 21 → (shp k).word.length ≤ 6 := by decide +kernel
theorem dec_len {n : Int} (h1 : n ≤ 1023) : (Lib.decDigits n.toNat).length ≤ 4 := by
  rw [Lib.decDigits_length]
  exact nDigits_of_lt 4 _ (by omega) (by decide)
theorem tagLine_any (t : Int) (ht : t = 1 ∨ t = 2) (w : World) : Calls Tryz.prog 29 #[.int .i64 t] w fun e w' => e = .returned (.string ⟨(tagB t).toArray⟩) ∧ w' = w := by
  rcases ht with rfl | rfl
  · go_enter Tryz.func29, Tryz.ntmps29
    go_wp2
    go_ret
    exact ⟨rfl, rfl⟩
  · go_enter Tryz.func29, Tryz.ntmps29
    go_wp2
    go_ret
    exact ⟨rfl, rfl⟩
set_option maxHeartbeats 2000000 in
set_option maxRecDepth 100000 in
theorem instrLine_any (i : Ins) (many : Nat) (w : World) (hT : Tabs5 w) (hm : mayB i many = true) (hx : i.x < 18446744073709551616) : Calls Tryz.prog 31 #[insV i] w fun e w' => e = .returned (.string ⟨(lineI i).toArray⟩) ∧ Below w.heap.size w w' := by
  obtain ⟨h1, h2, h3, h4, _, _⟩ := may_parts hm
  obtain ⟨op, n, x⟩ := i
  obtain ⟨k, rfl⟩ : ∃ k : Nat, op = k := ⟨op.toNat, by simp at h1; omega⟩
  simp only [Int.toNat_natCast] at h1 h2 h3 h4 hx
  have hk : k < 21 := by omega
  have hk' : (k : Int) < 21 := by omega
  unfold insV lineI
  simp only [Int.toNat_natCast]
  obtain ⟨c0, c1, _, _, _, _⟩ := hT.sh.shp k hk
  have hg : 0 < w.heap.size := World.block_lt_of_cell? w _ c0
  have HT := Lib.hid hT
  have HX := Lib.hid hx
  unfold strB at c0
  clear hm hx
  rcases kind_all k hk with e | e | e | e | e | e
  · rw [e] at c1
    rw [e]
    simp only [show ¬ (0 = 1) by decide, show ¬ (0 = 2) by decide, show ¬ (0 = 3) by decide, show ¬ (0 = 4) by decide, show ¬ (0 = 5) by decide, or_self, if_false]
    generalize (shp k).word = wd at *
    clear hT e h3 h4
    go_enter Tryz.func31, Tryz.ntmps31
    go_wp2
    go_ret
    exact ⟨rfl, box5 _ _⟩
  · rw [e] at c1
    rw [e]
    simp only [if_true]
    have hwl := word_len k hk
    have hpl := printT_length (b := x)
    have z1 : ¬ 9223372036854775807 < (shp k).word.length + 1 := by omega
    have z2 : ¬ 9223372036854775807 < (shp k).word.length + 1 + (printT x).length := by omega
    clear hwl hpl
    generalize (shp k).word = wd at *
    clear hT e h3 h4
    go_enter Tryz.func31, Tryz.ntmps31
    go_wp2_with (first
      | (go_at_call 42; refine (print_any x _ HX.out (HT.out.on (box5 _ _)).base).mono ?_; rintro e w' ⟨rfl, hb⟩; have HB := Lib.hid hb; clear hb))
    go_ret
    exact ⟨congrArg (fun s => Ending.returned (.string s)) (join3 _ _), chain5 (box5 _ _) HB.out⟩
  · rw [e] at c1
    rw [e]
    simp only [show ¬ (2 = 1) by decide, if_false, true_or, if_true]
    have hn3 : n ≤ 1023 := by have := kind_2 k hk e; omega
    have hn : 0 ≤ n ∧ n ≤ 9223372036854775807 := by have := kind_2 k hk e; omega
    have HI := Lib.hid (fun w h => itoa_any n (by omega) hn.2 w h)
    rw [itoa_dec hn.1] at HI
    have hwl := word_len k hk
    have hdl := dec_len hn3
    have z1 : ¬ 9223372036854775807 < (shp k).word.length + 1 := by omega
    have z2 : ¬ 9223372036854775807 < (shp k).word.length + 1 + (Lib.decDigits n.toNat).length := by omega
    clear hwl hdl hn3
    generalize (shp k).word = wd at *
    clear hT e h3 h4 hn
    go_enter Tryz.func31, Tryz.ntmps31
    go_wp2_with (first
      | (go_at_call 43; refine (HI.out _ (HT.out.on (box5 _ _)).base).mono ?_; rintro e w' ⟨rfl, hb⟩; have HB := Lib.hid hb; clear hb))
    go_ret
    exact ⟨congrArg (fun s => Ending.returned (.string s)) (join3 _ _), chain5 (box5 _ _) HB.out⟩
  · rw [e] at c1
    rw [e]
    simp only [show ¬ (3 = 1) by decide, if_false, or_true, if_true]
    have hn3 : n ≤ 1023 := by have := kind_3 k hk e; omega
    have hn : 0 ≤ n ∧ n ≤ 9223372036854775807 := by have := kind_3 k hk e; omega
    have HI := Lib.hid (fun w h => itoa_any n (by omega) hn.2 w h)
    rw [itoa_dec hn.1] at HI
    have hwl := word_len k hk
    have hdl := dec_len hn3
    have z1 : ¬ 9223372036854775807 < (shp k).word.length + 1 := by omega
    have z2 : ¬ 9223372036854775807 < (shp k).word.length + 1 + (Lib.decDigits n.toNat).length := by omega
    clear hwl hdl hn3
    generalize (shp k).word = wd at *
    clear hT e h3 h4 hn
    go_enter Tryz.func31, Tryz.ntmps31
    go_wp2_with (first
      | (go_at_call 43; refine (HI.out _ (HT.out.on (box5 _ _)).base).mono ?_; rintro e w' ⟨rfl, hb⟩; have HB := Lib.hid hb; clear hb))
    go_ret
    exact ⟨congrArg (fun s => Ending.returned (.string s)) (join3 _ _), chain5 (box5 _ _) HB.out⟩
  · obtain ⟨rfl, a2, a3⟩ := kind_4 k hk e
    obtain ⟨j, rfl⟩ : ∃ j : Nat, n = j := ⟨n.toNat, by omega⟩
    have hj : (j : Int) < 9 := by omega
    have q := hT.sh.one j (by omega)
    have hg1 : 1 < w.heap.size := World.block_lt_of_cell? w _ q
    rw [e] at c1
    rw [e]
    simp only [show ¬ (4 = 1) by decide, show ¬ (4 = 2) by decide, show ¬ (4 = 3) by decide, or_self, if_false, if_true, Int.toNat_natCast]
    unfold strB at q
    generalize oneW j = wd1 at *
    generalize (shp 9).word = wd at *
    clear hT e h3 h4 a2 a3 hk hk' h1 h2
    go_enter Tryz.func31, Tryz.ntmps31
    go_wp2
    go_ret
    exact ⟨rfl, box5 _ _⟩
  · obtain ⟨rfl, a2, a3⟩ := kind_5 k hk e
    obtain ⟨j, rfl⟩ : ∃ j : Nat, n = j := ⟨n.toNat, by omega⟩
    have hj : (j : Int) < 13 := by omega
    have q := hT.sh.two j (by omega)
    have hg1 : 2 < w.heap.size := World.block_lt_of_cell? w _ q
    rw [e] at c1
    rw [e]
    simp only [show ¬ (5 = 1) by decide, show ¬ (5 = 2) by decide, show ¬ (5 = 3) by decide, show ¬ (5 = 4) by decide, or_self, if_false, if_true, Int.toNat_natCast]
    unfold strB at q
    generalize twoW j = wd1 at *
    generalize (shp 10).word = wd at *
    clear hT e h3 h4 a2 a3 hk hk' h1 h2
    go_enter Tryz.func31, Tryz.ntmps31
    go_wp2
    go_ret
    exact ⟨rfl, box5 _ _⟩
end Go.Proofs.YtlnobfmbnnfbdaaGreatDoor
