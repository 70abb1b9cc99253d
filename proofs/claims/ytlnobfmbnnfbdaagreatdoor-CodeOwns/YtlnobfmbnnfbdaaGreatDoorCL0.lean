import Derived.Test.YtlnobfmbnnfbdaaGreatDoorCP
import Derived.Test.YtlnobfmbnnfbdaaGreatDoorCP3
namespace Go.Proofs.YtlnobfmbnnfbdaaGreatDoor
open Go.ChangeShapes Go.WideShapes Go.ChangeAt Go.RowKit Num
attribute [local go_sem] run_store_float

theorem print_whole {b : Nat} {z : Int} (h1 : nan b = false) (h2 : rung b < 4845873199050653696) (h3 : b ≠ 9223372036854775808) (hw : wholeB b = true) (hz : intB b = z) : printT b = Lib.itoa z := by
  have hr : ∀ c, rung c = 9218868437227405312 → b ≠ c := fun c hc e => by rw [e, hc] at h2; omega
  unfold printT
  rw [h1, if_neg Bool.false_ne_true, if_neg (hr _ (by decide)), if_neg (hr _ (by decide)), if_neg h3, hw, if_pos rfl, hz]
theorem print_one : printT 4607182418800017408 = [49] := by
  rw [print_whole (z := 1) (by decide) (by decide) (by decide) (by decide +kernel) (by decide +kernel)]
  show Lib.itoa ((1 : Nat) : Int) = _
  rw [Lib.itoa_nonneg, Lib.decDigits_one (by decide)]
  rfl
def liveC : List Ins := [⟨1, 0, 4607182418800017408⟩, ⟨18, 0, 0⟩, ⟨20, 0, 0⟩]
def liveD : List Ins := [⟨10, 1, 0⟩, ⟨5, 3, 0⟩]
theorem live_text : textP 1 liveC = [114, 101, 97, 100, 115, 10, 112, 117, 115, 104, 32, 49, 10, 101, 109, 105, 116, 10, 104, 97, 108, 116, 10] := by
  have e1 : lineI ⟨1, 0, 4607182418800017408⟩ = [112, 117, 115, 104, 32, 49] := by
    unfold lineI
    rw [print_one]
    decide +kernel
  have e2 : lineI ⟨18, 0, 0⟩ = [101, 109, 105, 116] := rfl
  have e3 : lineI ⟨20, 0, 0⟩ = [104, 97, 108, 116] := rfl
  unfold textP liveC bodyT bodyT bodyT bodyT
  rw [e1, e2, e3]
  rfl
theorem live_check : checkB 1 liveC = true := by decide +kernel
theorem live_textD : textP 2 liveD = [117, 112, 100, 97, 116, 101, 115, 10, 97, 100, 100, 10, 112, 105, 99, 107, 32, 51, 10] := by
  have e1 : lineI ⟨10, 1, 0⟩ = [97, 100, 100] := rfl
  have e2 : lineI ⟨5, 3, 0⟩ = [112, 105, 99, 107, 32, 51] := by
    show (shp 5).word ++ 32 :: Lib.decDigits 3 = _
    rw [Lib.decDigits_one (by decide)]
    decide +kernel
  unfold textP liveD bodyT bodyT bodyT
  rw [e1, e2]
  rfl
theorem live_parse : parseP [117, 112, 100, 97, 116, 101, 115, 10, 97, 100, 100, 10, 112, 105, 99, 107, 32, 51, 10] = .ok (2, liveD) := by
  rw [← live_textD]
  have := parse_print (t := 2) (c := liveD) (by decide +kernel) (by intro i hi; simp [liveD] at hi; rcases hi with rfl | rfl <;> decide) (by rw [live_textD]; decide)
  rw [this]
  have e : liveD.map fixI = liveD := by
    simp [liveD, fixI, fixB_zero]
  rw [e]
theorem lit_at (w : World) (x : Obj) : CodeAt ((w.alloc (.cells #[.int .i64 1, .int .i64 0, .float .f64 4607182418800017408, .int .i64 18, .int .i64 0, .float .f64 0, .int .i64 20, .int .i64 0, .float .f64 0] 42)).alloc x) (some ⟨w.heap.size, 0, none⟩) liveC := by
  have h := heap_alloc_new w (.cells #[.int .i64 1, .int .i64 0, .float .f64 4607182418800017408, .int .i64 18, .int .i64 0, .float .f64 0, .int .i64 20, .int .i64 0, .float .f64 0] 42)
  refine CodeAt.on (fun k hk => ?_) (box5 _ x)
  have hk3 : k < 3 := hk
  refine ⟨w.heap.size, 0, rfl, lt_of_block h, ?_, ?_, ?_⟩
  all_goals (rw [cell_of_row _ _ _ _ _ _ h, Nat.zero_add])
  all_goals (match k, hk3 with | 0, _ => rfl | 1, _ => rfl | 2, _ => rfl)
theorem live_print : printP 1 liveC = [114, 101, 97, 100, 115, 10, 112, 117, 115, 104, 32, 49, 10, 101, 109, 105, 116, 10, 104, 97, 108, 116, 10] := by
  unfold printP
  rw [live_check, if_pos rfl, live_text]
theorem live_lt : ∀ i ∈ liveC, i.x < 18446744073709551616 := by
  intro i hi
  simp [liveC] at hi
  rcases hi with rfl | rfl | rfl <;> decide
theorem liveD_at {B : Nat} {w : World} {ao : Option Addr} {cap : Nat} (h : CodeRow B w (.slice ao 2 cap) liveD) : ∃ g, ao = some ⟨g, 0, none⟩ ∧ g < w.heap.size ∧ w.cell? ⟨g, 0, none⟩ = some (.int .i64 10) ∧ w.cell? ⟨g, 1, none⟩ = some (.int .i64 1) ∧ w.cell? ⟨g, 2, none⟩ = some (.float .f64 0) ∧ w.cell? ⟨g, 3, none⟩ = some (.int .i64 5) ∧ w.cell? ⟨g, 4, none⟩ = some (.int .i64 3) ∧ w.cell? ⟨g, 5, none⟩ = some (.float .f64 0) := by
  have hc : CodeAt w ao liveD := CodeRow.codeAt (c := liveD) h
  rcases h.2 with ⟨hv, _⟩ | ⟨g, cap', cur, hv, _⟩
  · cases hv
  · cases hv
    obtain ⟨b0, o0, e0, l0, a0, a1, a2⟩ := hc 0 (by decide)
    cases e0
    obtain ⟨b1, o1, e1, l1, a3, a4, a5⟩ := hc 1 (by decide)
    cases e1
    exact ⟨g, rfl, l0, a0, a1, a2, a3, a4, a5⟩
set_option maxHeartbeats 2000000 in
set_option maxRecDepth 100000 in
theorem live5_any (w : World) (hT : Tabs5 w) : Calls Tryz.prog 9 #[] w fun e w' => e = .returned (.bool true) ∧ Below w.heap.size w w' := by
  have HT := Lib.hid hT
  have HPR := Lib.hid (fun x => print5_any 1 3 (hT.on (bl_alloc x (box5 w _))) (lit_at w x) (by decide) live_lt)
  rw [live_print, checkE_yes live_check] at HPR
  unfold progV at HPR
  have HPA : Hid (∀ w', Tabs5 w' → Calls Tryz.prog 20 #[.string ⟨#[117, 112, 100, 97, 116, 101, 115, 10, 97, 100, 100, 10, 112, 105, 99, 107, 32, 51, 10]⟩] w' fun e w2 => (∃ ao cap, e = .returned (.tuple #[.agg #[.int .i64 2, .slice ao 2 cap], .int .i64 0, .int .i64 0]) ∧ CodeRow w'.heap.size w2 (.slice ao 2 cap) liveD) ∧ Below w'.heap.size w' w2) := fun w' h => (code_parse ⟨#[117, 112, 100, 97, 116, 101, 115, 10, 97, 100, 100, 10, 112, 105, 99, 107, 32, 51, 10]⟩ w' h).mono fun e w2 ⟨hp, hb⟩ => ⟨(by
    unfold ParseR at hp
    rw [show (⟨#[117, 112, 100, 97, 116, 101, 115, 10, 97, 100, 100, 10, 112, 105, 99, 107, 32, 51, 10]⟩ : ByteArray).data.toList = [117, 112, 100, 97, 116, 101, 115, 10, 97, 100, 100, 10, 112, 105, 99, 107, 32, 51, 10] from rfl, live_parse] at hp
    exact hp), hb⟩
  have HEF := Lib.hid (fun w' h => effect_some 4 w' h (by decide) (by decide))
  rw [show (shp 4).takes = 2 by decide +kernel, show (shp 4).lays = 2 by decide +kernel] at HEF
  have HCK := Lib.hid (fun w' h => check_any (w := w') 1 (ao := none) (c := []) 0 h (fun k hk => absurd hk (Nat.not_lt_zero k)) (by decide))
  rw [show checkE 1 [] = 50 by decide +kernel] at HCK
  unfold progV at HCK
  have hfe : ∀ u : World, (Op.equalIn 9999 40 (.float .f64 0) (.float .f64 0)).run Tryz.prog u = .ok true u := fun u => by kernel_rfl
  clear hT
  go_enter Tryz.func9, Tryz.ntmps9
  go_wp2_with (first
    | (go_at_call 18; refine (HPR.out _).mono ?_; rintro e w2 ⟨rfl, hb⟩; have HB2 := Lib.hid (chain5 (bl_alloc _ (box5 w _)) hb); clear hb)
    | (go_at_call 20; refine (HPA.out _ (HT.out.on HB2.out)).mono ?_; rintro e w3 ⟨⟨ao, cap, rfl, hrow⟩, hb⟩; obtain ⟨g, rfl, gl, c0, c1, c2, c3, c4, c5⟩ := liveD_at hrow; have HB3 := Lib.hid (chain5 HB2.out hb); have HC3 := Lib.hid (And.intro gl (And.intro c0 (And.intro c1 (And.intro c2 (And.intro c3 (And.intro c4 c5)))))); clear hb hrow gl c0 c1 c2 c3 c4 c5)
    | (go_at_call 16; refine (HEF.out _ (HT.out.on (chain5 HB3.out (box5 _ _))).sh).mono ?_; rintro e w4 ⟨rfl, hs⟩; have HS4 := Lib.hid hs; have HB4 : Hid (Below w3.heap.size w3 w4) := (box5 _ _).trans (hs.below _); have HX4 := Lib.hid ((by rw [hs.heap] : w4.heap[w3.heap.size]? = _).trans (heap_alloc_new w3 _)); clear hs)
    | (go_at_call 11; refine (HCK.out _ (HT.out.on (chain5 HB3.out HB4.out)).sh).mono ?_; rintro e w5 ⟨rfl, hb⟩; have hx5 := (hb.block _ (lt_of_block HX4.out)).trans HX4.out; obtain ⟨q0, q1, q2⟩ := cells2_of hx5; have hb5 : Below w3.heap.size w3 w5 := chain5 HB4.out hb; obtain ⟨gl, c0, c1, c2, c3, c4, c5⟩ := HC3.out; have d0 := (hb5.cell (p := ⟨g, 0, none⟩) gl).trans c0; have d1 := (hb5.cell (p := ⟨g, 1, none⟩) gl).trans c1; have d2 := (hb5.cell (p := ⟨g, 2, none⟩) gl).trans c2; have d3 := (hb5.cell (p := ⟨g, 3, none⟩) gl).trans c3; have d4 := (hb5.cell (p := ⟨g, 4, none⟩) gl).trans c4; have d5 := (hb5.cell (p := ⟨g, 5, none⟩) gl).trans c5; have HB5 := Lib.hid (chain5 HB3.out hb5); clear hb hx5 hb5 c0 c1 c2 c3 c4 c5 gl))
  go_ret
  exact ⟨rfl, HB5.out⟩
end Go.Proofs.YtlnobfmbnnfbdaaGreatDoor
