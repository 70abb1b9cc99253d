import Derived.Test.YtlnobfmbnnfbdaaGreatDoorCX
namespace Go.Proofs.YtlnobfmbnnfbdaaGreatDoor
open Go.ChangeShapes Go.WideShapes Go.ChangeAt Go.RowKit Num
attribute [local go_sem] run_store_float

theorem prog_tagbad {w : World} {b : Nat} (HTG : Hid (∀ w1, Below w.heap.size w w1 → Calls Tryz.prog 48 #[.pointer (some ⟨b, 0, none⟩)] w1 fun e w' => e = gaveUp 20 1 ∧ Turn [b] [b] w1 w')) :
    Calls Tryz.prog 35 #[.pointer (some ⟨b, 0, none⟩)] w fun e w' => e = gaveUp 20 1 ∧ Turn [b] [b] w w' := by
  go_enter Tryz.func35, Tryz.ntmps35
  go_wp2_with (first
    | (go_at_call 48; refine (HTG.out _ (box5 _ _)).mono ?_; rintro e w1 ⟨rfl, hu1⟩; have HU1 := Lib.hid hu1; clear hu1))
  exact ⟨rfl, rfl, (turn_below (box5 _ _)).trans HU1.out⟩
set_option maxHeartbeats 4000000 in
set_option maxRecDepth 100000 in
theorem prog_first_bad {w : World} {b : Nat} {y : List UInt8} {t x l : Int}
    (HTG : Hid (∀ w1, Below w.heap.size w w1 → Calls Tryz.prog 48 #[.pointer (some ⟨b, 0, none⟩)] w1 fun e w' => e = .returned (.int .i64 t) ∧ RdAt w' b y 1 ∧ Turn [b] [b] w1 w'))
    (HI : Hid (∀ w0 w1, RdAt w0 b y 1 → Turn [b] [b] w w0 → Below w0.heap.size w0 w1 → Calls Tryz.prog 49 #[.pointer (some ⟨b, 0, none⟩)] w1 fun e w' => e = gaveUp x l ∧ Turn [b] [b] w1 w')) :
    Calls Tryz.prog 35 #[.pointer (some ⟨b, 0, none⟩)] w fun e w' => e = gaveUp x l ∧ Turn [b] [b] w w' := by
  go_enter Tryz.func35, Tryz.ntmps35
  go_wp2_with (first
    | (go_at_call 48; refine (HTG.out _ (box5 _ _)).mono ?_; rintro e w1 ⟨rfl, hr1, hu1⟩; have HR1 := Lib.hid hr1; have HU1 := Lib.hid ((turn_below (box5 _ _)).trans hu1); clear hr1 hu1))
  refine wp_region_any (by kernel_rfl) ?_
  change wpAny _ _ _ _ _ _ _ (World.drew _)
  refine wpAny_ready (rs := [0, 2]) (by kernel_rfl) (by simp) ?_
  refine AllReady.cons rfl (fun K hK => ?_) (AllReady.cons rfl (fun K hK => ?_) (AllReady.nil))
  · go_simp
    refine hK _ _ ?_
    clear hK K
    refine wpAny_ready (rs := [1, 2]) (by kernel_rfl) (by simp) ?_
    refine AllReady.cons rfl (fun K hK => ?_) (AllReady.cons rfl (fun K hK => ?_) (AllReady.nil))
    · go_simp
      refine hK _ _ ?_
      clear hK K
      refine wpAny_ready (rs := [2]) (by kernel_rfl) (by simp) ?_
      refine AllReady.cons rfl (fun K hK => ?_) (AllReady.nil)
      · go_simp
        refine hK _ _ ?_
        clear hK K
        refine wpAny_ready (rs := [3]) (by kernel_rfl) (by simp) ?_
        refine AllReady.cons rfl (fun K hK => ?_) (AllReady.nil)
        · go_simp
          refine (HI.out w1 _ HR1.out HU1.out (bl_drew (box5 _ _))).mono ?_
          rintro e w4 ⟨rfl, hu4⟩
          exact ⟨rfl, rfl, HU1.out.trans ((turn_below (bl_drew (box5 _ _))).trans hu4)⟩
    · go_simp
      refine hK _ _ ?_
      clear hK K
      refine wpAny_ready (rs := [1, 3]) (by kernel_rfl) (by simp) ?_
      refine AllReady.cons rfl (fun K hK => ?_) (AllReady.cons rfl (fun K hK => ?_) (AllReady.nil))
      · go_simp
        refine hK _ _ ?_
        clear hK K
        refine wpAny_ready (rs := [3]) (by kernel_rfl) (by simp) ?_
        refine AllReady.cons rfl (fun K hK => ?_) (AllReady.nil)
        · go_simp
          refine (HI.out w1 _ HR1.out HU1.out (bl_drew (box5 _ _))).mono ?_
          rintro e w4 ⟨rfl, hu4⟩
          exact ⟨rfl, rfl, HU1.out.trans ((turn_below (bl_drew (box5 _ _))).trans hu4)⟩
      · go_simp
        refine (HI.out w1 _ HR1.out HU1.out (bl_drew (box5 _ _))).mono ?_
        rintro e w4 ⟨rfl, hu4⟩
        exact ⟨rfl, rfl, HU1.out.trans ((turn_below (bl_drew (box5 _ _))).trans hu4)⟩
  · go_simp
    refine hK _ _ ?_
    clear hK K
    refine wpAny_ready (rs := [0, 3]) (by kernel_rfl) (by simp) ?_
    refine AllReady.cons rfl (fun K hK => ?_) (AllReady.cons rfl (fun K hK => ?_) (AllReady.nil))
    · go_simp
      refine hK _ _ ?_
      clear hK K
      refine wpAny_ready (rs := [1, 3]) (by kernel_rfl) (by simp) ?_
      refine AllReady.cons rfl (fun K hK => ?_) (AllReady.cons rfl (fun K hK => ?_) (AllReady.nil))
      · go_simp
        refine hK _ _ ?_
        clear hK K
        refine wpAny_ready (rs := [3]) (by kernel_rfl) (by simp) ?_
        refine AllReady.cons rfl (fun K hK => ?_) (AllReady.nil)
        · go_simp
          refine (HI.out w1 _ HR1.out HU1.out (bl_drew (box5 _ _))).mono ?_
          rintro e w4 ⟨rfl, hu4⟩
          exact ⟨rfl, rfl, HU1.out.trans ((turn_below (bl_drew (box5 _ _))).trans hu4)⟩
      · go_simp
        refine (HI.out w1 _ HR1.out HU1.out (bl_drew (box5 _ _))).mono ?_
        rintro e w4 ⟨rfl, hu4⟩
        exact ⟨rfl, rfl, HU1.out.trans ((turn_below (bl_drew (box5 _ _))).trans hu4)⟩
    · go_simp
      refine (HI.out w1 _ HR1.out HU1.out (bl_drew (box5 _ _))).mono ?_
      rintro e w4 ⟨rfl, hu4⟩
      exact ⟨rfl, rfl, HU1.out.trans ((turn_below (bl_drew (box5 _ _))).trans hu4)⟩
end Go.Proofs.YtlnobfmbnnfbdaaGreatDoor
