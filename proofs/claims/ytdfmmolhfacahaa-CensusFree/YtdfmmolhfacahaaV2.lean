import Derived.Test.YtdfmmolhfacahaaV1
namespace Go.Proofs.Ytdfmmolhfacahaa
open Go.ChangeShapes Go.WideShapes Go.ChangeAt Go.RowKit

theorem ok_facts {ws : List Int} {o : Bool} {i : Int} (h : errA ws o i = 0) : (∀ v, stored ws o i v = ws.set i.toNat v) ∧ spentO ws o i = false ∧ (∀ n, spentC ws o i n = up n) ∧ toldW ws o i = wordAt ws i ∧ hasB ws i = true ∧ o = true := by
  have hk : hasB ws i = true ∧ o = true := by
    unfold errA at h
    cases q : hasB ws i <;> cases o <;> simp [q] at h ⊢
  obtain ⟨h1, rfl⟩ := hk
  exact ⟨fun v => by simp [stored, h1], by simp [spentO, h1], fun n => by simp [spentC, h1], by simp [toldW, h1], h1, rfl⟩
theorem no_facts {ws : List Int} {o : Bool} {i : Int} (h : ¬ errA ws o i = 0) : (∀ v, stored ws o i v = ws) ∧ spentO ws o i = o ∧ (∀ n, spentC ws o i n = n) ∧ toldW ws o i = 0 := by
  have hk : (hasB ws i && o) = false := by
    unfold errA at h
    cases q : hasB ws i <;> cases o <;> simp [q] at h ⊢
  refine ⟨fun v => by simp [stored, hk], ?_, fun n => by simp [spentC, hk], by simp [toldW, hk]⟩
  unfold spentO
  cases q : hasB ws i <;> cases o <;> simp_all
/-- what an access of a coming does -/
def cI (c : Cs) : Int := if c.N = 1 then plc c.B c.T else c.A
def aW (c : Cs) (ws : List Int) (o : Bool) : List Int := if c.N = 1 then stored ws o (plc c.B c.T) (passV c.K) else ws
def aC (c : Cs) (ws : List Int) (o : Bool) : Cs := ⟨c.A, c.B, c.T, c.N, if c.N = 0 then toldW ws o c.A else c.K, if c.N = 2 then toldW ws o c.A else c.S⟩
section
variable {w : World} {b g x : Nat} {ws : List Int} {o : Bool} {n : Int} {c : Cs}
theorem CmAt.ne (h : CmAt w x c) (m : MemAt 79 w b g ws o n) : x ≠ b ∧ x ≠ g := ⟨ne_ty h m.box rfl, ne_ty h m.row rfl⟩
set_option maxRecDepth 100000 in
set_option maxHeartbeats 1000000 in
theorem acc0_any (h : MemAt 79 w b g ws o n) {A B T K S : Int} (hx : CmAt w x ⟨A, B, T, 0, K, S⟩) : Calls Try.prog 37 #[.pointer (some ⟨x, 0, none⟩), .pointer (some ⟨b, 0, none⟩)] w fun e w' => e = .returned (.int .i64 (errA ws o A)) ∧ MemAt 79 w' b g ws (spentO ws o A) (spentC ws o A n) ∧ CmAt w' x ⟨A, B, T, 0, toldW ws o A, S⟩ ∧ Ch3 b g x w w' := by
  have HN := Lib.hid (hx.ne h)
  have HM := Lib.hid h
  have HX := Lib.hid hx
  obtain ⟨h0, h1, h2, h3, h4, h5, h6, h7, h8, h9⟩ := hx.cells
  clear h hx
  dsimp only at h0 h1 h2 h3 h4 h5
  go_enter Try.func37, Try.ntmps37
  go_wp2_with (go_at_call 58; refine (load_any HM.out _).mono ?_; rintro e w1 ⟨rfl, hm, hc⟩; have HM1 := Lib.hid hm; have HC1 := Lib.hid hc; have HX1 := Lib.hid (HX.out.keep (hc.block x h6 HN.out.1 HN.out.2)); obtain ⟨k0, k1, k2, k3, k4, k5, k6, k7, k8, k9⟩ := HX1.out.cells; clear hm hc)
  go_ret
  exact ⟨rfl, HM1.out.other HN.out.1.symm HN.out.2.symm _ _, HX1.out.setK _, ((Ch3.refl _ _ _ _).chg HC1.out).set _ _⟩
set_option maxRecDepth 100000 in
set_option maxHeartbeats 1000000 in
theorem acc2_any (h : MemAt 79 w b g ws o n) {A B T K S : Int} (hx : CmAt w x ⟨A, B, T, 2, K, S⟩) : Calls Try.prog 37 #[.pointer (some ⟨x, 0, none⟩), .pointer (some ⟨b, 0, none⟩)] w fun e w' => e = .returned (.int .i64 (errA ws o A)) ∧ MemAt 79 w' b g ws (spentO ws o A) (spentC ws o A n) ∧ CmAt w' x ⟨A, B, T, 2, K, toldW ws o A⟩ ∧ Ch3 b g x w w' := by
  have HN := Lib.hid (hx.ne h)
  have HM := Lib.hid h
  have HX := Lib.hid hx
  obtain ⟨h0, h1, h2, h3, h4, h5, h6, h7, h8, h9⟩ := hx.cells
  clear h hx
  dsimp only at h0 h1 h2 h3 h4 h5
  go_enter Try.func37, Try.ntmps37
  go_wp2_with (go_at_call 58; refine (load_any HM.out _).mono ?_; rintro e w1 ⟨rfl, hm, hc⟩; have HM1 := Lib.hid hm; have HC1 := Lib.hid hc; have HX1 := Lib.hid (HX.out.keep (hc.block x h6 HN.out.1 HN.out.2)); obtain ⟨k0, k1, k2, k3, k4, k5, k6, k7, k8, k9⟩ := HX1.out.cells; clear hm hc)
  go_ret
  exact ⟨rfl, HM1.out.other HN.out.1.symm HN.out.2.symm _ _, HX1.out.setS _, ((Ch3.refl _ _ _ _).chg HC1.out).set _ _⟩
set_option maxRecDepth 100000 in
set_option maxHeartbeats 2000000 in
theorem acc1_any (h : MemAt 79 w b g ws o n) {A B T K S : Int} (hx : CmAt w x ⟨A, B, T, 1, K, S⟩) (hmay : may8 T = true) : Calls Try.prog 37 #[.pointer (some ⟨x, 0, none⟩), .pointer (some ⟨b, 0, none⟩)] w fun e w' => e = .returned (.int .i64 (errA ws o (plc B T))) ∧ MemAt 79 w' b g (stored ws o (plc B T) (passV K)) (spentO ws o (plc B T)) (spentC ws o (plc B T) n) ∧ CmAt w' x ⟨A, B, T, 1, K, S⟩ ∧ Ch3 b g x w w' := by
  have HN := Lib.hid (hx.ne h)
  have HM := Lib.hid h
  have HX := Lib.hid hx
  have HY := Lib.hid hmay
  obtain ⟨h0, h1, h2, h3, h4, h5, h6, h7, h8, h9⟩ := hx.cells
  clear h hx hmay
  dsimp only at h0 h1 h2 h3 h4 h5
  go_enter Try.func37, Try.ntmps37
  go_wp2
  refine wp_region_seq (fun w' => w'.cell? ⟨x, 1, none⟩ = some (.int .i64 B) ∧ w'.cell? ⟨x, 2, none⟩ = some (.int .i64 T) ∧ w'.cell? ⟨x, 4, none⟩ = some (.int .u64 K)) ((0, true) :: (1, true) :: (2, true) :: (3, true) :: (4, true) :: (6, true) :: (7, true) :: (8, true) :: (9, true) :: (5, false) :: (10, false) :: (11, false) :: (12, true) :: []) follows13 (by kernel_rfl) (fun _ _ _ _ _ h => h) ⟨h1, h2, h4⟩ ?_
  repeat (refine wpSeq_take (v := ?_) rfl (by rfl) (fun wq hSq => ?_) ?_; rotate_left; (focus ((try dsimp only at hSq); go_simp; try with_reducible rfl)); simp only [Act.put, List.setIfInBounds_toArray, List.set_cons_zero, List.set_cons_succ])
  refine wpSeq_do rfl (by rfl) (fun KK hK => ?_)
  go_simp
  refine (splace_any B T HY.out _).mono ?_
  rintro e w1 ⟨rfl, hb⟩
  have HB1 : Hid (Below w.heap.size w w1) := below_step (tb_drew (Below.refl _ _)) hb
  have HX1 := Lib.hid (HX.out.on HB1.out)
  obtain ⟨k0, k1, k2, k3, k4, k5, k6, _⟩ := HX1.out.cells
  refine hK.out _ _ ⟨k1, k2, k4⟩ ?_
  clear hK KK hb
  try simp only [Act.put, List.setIfInBounds_toArray, List.set_cons_zero, List.set_cons_succ]
  refine wpSeq_do rfl (by rfl) (fun KK hK => ?_)
  go_simp
  refine (wordOf_any K _).mono ?_
  rintro e w2 ⟨rfl, hw⟩
  subst w2
  refine hK.out _ _ ⟨k1, k2, k4⟩ ?_
  clear hK KK
  try simp only [Act.put, List.setIfInBounds_toArray, List.set_cons_zero, List.set_cons_succ]
  refine wpSeq_do rfl (by rfl) (fun KK hK => ?_)
  go_simp
  refine (store_any (HM.out.on HB1.out) _ _).mono ?_
  rintro e w2 ⟨rfl, hm, hc⟩
  have HM2 := Lib.hid hm
  have HC2 := Lib.hid hc
  have HX2 := Lib.hid (HX1.out.keep (hc.block x k6 HN.out.1 HN.out.2))
  clear hm hc
  obtain ⟨j0, j1, j2, j3, j4, j5, j6, _⟩ := HX2.out.cells
  refine hK.out _ _ ⟨j1, j2, j4⟩ ?_
  clear hK KK
  try simp only [Act.put, List.setIfInBounds_toArray, List.set_cons_zero, List.set_cons_succ]
  repeat (refine wpSeq_take (v := ?_) rfl (by rfl) (fun wq hSq => ?_) ?_; rotate_left; (focus ((try dsimp only at hSq); go_simp; try with_reducible rfl)); simp only [Act.put, List.setIfInBounds_toArray, List.set_cons_zero, List.set_cons_succ])
  refine wpSeq_nil ?_
  go_wp2
  go_ret
  exact ⟨rfl, HM2.out, HX2.out, ((Ch3.refl _ _ _ _).on HB1.out).chg HC2.out⟩
theorem access_any (h : MemAt 79 w b g ws o n) (hx : CmAt w x c) (hN : c.N = 0 ∨ c.N = 1 ∨ c.N = 2) (hmay : may8 c.T = true) : Calls Try.prog 37 #[.pointer (some ⟨x, 0, none⟩), .pointer (some ⟨b, 0, none⟩)] w fun e w' => e = .returned (.int .i64 (errA ws o (cI c))) ∧ MemAt 79 w' b g (aW c ws o) (spentO ws o (cI c)) (spentC ws o (cI c) n) ∧ CmAt w' x (aC c ws o) ∧ Ch3 b g x w w' := by
  obtain ⟨A, B, T, N, K, S⟩ := c
  dsimp only at hN hmay
  rcases hN with rfl | rfl | rfl
  · exact acc0_any h hx
  · exact acc1_any h hx hmay
  · exact acc2_any h hx
end
end Go.Proofs.Ytdfmmolhfacahaa
