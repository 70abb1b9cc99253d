import Derived.Test.YtdfmmolhfacahaaVG3
namespace Go.Proofs.Ytdfmmolhfacahaa
open Go.ChangeShapes Go.WideShapes Go.ChangeAt Go.RowKit

section
variable {W w : World} {gx b g l : Nat} {p K S xb : Nat → Nat} {ws : List Int} {o : Bool} {n : Int} {m d s a q k t : Nat} {zp : Value} {z : Nat}
set_option maxRecDepth 100000 in
set_option maxHeartbeats 8000000 in
theorem writes_load (h : Gr W w gx b g l p K S xb ws o n m 0 s a q k zp z) : Calls Try.prog 32 #[.pointer (some ⟨gx, 0, none⟩)] w fun r w' => r = .returned (.bool true) ∧ ∃ n' zp' z', Gr W w' gx b g l p K S xb ws false n' m 1 m 0 0 (k + 1) zp' z' := by
  have H0 := Lib.hid h.y
  have HI := Lib.hid h.i
  obtain ⟨⟨i0, i1, i2, i3, i4, i5, i6⟩, i7, i8, i9, i10, i11, i12, i13, i14, i15⟩ := H0.out.cells
  clear i8 i9 i10
  have hl := h.i.len
  have HE := Lib.hid (show toldW ws true 0 = (m : Int) ∧ errA ws true 0 = 0 ∧ spentO ws true 0 = false by
    have e := err9 (i := 0) hl (by omega)
    have f := ok_facts e
    exact ⟨by rw [← h.i.w0]; exact f.2.2.2.1, e, f.2.1⟩)
  clear h hl
  go_enter Try.func32, Try.ntmps32
  go_wp2_with (go_at_call 11; refine (open_any H0.out.m).mono ?_; rintro r w1 ⟨rfl, hm, hch⟩; have H1 := Lib.hid (H0.out.chg hm hch); obtain ⟨⟨c0, c1, c2, c3, c4, c5, c6⟩, c7, c8, c9, c10, c11, c12, c13, c14, c15⟩ := H1.out.cells; rw [show ((0 : Nat) : Int) = 0 from rfl] at c8; clear hm hch H0)
  have HD := Lib.hid (H1.out.hop (tb_drew (Below.refl _ _)))
  refine wp_region_seq (fun w' => w'.cell? ⟨gx, 0, none⟩ = some (.pointer (some ⟨b, 0, none⟩)) ∧ w'.cell? ⟨gx, 1, none⟩ = some (.int .i64 0) ∧ w'.cell? ⟨gx, 2, none⟩ = some (.int .i64 0) ∧ w'.cell? ⟨gx, 3, none⟩ = some (.int .i64 0) ∧ w'.cell? ⟨gx, 4, none⟩ = some (.int .i64 1) ∧ w'.cell? ⟨gx, 5, none⟩ = some (.int .i64 0) ∧ w'.cell? ⟨gx, 6, none⟩ = some (.int .i64 0)) ((0, true) :: (1, true) :: (2, true) :: (3, true) :: (4, true) :: (5, true) :: (6, true) :: (7, true) :: (8, false) :: (9, true) :: (10, true) :: (11, true) :: (12, true) :: (13, true) :: []) follows13 (by kernel_rfl) (fun _ _ _ _ _ h => h) ⟨c0, c1, c2, c3, c4, c5, c6⟩ ?_
  repeat (first | (refine wpSeq_take (v := ?_) rfl (by rfl) (fun wq hSq => ?_) ?_; rotate_left; (focus ((try dsimp only at hSq); go_simp; try with_reducible rfl)); simp only [Act.put, List.setIfInBounds_toArray, List.set_cons_zero, List.set_cons_succ]) | (refine wpSeq_skip rfl (by rfl) ?_; simp only [Act.put, List.setIfInBounds_toArray, List.set_cons_zero, List.set_cons_succ]))
  refine wpSeq_do rfl (by rfl) (fun KK hK => ?_)
  go_simp
  refine (stampM_any HD.out.m 0 0 0 1 0 0).mono ?_
  rw [HE.out.1, HE.out.2.1, HE.out.2.2]
  rintro r w2 ⟨rfl, hm, hch⟩
  have H2 := Lib.hid (HD.out.chg hm hch)
  clear hm hch HD H1
  obtain ⟨⟨f0, f1, f2, f3, f4, f5, f6⟩, f7, f8, f9, f10, f11, f12, f13, f14, f15⟩ := H2.out.cells
  refine hK.out _ _ ⟨f0, f1, f2, f3, f4, f5, f6⟩ ?_
  clear hK KK
  try simp only [Act.put, List.setIfInBounds_toArray, List.set_cons_zero, List.set_cons_succ]
  repeat (first | (refine wpSeq_take (v := ?_) rfl (by rfl) (fun wq hSq => ?_) ?_; rotate_left; (focus ((try dsimp only at hSq); go_simp; try with_reducible rfl)); simp only [Act.put, List.setIfInBounds_toArray, List.set_cons_zero, List.set_cons_succ]) | (refine wpSeq_skip rfl (by rfl) ?_; simp only [Act.put, List.setIfInBounds_toArray, List.set_cons_zero, List.set_cons_succ]))
  refine wpSeq_nil ?_
  go_wp2
  have H3 := Lib.hid (H2.out.setS m)
  clear H2
  obtain ⟨⟨q0, q1, q2, q3, q4, q5, q6⟩, q7, q8, q9, q10, q11, q12, q13, q14, q15⟩ := H3.out.cells
  have HD := Lib.hid (H3.out.hop (tb_drew (Below.refl _ _)))
  refine wp_region_seq (fun w' => w'.cell? ⟨gx, 1, none⟩ = some (.int .i64 0) ∧ w'.cell? ⟨gx, 2, none⟩ = some (.int .i64 0) ∧ w'.cell? ⟨gx, 3, none⟩ = some (.int .i64 0) ∧ w'.cell? ⟨gx, 4, none⟩ = some (.int .i64 1) ∧ w'.cell? ⟨gx, 5, none⟩ = some (.int .i64 0) ∧ w'.cell? ⟨gx, 6, none⟩ = some (.int .i64 0) ∧ w'.cell? ⟨gx, 7, none⟩ = some (.slice (some ⟨l, 0, none⟩) 7 7)) ((0, true) :: (1, true) :: (2, true) :: (3, true) :: (4, true) :: (5, true) :: (6, true) :: (7, true) :: (8, true) :: (9, true) :: (10, true) :: (11, false) :: (12, true) :: (13, true) :: (14, false) :: []) follows13 (by kernel_rfl) (fun _ _ _ _ _ h => h) ⟨q1, q2, q3, q4, q5, q6, q7⟩ ?_
  repeat (first | (refine wpSeq_take (v := ?_) rfl (by rfl) (fun wq hSq => ?_) ?_; rotate_left; (focus ((try dsimp only at hSq); go_simp; try with_reducible rfl)); simp only [Act.put, List.setIfInBounds_toArray, List.set_cons_zero, List.set_cons_succ]) | (refine wpSeq_skip rfl (by rfl) ?_; simp only [Act.put, List.setIfInBounds_toArray, List.set_cons_zero, List.set_cons_succ]))
  refine wpSeq_do rfl (by rfl) (fun KK hK => ?_)
  go_simp
  refine (look_any 0 0 0 1 0 0 7 m _).mono ?_
  rintro r w4 ⟨y, rfl, ly, hy, hb⟩
  have H4 := Lib.hid (HD.out.hop hb)
  have HY := Lib.hid (And.intro hy (Nat.le_trans HD.out.below.size ly))
  clear hy ly hb HD H3
  obtain ⟨⟨u0, u1, u2, u3, u4, u5, u6⟩, u7, u8, u9, u10, u11, u12, u13, u14, u15⟩ := H4.out.cells
  refine hK.out _ _ ⟨u1, u2, u3, u4, u5, u6, u7⟩ ?_
  clear hK KK
  try simp only [Act.put, List.setIfInBounds_toArray, List.set_cons_zero, List.set_cons_succ]
  repeat (first | (refine wpSeq_take (v := ?_) rfl (by rfl) (fun wq hSq => ?_) ?_; rotate_left; (focus ((try dsimp only at hSq); go_simp; try with_reducible rfl)); simp only [Act.put, List.setIfInBounds_toArray, List.set_cons_zero, List.set_cons_succ]) | (refine wpSeq_skip rfl (by rfl) ?_; simp only [Act.put, List.setIfInBounds_toArray, List.set_cons_zero, List.set_cons_succ]))
  refine wpSeq_do rfl (by rfl) (fun KK hK => ?_)
  go_simp
  have H5 := Lib.hid (H4.out.setZ HY.out.1 HY.out.2)
  obtain ⟨⟨v0, v1, v2, v3, v4, v5, v6⟩, v7, v8, v9, v10, v11, v12, v13, v14, v15⟩ := H5.out.cells
  refine hK.out _ _ ⟨v1, v2, v3, v4, v5, v6, v7⟩ ?_
  clear hK KK
  refine wpSeq_nil ?_
  have H6 := Lib.hid (H5.out.setD 1)
  obtain ⟨⟨x0, x1, x2, x3, x4, x5, x6⟩, x7, x8, x9, x10, x11, x12, x13, x14, x15⟩ := H6.out.cells
  go_wp2
  go_ret
  exact ⟨by simp, _, _, _, ⟨H6.out, HI.out.load⟩⟩
set_option maxRecDepth 100000 in
set_option maxHeartbeats 8000000 in
theorem writes_poll (h : Gr W w gx b g l p K S xb ws o n m 1 s a q k zp z) (hq : k < 9223372036854775807) (hl : letB (s : Int) (ws.getD (1 + a) 0) = false) : Calls Try.prog 32 #[.pointer (some ⟨gx, 0, none⟩)] w fun r w' => r = .returned (.bool true) ∧ ∃ n' zp' z', Gr W w' gx b g l p K S xb ws false n' m 1 s a (q + 1) (k + 1) zp' z' := by
  have H0 := Lib.hid h.y
  have HI := Lib.hid h.i
  obtain ⟨⟨i0, i1, i2, i3, i4, i5, i6⟩, i7, i8, i9, i10, i11, i12, i13, i14, i15⟩ := H0.out.cells
  clear i8 i9 i10
  have hln := h.i.len
  obtain ⟨ha, hqk, _⟩ := h.i.sc rfl
  obtain ⟨f0, a', q', f1, f2, f3, f4, f5, f6⟩ := nine_scan (h := 7) (d := (s : Int)) hln (by omega) ha (show q < 9223372036854775807 by omega)
  rw [show ((7 : Nat) : Int) = 7 from rfl] at f0 f1 f4
  have ea : a' = a := f6 hl
  rw [ea] at f1 f2 f4
  have eq' : q' = q + 1 := by omega
  rw [eq'] at f1
  have fo : sO ⟨1, 7, (s : Nat), (a : Nat), (q : Nat)⟩ ws true = false := by rw [f4]; exact decide_eq_false (by omega)
  have fp : sP ⟨1, 7, (s : Nat), (a : Nat), (q : Nat)⟩ ws true = false := by unfold sP; rw [f0]; rfl
  have HE := Lib.hid (And.intro f0 (And.intro f1 (And.intro fo fp)))
  have HS : Hid (SOk ⟨1, 7, (s : Nat), (a : Nat), (q : Nat)⟩) := ⟨by show (0 : Int) ≤ (a : Int); omega, fun _ => by show (a : Int) ≤ 7; omega⟩
  have HL := Lib.hid hl
  clear h hln ha hqk f0 f1 f2 f3 f4 f5 f6 fo fp hl ea eq'
  go_enter Try.func32, Try.ntmps32
  go_wp2_with (go_at_call 11; refine (open_any H0.out.m).mono ?_; rintro r w1 ⟨rfl, hm, hch⟩; have H1 := Lib.hid (H0.out.chg hm hch); obtain ⟨⟨c0, c1, c2, c3, c4, c5, c6⟩, c7, c8, c9, c10, c11, c12, c13, c14, c15⟩ := H1.out.cells; rw [show ((1 : Nat) : Int) = 1 from rfl] at c8; clear hm hch H0)
  obtain ⟨hzp, hzs, hzl⟩ := H1.out.sc rfl
  subst hzp
  have HD := Lib.hid (H1.out.hop (tb_drew (Below.refl _ _)))
  refine wp_region_seq (fun w' => w'.cell? ⟨gx, 0, none⟩ = some (.pointer (some ⟨b, 0, none⟩)) ∧ w'.cell? ⟨gx, 10, none⟩ = some (.pointer (some ⟨z, 0, none⟩))) ((0, true) :: (1, true) :: (2, true) :: (3, true) :: (4, true) :: (5, true) :: (6, true) :: (7, true) :: (8, false) :: (9, true) :: (10, true) :: (11, true) :: (12, true) :: (13, true) :: []) follows13 (by kernel_rfl) (fun _ _ _ _ _ h => h) ⟨c0, c10⟩ ?_
  repeat (first | (refine wpSeq_take (v := ?_) rfl (by rfl) (fun wq hSq => ?_) ?_; rotate_left; (focus ((try dsimp only at hSq); go_simp; try with_reducible rfl)); simp only [Act.put, List.setIfInBounds_toArray, List.set_cons_zero, List.set_cons_succ]) | (refine wpSeq_skip rfl (by rfl) ?_; simp only [Act.put, List.setIfInBounds_toArray, List.set_cons_zero, List.set_cons_succ]))
  refine wpSeq_do rfl (by rfl) (fun KK hK => ?_)
  go_simp
  refine (sstep_any HD.out.m (hzs.on (tb_drew (Below.refl _ _))) HS.out).mono ?_
  rw [HE.out.1, HE.out.2.1, HE.out.2.2.1, HE.out.2.2.2]
  rintro r w2 ⟨rfl, hm, hx, hch⟩
  have H2 := Lib.hid (HD.out.onS rfl hm hx hch)
  clear hm hx hch HD H1 hzs
  obtain ⟨⟨f0, f1, f2, f3, f4, f5, f6⟩, f7, f8, f9, f10, f11, f12, f13, f14, f15⟩ := H2.out.cells
  refine hK.out _ _ ⟨f0, f10⟩ ?_
  clear hK KK
  try simp only [Act.put, List.setIfInBounds_toArray, List.set_cons_zero, List.set_cons_succ]
  repeat (first | (refine wpSeq_take (v := ?_) rfl (by rfl) (fun wq hSq => ?_) ?_; rotate_left; (focus ((try dsimp only at hSq); go_simp; try with_reducible rfl)); simp only [Act.put, List.setIfInBounds_toArray, List.set_cons_zero, List.set_cons_succ]) | (refine wpSeq_skip rfl (by rfl) ?_; simp only [Act.put, List.setIfInBounds_toArray, List.set_cons_zero, List.set_cons_succ]))
  refine wpSeq_nil ?_
  go_wp2
  go_ret
  exact ⟨rfl, _, _, _, ⟨H2.out, HI.out.poll⟩⟩
set_option maxRecDepth 100000 in
set_option maxHeartbeats 8000000 in
theorem writes_pass (h : Gr W w gx b g l p K S xb ws o n m 1 s a q k zp z) (hq : k < 9223372036854775807) (hl : letB (s : Int) (ws.getD (1 + a) 0) = true) (ha7 : a + 1 < 7) : Calls Try.prog 32 #[.pointer (some ⟨gx, 0, none⟩)] w fun r w' => r = .returned (.bool true) ∧ ∃ n' zp' z', Gr W w' gx b g l p K S xb ws false n' m 1 s (a + 1) q (k + 1) zp' z' := by
  have H0 := Lib.hid h.y
  have HI := Lib.hid h.i
  obtain ⟨⟨i0, i1, i2, i3, i4, i5, i6⟩, i7, i8, i9, i10, i11, i12, i13, i14, i15⟩ := H0.out.cells
  clear i8 i9 i10
  have hln := h.i.len
  obtain ⟨ha, hqk, _⟩ := h.i.sc rfl
  obtain ⟨f0, a', q', f1, f2, f3, f4, f5, f6⟩ := nine_scan (h := 7) (d := (s : Int)) hln (by omega) ha (show q < 9223372036854775807 by omega)
  rw [show ((7 : Nat) : Int) = 7 from rfl] at f0 f1 f4
  have ea : a' = a + 1 := f5 hl
  rw [ea] at f1 f2 f4
  have eq' : q' = q := by omega
  rw [eq'] at f1
  have fo : sO ⟨1, 7, (s : Nat), (a : Nat), (q : Nat)⟩ ws true = false := by rw [f4]; exact decide_eq_false (by omega)
  have fp : sP ⟨1, 7, (s : Nat), (a : Nat), (q : Nat)⟩ ws true = false := by unfold sP; rw [f0]; rfl
  have HE := Lib.hid (And.intro f0 (And.intro f1 (And.intro fo fp)))
  have HS : Hid (SOk ⟨1, 7, (s : Nat), (a : Nat), (q : Nat)⟩) := ⟨by show (0 : Int) ≤ (a : Int); omega, fun _ => by show (a : Int) ≤ 7; omega⟩
  have HL := Lib.hid hl
  clear h hln ha hqk f0 f1 f2 f3 f4 f5 f6 fo fp hl ea eq'
  go_enter Try.func32, Try.ntmps32
  go_wp2_with (go_at_call 11; refine (open_any H0.out.m).mono ?_; rintro r w1 ⟨rfl, hm, hch⟩; have H1 := Lib.hid (H0.out.chg hm hch); obtain ⟨⟨c0, c1, c2, c3, c4, c5, c6⟩, c7, c8, c9, c10, c11, c12, c13, c14, c15⟩ := H1.out.cells; rw [show ((1 : Nat) : Int) = 1 from rfl] at c8; clear hm hch H0)
  obtain ⟨hzp, hzs, hzl⟩ := H1.out.sc rfl
  subst hzp
  have HD := Lib.hid (H1.out.hop (tb_drew (Below.refl _ _)))
  refine wp_region_seq (fun w' => w'.cell? ⟨gx, 0, none⟩ = some (.pointer (some ⟨b, 0, none⟩)) ∧ w'.cell? ⟨gx, 10, none⟩ = some (.pointer (some ⟨z, 0, none⟩))) ((0, true) :: (1, true) :: (2, true) :: (3, true) :: (4, true) :: (5, true) :: (6, true) :: (7, true) :: (8, false) :: (9, true) :: (10, true) :: (11, true) :: (12, true) :: (13, true) :: []) follows13 (by kernel_rfl) (fun _ _ _ _ _ h => h) ⟨c0, c10⟩ ?_
  repeat (first | (refine wpSeq_take (v := ?_) rfl (by rfl) (fun wq hSq => ?_) ?_; rotate_left; (focus ((try dsimp only at hSq); go_simp; try with_reducible rfl)); simp only [Act.put, List.setIfInBounds_toArray, List.set_cons_zero, List.set_cons_succ]) | (refine wpSeq_skip rfl (by rfl) ?_; simp only [Act.put, List.setIfInBounds_toArray, List.set_cons_zero, List.set_cons_succ]))
  refine wpSeq_do rfl (by rfl) (fun KK hK => ?_)
  go_simp
  refine (sstep_any HD.out.m (hzs.on (tb_drew (Below.refl _ _))) HS.out).mono ?_
  rw [HE.out.1, HE.out.2.1, HE.out.2.2.1, HE.out.2.2.2]
  rintro r w2 ⟨rfl, hm, hx, hch⟩
  have H2 := Lib.hid (HD.out.onS rfl hm hx hch)
  clear hm hx hch HD H1 hzs
  obtain ⟨⟨f0, f1, f2, f3, f4, f5, f6⟩, f7, f8, f9, f10, f11, f12, f13, f14, f15⟩ := H2.out.cells
  refine hK.out _ _ ⟨f0, f10⟩ ?_
  clear hK KK
  try simp only [Act.put, List.setIfInBounds_toArray, List.set_cons_zero, List.set_cons_succ]
  repeat (first | (refine wpSeq_take (v := ?_) rfl (by rfl) (fun wq hSq => ?_) ?_; rotate_left; (focus ((try dsimp only at hSq); go_simp; try with_reducible rfl)); simp only [Act.put, List.setIfInBounds_toArray, List.set_cons_zero, List.set_cons_succ]) | (refine wpSeq_skip rfl (by rfl) ?_; simp only [Act.put, List.setIfInBounds_toArray, List.set_cons_zero, List.set_cons_succ]))
  refine wpSeq_nil ?_
  go_wp2
  go_ret
  exact ⟨rfl, _, _, _, ⟨H2.out, HI.out.pass HL.out ha7⟩⟩
set_option maxRecDepth 100000 in
set_option maxHeartbeats 8000000 in
theorem writes_over (h : Gr W w gx b g l p K S xb ws o n m 1 s a q k zp z) (hq : k < 9223372036854775807) (hl : letB (s : Int) (ws.getD (1 + a) 0) = true) (ha7 : a + 1 = 7) : Calls Try.prog 32 #[.pointer (some ⟨gx, 0, none⟩)] w fun r w' => r = .returned (.bool true) ∧ ∃ n' zp' z', Gr W w' gx b g l p K S xb ws false n' m 2 s (a + 1) q (k + 1) zp' z' := by
  have H0 := Lib.hid h.y
  have HI := Lib.hid h.i
  obtain ⟨⟨i0, i1, i2, i3, i4, i5, i6⟩, i7, i8, i9, i10, i11, i12, i13, i14, i15⟩ := H0.out.cells
  clear i8 i9 i10
  have hln := h.i.len
  obtain ⟨ha, hqk, _⟩ := h.i.sc rfl
  obtain ⟨f0, a', q', f1, f2, f3, f4, f5, f6⟩ := nine_scan (h := 7) (d := (s : Int)) hln (by omega) ha (show q < 9223372036854775807 by omega)
  rw [show ((7 : Nat) : Int) = 7 from rfl] at f0 f1 f4
  have ea : a' = a + 1 := f5 hl
  rw [ea] at f1 f2 f4
  have eq' : q' = q := by omega
  rw [eq'] at f1
  have fo : sO ⟨1, 7, (s : Nat), (a : Nat), (q : Nat)⟩ ws true = true := by rw [f4]; exact decide_eq_true (by omega)
  have fp : sP ⟨1, 7, (s : Nat), (a : Nat), (q : Nat)⟩ ws true = false := by unfold sP; rw [f0]; rfl
  have HE := Lib.hid (And.intro f0 (And.intro f1 (And.intro fo fp)))
  have HS : Hid (SOk ⟨1, 7, (s : Nat), (a : Nat), (q : Nat)⟩) := ⟨by show (0 : Int) ≤ (a : Int); omega, fun _ => by show (a : Int) ≤ 7; omega⟩
  have HL := Lib.hid hl
  clear h hln ha hqk f0 f1 f2 f3 f4 f5 f6 fo fp hl ea eq'
  go_enter Try.func32, Try.ntmps32
  go_wp2_with (go_at_call 11; refine (open_any H0.out.m).mono ?_; rintro r w1 ⟨rfl, hm, hch⟩; have H1 := Lib.hid (H0.out.chg hm hch); obtain ⟨⟨c0, c1, c2, c3, c4, c5, c6⟩, c7, c8, c9, c10, c11, c12, c13, c14, c15⟩ := H1.out.cells; rw [show ((1 : Nat) : Int) = 1 from rfl] at c8; clear hm hch H0)
  obtain ⟨hzp, hzs, hzl⟩ := H1.out.sc rfl
  subst hzp
  have HD := Lib.hid (H1.out.hop (tb_drew (Below.refl _ _)))
  refine wp_region_seq (fun w' => w'.cell? ⟨gx, 0, none⟩ = some (.pointer (some ⟨b, 0, none⟩)) ∧ w'.cell? ⟨gx, 10, none⟩ = some (.pointer (some ⟨z, 0, none⟩))) ((0, true) :: (1, true) :: (2, true) :: (3, true) :: (4, true) :: (5, true) :: (6, true) :: (7, true) :: (8, false) :: (9, true) :: (10, true) :: (11, true) :: (12, true) :: (13, true) :: []) follows13 (by kernel_rfl) (fun _ _ _ _ _ h => h) ⟨c0, c10⟩ ?_
  repeat (first | (refine wpSeq_take (v := ?_) rfl (by rfl) (fun wq hSq => ?_) ?_; rotate_left; (focus ((try dsimp only at hSq); go_simp; try with_reducible rfl)); simp only [Act.put, List.setIfInBounds_toArray, List.set_cons_zero, List.set_cons_succ]) | (refine wpSeq_skip rfl (by rfl) ?_; simp only [Act.put, List.setIfInBounds_toArray, List.set_cons_zero, List.set_cons_succ]))
  refine wpSeq_do rfl (by rfl) (fun KK hK => ?_)
  go_simp
  refine (sstep_any HD.out.m (hzs.on (tb_drew (Below.refl _ _))) HS.out).mono ?_
  rw [HE.out.1, HE.out.2.1, HE.out.2.2.1, HE.out.2.2.2]
  rintro r w2 ⟨rfl, hm, hx, hch⟩
  have H2 := Lib.hid (HD.out.onS rfl hm hx hch)
  clear hm hx hch HD H1 hzs
  obtain ⟨⟨f0, f1, f2, f3, f4, f5, f6⟩, f7, f8, f9, f10, f11, f12, f13, f14, f15⟩ := H2.out.cells
  refine hK.out _ _ ⟨f0, f10⟩ ?_
  clear hK KK
  try simp only [Act.put, List.setIfInBounds_toArray, List.set_cons_zero, List.set_cons_succ]
  repeat (first | (refine wpSeq_take (v := ?_) rfl (by rfl) (fun wq hSq => ?_) ?_; rotate_left; (focus ((try dsimp only at hSq); go_simp; try with_reducible rfl)); simp only [Act.put, List.setIfInBounds_toArray, List.set_cons_zero, List.set_cons_succ]) | (refine wpSeq_skip rfl (by rfl) ?_; simp only [Act.put, List.setIfInBounds_toArray, List.set_cons_zero, List.set_cons_succ]))
  refine wpSeq_nil ?_
  go_wp2
  go_ret
  exact ⟨rfl, _, _, _, ⟨(H2.out.setD 2).off, HI.out.over HL.out ha7⟩⟩
set_option maxRecDepth 100000 in
set_option maxHeartbeats 8000000 in
theorem writes_publish (h : Gr W w gx b g l p K S xb ws o n m 2 s a q k zp z) (hq : k < 9223372036854775807) : Calls Try.prog 32 #[.pointer (some ⟨gx, 0, none⟩)] w fun r w' => r = .returned (.bool true) ∧ ∃ n' zp' z', Gr W w' gx b g l p K S xb (ws.set 0 ((m + 1 : Nat) : Int)) false n' (m + 1) 0 s a q (k + 1) zp' z' := by
  have H0 := Lib.hid h.y
  have HI := Lib.hid h.i
  obtain ⟨⟨i0, i1, i2, i3, i4, i5, i6⟩, i7, i8, i9, i10, i11, i12, i13, i14, i15⟩ := H0.out.cells
  clear i8 i9 i10
  have hl := h.i.len
  have hsm := h.i.us (by omega)
  have hmm := h.i.mm
  have HV := Lib.hid (show IntKind.u64.wrap ((s : Int) + 1) = ((m + 1 : Nat) : Int) by rw [hsm]; exact passV_nat (by omega))
  have HE := Lib.hid (show errA ws true 0 = 0 ∧ stored ws true 0 ((m + 1 : Nat) : Int) = ws.set 0 ((m + 1 : Nat) : Int) ∧ spentO ws true 0 = false by
    have e := err9 (i := 0) hl (by omega)
    have f := ok_facts e
    exact ⟨e, f.1 _, f.2.1⟩)
  clear h hl hsm hmm
  go_enter Try.func32, Try.ntmps32
  go_wp2_with (go_at_call 11; refine (open_any H0.out.m).mono ?_; rintro r w1 ⟨rfl, hm, hch⟩; have H1 := Lib.hid (H0.out.chg hm hch); obtain ⟨⟨c0, c1, c2, c3, c4, c5, c6⟩, c7, c8, c9, c10, c11, c12, c13, c14, c15⟩ := H1.out.cells; rw [show ((2 : Nat) : Int) = 2 from rfl] at c8; clear hm hch H0)
  have HD := Lib.hid (H1.out.hop (tb_drew (Below.refl _ _)))
  refine wp_region_seq (fun w' => w'.cell? ⟨gx, 0, none⟩ = some (.pointer (some ⟨b, 0, none⟩)) ∧ w'.cell? ⟨gx, 1, none⟩ = some (.int .i64 0) ∧ w'.cell? ⟨gx, 2, none⟩ = some (.int .i64 0) ∧ w'.cell? ⟨gx, 3, none⟩ = some (.int .i64 0) ∧ w'.cell? ⟨gx, 4, none⟩ = some (.int .i64 1) ∧ w'.cell? ⟨gx, 5, none⟩ = some (.int .i64 0) ∧ w'.cell? ⟨gx, 6, none⟩ = some (.int .i64 0) ∧ w'.cell? ⟨gx, 9, none⟩ = some (.int .u64 ((s : Nat) : Int))) ((0, true) :: (1, true) :: (2, true) :: (3, true) :: (4, true) :: (5, true) :: (6, true) :: (7, true) :: (8, true) :: (9, true) :: (10, true) :: (11, true) :: (12, true) :: (13, false) :: (14, true) :: []) follows13 (by kernel_rfl) (fun _ _ _ _ _ h => h) ⟨c0, c1, c2, c3, c4, c5, c6, c9⟩ ?_
  repeat (first | (refine wpSeq_take (v := ?_) rfl (by rfl) (fun wq hSq => ?_) ?_; rotate_left; (focus ((try dsimp only at hSq); go_simp; try with_reducible rfl)); simp only [Act.put, List.setIfInBounds_toArray, List.set_cons_zero, List.set_cons_succ]) | (refine wpSeq_skip rfl (by rfl) ?_; simp only [Act.put, List.setIfInBounds_toArray, List.set_cons_zero, List.set_cons_succ]))
  refine wpSeq_do rfl (by rfl) (fun KK hK => ?_)
  go_simp
  refine (publish_any HD.out.m 0 0 0 1 0 0 _).mono ?_
  rw [HV.out, HE.out.1, HE.out.2.1, HE.out.2.2]
  rintro r w2 ⟨rfl, hm, hch⟩
  have H2 := Lib.hid (HD.out.chg hm hch)
  clear hm hch HD H1
  obtain ⟨⟨f0, f1, f2, f3, f4, f5, f6⟩, f7, f8, f9, f10, f11, f12, f13, f14, f15⟩ := H2.out.cells
  refine hK.out _ _ ⟨f0, f1, f2, f3, f4, f5, f6, f9⟩ ?_
  clear hK KK
  try simp only [Act.put, List.setIfInBounds_toArray, List.set_cons_zero, List.set_cons_succ]
  repeat (first | (refine wpSeq_take (v := ?_) rfl (by rfl) (fun wq hSq => ?_) ?_; rotate_left; (focus ((try dsimp only at hSq); go_simp; try with_reducible rfl)); simp only [Act.put, List.setIfInBounds_toArray, List.set_cons_zero, List.set_cons_succ]) | (refine wpSeq_skip rfl (by rfl) ?_; simp only [Act.put, List.setIfInBounds_toArray, List.set_cons_zero, List.set_cons_succ]))
  refine wpSeq_nil ?_
  go_wp2
  go_ret
  exact ⟨rfl, _, _, _, ⟨(H2.out.setD 0).off, HI.out.publish⟩⟩
/-- any of them -/
theorem writes_any (h : Gr W w gx b g l p K S xb ws o n m d s a q k zp z) (hk : k < 9223372036854775807) : Calls Try.prog 32 #[.pointer (some ⟨gx, 0, none⟩)] w fun r w' => r = .returned (.bool true) ∧ ∃ ws' o' n' m' d' s' a' q' zp' z', Gr W w' gx b g l p K S xb ws' o' n' m' d' s' a' q' (k + 1) zp' z' := by
  have h3 := h.i.d2
  rcases (show d = 0 ∨ d = 1 ∨ d = 2 by omega) with rfl | rfl | rfl
  · exact (writes_load h).mono fun r w' ⟨hr, n', zp', z', hg⟩ => ⟨hr, _, _, _, _, _, _, _, _, _, _, hg⟩
  · cases hl : letB (s : Int) (ws.getD (1 + a) 0)
    · exact (writes_poll h hk hl).mono fun r w' ⟨hr, n', zp', z', hg⟩ => ⟨hr, _, _, _, _, _, _, _, _, _, _, hg⟩
    · by_cases ha : a + 1 < 7
      · exact (writes_pass h hk hl ha).mono fun r w' ⟨hr, n', zp', z', hg⟩ => ⟨hr, _, _, _, _, _, _, _, _, _, _, hg⟩
      · have := (h.i.sc rfl).1
        exact (writes_over h hk hl (by omega)).mono fun r w' ⟨hr, n', zp', z', hg⟩ => ⟨hr, _, _, _, _, _, _, _, _, _, _, hg⟩
  · exact (writes_publish h hk).mono fun r w' ⟨hr, n', zp', z', hg⟩ => ⟨hr, _, _, _, _, _, _, _, _, _, _, hg⟩
end
end Go.Proofs.Ytdfmmolhfacahaa
