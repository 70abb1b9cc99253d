import Derived.Test.YtdfmmolhfacahaaVG2
namespace Go.Proofs.Ytdfmmolhfacahaa
open Go.ChangeShapes Go.WideShapes Go.ChangeAt Go.RowKit

theorem passV_nat {n : Nat} (h : n < 9223372036854775808) : passV (n : Int) = ((n + 1 : Nat) : Int) := by
  unfold passV
  simp [IntKind.wrap, IntKind.bits, IntKind.signed]
  omega
section
variable {W w : World} {gx b g l : Nat} {p K S xb : Nat → Nat} {ws : List Int} {o : Bool} {n : Int} {m d s a q k t : Nat} {zp : Value} {z : Nat}
theorem gd_leave {zo : Bool} {ss : Ss} (y : Gd W w gx b g l (updN p t 0) p K S xb (onP (updN p t 0)) ws o n d s zp zo z ss) : Gd W w gx b g l (updN p t 0) (updN p t 0) K S xb (onP (updN p t 0)) ws o n d s zp zo z ss :=
  ⟨y.gd, y.pe, y.m, fun i hi ho => by
    have e : i ≠ t := fun q => by subst q; simp [onP, updN] at ho
    rw [updN_ne _ _ e]
    exact y.cm i hi ho, y.di, y.sc, y.below, y.lo⟩
set_option maxRecDepth 100000 in
set_option maxHeartbeats 8000000 in
theorem reads_leave (h : Gr W w gx b g l p K S xb ws o n m d s a q k zp z) (hk : k < 9223372036854775807) (ht : t < 7) (hp : p t = 3) : Calls Try.prog 33 #[.pointer (some ⟨gx, 0, none⟩), .int .i64 ((t : Nat) : Int)] w fun r w' => r = .returned (.bool true) ∧ ∃ n' xb', Gr W w' gx b g l (updN p t 0) K S xb' (ws.set (1 + t) 0) false n' m d s a q (k + 1) zp z := by
  have HT := Lib.hid ht
  have HP := Lib.hid hp
  have ht7 : (t : Int) < 7 := by omega
  have H0 := Lib.hid h.y
  have HI := Lib.hid h.i
  have HK := Lib.hid hk
  obtain ⟨⟨i0, i1, i2, i3, i4, i5, i6⟩, i7, i8, i9, i10, i11, i12, i13, i14, i15⟩ := H0.out.cells
  clear i8 i9 i10
  have hon : onP p t = true := by simp [onP, hp]
  have HON := Lib.hid hon
  have hl := h.i.len
  have HL := Lib.hid (show lE ws true 1 t = 0 ∧ lW ws true 1 t = ws.set (1 + t) 0 ∧ lO ws true 1 t = false by
    have e := err9 (i := 1 + t) hl (by omega)
    have f := ok_facts e
    unfold lE lW lO
    rw [may_nat (by omega), plc1 t]
    exact ⟨e, by rw [if_pos rfl, f.1]; rfl, by rw [if_pos rfl, f.2.1]⟩)
  clear h hp hon hl ht
  go_enter Try.func33, Try.ntmps33
  go_wp2_with (go_at_call 11; refine (open_any H0.out.m).mono ?_; rintro r w1 ⟨rfl, hm, hch⟩; have H1 := Lib.hid (H0.out.chg hm hch); obtain ⟨⟨c0, c1, c2, c3, c4, c5, c6⟩, c7, c8, c9, c10, c11, c12, c13, c14, c15⟩ := H1.out.cells; obtain ⟨ea, eb, ec, ev, ed, ee⟩ := H1.out.pe.at' HT.out; rw [show ((p t : Nat) : Int) = 3 from by rw [HP.out]; rfl] at ea; clear hm hch H0)
  have HD := Lib.hid (H1.out.hop (tb_drew (Below.refl _ _)))
  refine wp_region_seq (fun w' => w'.cell? ⟨gx, 0, none⟩ = some (.pointer (some ⟨b, 0, none⟩)) ∧ w'.cell? ⟨gx, 1, none⟩ = some (.int .i64 0) ∧ w'.cell? ⟨gx, 2, none⟩ = some (.int .i64 0) ∧ w'.cell? ⟨gx, 3, none⟩ = some (.int .i64 0) ∧ w'.cell? ⟨gx, 4, none⟩ = some (.int .i64 1) ∧ w'.cell? ⟨gx, 5, none⟩ = some (.int .i64 0) ∧ w'.cell? ⟨gx, 6, none⟩ = some (.int .i64 0)) ((0, true) :: (1, true) :: (2, true) :: (3, true) :: (4, true) :: (5, true) :: (6, true) :: (7, true) :: (8, true) :: (9, false) :: (10, true) :: []) follows13 (by kernel_rfl) (fun _ _ _ _ _ h => h) ⟨c0, c1, c2, c3, c4, c5, c6⟩ ?_
  repeat (first | (refine wpSeq_take (v := ?_) rfl (by rfl) (fun wq hSq => ?_) ?_; rotate_left; (focus ((try dsimp only at hSq); go_simp; try with_reducible rfl)); simp only [Act.put, List.setIfInBounds_toArray, List.set_cons_zero, List.set_cons_succ]) | (refine wpSeq_skip rfl (by rfl) ?_; simp only [Act.put, List.setIfInBounds_toArray, List.set_cons_zero, List.set_cons_succ]))
  refine wpSeq_do rfl (by rfl) (fun KK hK => ?_)
  go_simp
  refine (leave_any HD.out.m 0 0 0 1 0 0 t).mono ?_
  rw [HL.out.1, HL.out.2.1, HL.out.2.2]
  rintro r w2 ⟨rfl, hm, hch⟩
  have H2 := Lib.hid (HD.out.chg hm hch)
  clear hm hch HD H1
  obtain ⟨⟨f0, f1, f2, f3, f4, f5, f6⟩, f7, f8, f9, f10, f11, f12, f13, f14, f15⟩ := H2.out.cells
  obtain ⟨ja, jb, jc, jv, jd, je⟩ := H2.out.pe.at' HT.out; rw [show ((p t : Nat) : Int) = 3 from by rw [HP.out]; rfl] at ja
  refine hK.out _ _ ⟨f0, f1, f2, f3, f4, f5, f6⟩ ?_
  clear hK KK
  try simp only [Act.put, List.setIfInBounds_toArray, List.set_cons_zero, List.set_cons_succ]
  repeat (first | (refine wpSeq_take (v := ?_) rfl (by rfl) (fun wq hSq => ?_) ?_; rotate_left; (focus ((try dsimp only at hSq); go_simp; try with_reducible rfl)); simp only [Act.put, List.setIfInBounds_toArray, List.set_cons_zero, List.set_cons_succ]) | (refine wpSeq_skip rfl (by rfl) ?_; simp only [Act.put, List.setIfInBounds_toArray, List.set_cons_zero, List.set_cons_succ]))
  refine wpSeq_nil ?_
  go_wp2
  go_ret
  have y := (H2.out.setP t HT.out 0).weak (onP_leave p t)
  exact ⟨rfl, _, _, ⟨gd_leave y, HI.out.leave HT.out HP.out⟩⟩
set_option maxRecDepth 100000 in
set_option maxHeartbeats 8000000 in
theorem reads_come (h : Gr W w gx b g l p K S xb ws o n m d s a q k zp z) (hk : k < 9223372036854775807) (ht : t < 7) (hp : p t = 0) : Calls Try.prog 33 #[.pointer (some ⟨gx, 0, none⟩), .int .i64 ((t : Nat) : Int)] w fun r w' => r = .returned (.bool true) ∧ ∃ n' xb', Gr W w' gx b g l (updN p t 1) (updN K t m) (updN S t 0) xb' ws false n' m d s a q (k + 1) zp z := by
  have HT := Lib.hid ht
  have HP := Lib.hid hp
  have ht7 : (t : Int) < 7 := by omega
  have H0 := Lib.hid h.y
  have HI := Lib.hid h.i
  have HK := Lib.hid hk
  obtain ⟨⟨i0, i1, i2, i3, i4, i5, i6⟩, i7, i8, i9, i10, i11, i12, i13, i14, i15⟩ := H0.out.cells
  clear i8 i9 i10
  have hl := h.i.len
  have HE := Lib.hid (nine_zero (ws := ws) (t := t) (K := 0) (S := 0) hl (by omega))
  rw [h.i.w0] at HE
  have HO := Lib.hid (show cP ⟨0, 1, t, 0, 0, 0⟩ ws true = false by unfold cP; rw [HE.out.1]; rfl)
  clear h hp hl ht
  go_enter Try.func33, Try.ntmps33
  go_wp2_with (first
    | (go_at_call 11; refine (open_any H0.out.m).mono ?_; rintro r w1 ⟨rfl, hm, hch⟩; have H1 := Lib.hid (H0.out.chg hm hch); obtain ⟨⟨c0, c1, c2, c3, c4, c5, c6⟩, c7, c8, c9, c10, c11, c12, c13, c14, c15⟩ := H1.out.cells; obtain ⟨ea, eb, ec, ev, ed, ee⟩ := H1.out.pe.at' HT.out; rw [show ((p t : Nat) : Int) = 0 from by rw [HP.out]; rfl] at ea; clear hm hch H0)
    | (go_at_call 9; refine (come_any 0 0 0 1 0 0 t _).mono ?_; rintro r w2 ⟨y, rfl, ly, hy, hb⟩; have H2a := Lib.hid (H1.out.hop hb); have H2 := Lib.hid (And.intro (H2a.out.setX t HT.out hy (Nat.le_trans H1.out.below.size ly) (fun i hi ho q => by have := (H1.out.cm i hi ho).1.lt; omega)) (hy.keep (w' := w2.setCell ⟨l, t * 2 + 1, none⟩ (.pointer (some ⟨y, 0, none⟩))) (heap_setCell_other _ _ _ _ (H2a.out.pe.ne hy rfl).symm))); obtain ⟨⟨f0, f1, f2, f3, f4, f5, f6⟩, f7, f8, f9, f10, f11, f12, f13, f14, f15⟩ := H2a.out.cells; obtain ⟨ja, jb, jc, jv, jd, je⟩ := H2a.out.pe.at' HT.out; rw [show ((p t : Nat) : Int) = 0 from by rw [HP.out]; rfl] at ja; clear ly hy hb H2a H1; obtain ⟨⟨x0, x1, x2, x3, x4, x5, x6⟩, x7, x8, x9, x10, x11, x12, x13, x14, x15⟩ := H2.out.1.cells; obtain ⟨ya, yb, yc, yv, yd, ye⟩ := H2.out.1.pe.at' HT.out; rw [show ((p t : Nat) : Int) = 0 from by rw [HP.out]; rfl] at ya; have yg := yd; rw [ye (by rw [updB_at]), updN_at] at yg; clear yd))
  have HD := Lib.hid (And.intro (H2.out.1.hop (tb_drew (Below.refl _ _))) (H2.out.2.on (tb_drew (Below.refl _ _))))
  refine wp_region_seq (fun w' => w'.cell? ⟨l, t * 2 + 1, none⟩ = some (.pointer (some ⟨y, 0, none⟩)) ∧ w'.cell? ⟨gx, 0, none⟩ = some (.pointer (some ⟨b, 0, none⟩))) ((0, true) :: (1, true) :: (2, true) :: (3, true) :: (4, true) :: (5, true) :: (6, true) :: (7, true) :: (8, false) :: (9, true) :: (10, true) :: (11, true) :: (12, true) :: (13, true) :: []) follows13 (by kernel_rfl) (fun _ _ _ _ _ h => h) ⟨yg, x0⟩ ?_
  repeat (first | (refine wpSeq_take (v := ?_) rfl (by rfl) (fun wq hSq => ?_) ?_; rotate_left; (focus ((try dsimp only at hSq); go_simp; try with_reducible rfl)); simp only [Act.put, List.setIfInBounds_toArray, List.set_cons_zero, List.set_cons_succ]) | (refine wpSeq_skip rfl (by rfl) ?_; simp only [Act.put, List.setIfInBounds_toArray, List.set_cons_zero, List.set_cons_succ]))
  refine wpSeq_do rfl (by rfl) (fun KK hK => ?_)
  go_simp
  refine (cstep_any HD.out.1.m HD.out.2 (cok_new 0 1 t)).mono ?_
  rw [HE.out.1, HE.out.2.1, HE.out.2.2.1, HE.out.2.2.2, HO.out]
  rintro r w3 ⟨rfl, hm, hx, hch⟩
  have H3 := Lib.hid (HD.out.1.onC (N' := 1) (K' := m) (S' := 0) HT.out (by rw [updB_at]) hm (by rw [updN_at]; exact hx) (by rw [updN_at]; exact hch))
  clear hm hx hch HD H2
  obtain ⟨⟨q0, q1, q2, q3, q4, q5, q6⟩, q7, q8, q9, q10, q11, q12, q13, q14, q15⟩ := H3.out.cells
  obtain ⟨ua, ub, uc, uv, ud, ue⟩ := H3.out.pe.at' HT.out; rw [show ((p t : Nat) : Int) = 0 from by rw [HP.out]; rfl] at ua; have ug := ud; rw [ue (by rw [updB_at]), updN_at] at ug; clear ud
  refine hK.out _ _ ⟨ug, q0⟩ ?_
  clear hK KK
  try simp only [Act.put, List.setIfInBounds_toArray, List.set_cons_zero, List.set_cons_succ]
  repeat (first | (refine wpSeq_take (v := ?_) rfl (by rfl) (fun wq hSq => ?_) ?_; rotate_left; (focus ((try dsimp only at hSq); go_simp; try with_reducible rfl)); simp only [Act.put, List.setIfInBounds_toArray, List.set_cons_zero, List.set_cons_succ]) | (refine wpSeq_skip rfl (by rfl) ?_; simp only [Act.put, List.setIfInBounds_toArray, List.set_cons_zero, List.set_cons_succ]))
  refine wpSeq_nil ?_
  go_wp2
  have H4 := Lib.hid ((H3.out.setP t HT.out 1).hop (tb_drew (Below.refl _ _)))
  obtain ⟨⟨v0, v1, v2, v3, v4, v5, v6⟩, v7, v8, v9, v10, v11, v12, v13, v14, v15⟩ := H4.out.cells
  obtain ⟨sa, sb, sc, sv, sd, se⟩ := H4.out.pe.at' HT.out; rw [show ((updN p t 1 t : Nat) : Int) = 1 from by rw [updN_at]; rfl] at sa; have sg := sd; rw [se (by rw [updB_at]), updN_at] at sg; clear sd
  refine wp_region_seq (fun w' => w'.cell? ⟨l, t * 2, none⟩ = some (.int .i64 1) ∧ w'.cell? ⟨l, t * 2 + 1, none⟩ = some (.pointer (some ⟨y, 0, none⟩))) ((0, true) :: (1, true) :: (2, true) :: (3, true) :: (4, true) :: (5, true) :: (6, true) :: (7, true) :: (8, true) :: (9, true) :: (10, true) :: (11, true) :: (12, true) :: (13, true) :: (14, true) :: (15, true) :: (16, true) :: (17, true) :: (18, true) :: (20, true) :: (21, true) :: (22, true) :: (23, true) :: (19, false) :: (24, false) :: (25, true) :: (26, true) :: (27, true) :: (28, true) :: []) follows13 (by kernel_rfl) (fun _ _ _ _ _ h => h) ⟨sa, sg⟩ ?_
  repeat (first | (refine wpSeq_take (v := ?_) rfl (by rfl) (fun wq hSq => ?_) ?_; rotate_left; (focus ((try dsimp only at hSq); go_simp; try with_reducible rfl)); simp only [Act.put, List.setIfInBounds_toArray, List.set_cons_zero, List.set_cons_succ]) | (refine wpSeq_skip rfl (by rfl) ?_; simp only [Act.put, List.setIfInBounds_toArray, List.set_cons_zero, List.set_cons_succ]))
  refine wpSeq_skip' rfl (by rfl) ⟨sa, sg⟩ ?_
  simp only [Act.put, List.setIfInBounds_toArray, List.set_cons_zero, List.set_cons_succ]
  refine wpSeq_skip' rfl (by rfl) ⟨sa, sg⟩ ?_
  simp only [Act.put, List.setIfInBounds_toArray, List.set_cons_zero, List.set_cons_succ]
  repeat (first | (refine wpSeq_take (v := ?_) rfl (by rfl) (fun wq hSq => ?_) ?_; rotate_left; (focus ((try dsimp only at hSq); go_simp; try with_reducible rfl)); simp only [Act.put, List.setIfInBounds_toArray, List.set_cons_zero, List.set_cons_succ]) | (refine wpSeq_skip rfl (by rfl) ?_; simp only [Act.put, List.setIfInBounds_toArray, List.set_cons_zero, List.set_cons_succ]))
  refine wpSeq_nil ?_
  go_wp2
  go_ret
  have y0 := H4.out
  rw [updN_two, updN_two, updN_two, onP_come p t 1 (by omega)] at y0
  exact ⟨rfl, _, _, ⟨y0, HI.out.come HT.out HP.out⟩⟩
set_option maxRecDepth 100000 in
set_option maxHeartbeats 8000000 in
theorem reads_claim (h : Gr W w gx b g l p K S xb ws o n m d s a q k zp z) (hk : k < 9223372036854775807) (ht : t < 7) (hp : p t = 1) : Calls Try.prog 33 #[.pointer (some ⟨gx, 0, none⟩), .int .i64 ((t : Nat) : Int)] w fun r w' => r = .returned (.bool true) ∧ ∃ n' xb', Gr W w' gx b g l (updN p t 2) K S xb' (ws.set (1 + t) ((K t + 1 : Nat) : Int)) false n' m d s a q (k + 1) zp z := by
  have HT := Lib.hid ht
  have HP := Lib.hid hp
  have ht7 : (t : Int) < 7 := by omega
  have H0 := Lib.hid h.y
  have HI := Lib.hid h.i
  have HK := Lib.hid hk
  obtain ⟨⟨i0, i1, i2, i3, i4, i5, i6⟩, i7, i8, i9, i10, i11, i12, i13, i14, i15⟩ := H0.out.cells
  clear i8 i9 i10
  have hon : onP p t = true := by simp [onP, hp]
  have HON := Lib.hid hon
  have hl := h.i.len
  have HE := Lib.hid (nine_one (ws := ws) (t := t) (K := (K t : Nat)) (S := (S t : Nat)) hl (by omega))
  rw [passV_nat (by have h1 := h.i.kk t ht (by omega); have h2 := h.i.mm; omega)] at HE
  have HO := Lib.hid (show cP ⟨0, 1, t, 1, (K t : Nat), (S t : Nat)⟩ ws true = false by unfold cP; rw [HE.out.1]; rfl)
  have HC : Hid (COk ⟨0, 1, t, 1, (K t : Nat), (S t : Nat)⟩) := ⟨.inr (.inl rfl), fun q => absurd (show (1 : Int) = 0 from q) (by decide), fun _ => by show ((S t : Nat) : Int) = 0; rw [h.i.z2 t ht (by omega) (by omega)]; rfl⟩
  clear h hp hon hl ht
  go_enter Try.func33, Try.ntmps33
  go_wp2_with (go_at_call 11; refine (open_any H0.out.m).mono ?_; rintro r w1 ⟨rfl, hm, hch⟩; have H1 := Lib.hid (H0.out.chg hm hch); obtain ⟨⟨c0, c1, c2, c3, c4, c5, c6⟩, c7, c8, c9, c10, c11, c12, c13, c14, c15⟩ := H1.out.cells; obtain ⟨ea, eb, ec, ev, ed, ee⟩ := H1.out.pe.at' HT.out; rw [show ((p t : Nat) : Int) = 1 from by rw [HP.out]; rfl] at ea; have eg := ed; rw [ee (HON.out)] at eg; clear ed; clear hm hch H0)
  have HD := Lib.hid (H1.out.hop (tb_drew (Below.refl _ _)))
  have HX := Lib.hid (show CmAt _ (xb t) ⟨0, 1, t, 1, (K t : Nat), (S t : Nat)⟩ from by have q := (HD.out.cm t HT.out HON.out).1; rw [HP.out] at q; exact q)
  refine wp_region_seq (fun w' => w'.cell? ⟨l, t * 2 + 1, none⟩ = some (.pointer (some ⟨xb t, 0, none⟩)) ∧ w'.cell? ⟨gx, 0, none⟩ = some (.pointer (some ⟨b, 0, none⟩))) ((0, true) :: (1, true) :: (2, true) :: (3, true) :: (4, true) :: (5, true) :: (6, true) :: (7, true) :: (8, false) :: (9, true) :: (10, true) :: (11, true) :: (12, true) :: (13, true) :: []) follows13 (by kernel_rfl) (fun _ _ _ _ _ h => h) ⟨eg, c0⟩ ?_
  repeat (first | (refine wpSeq_take (v := ?_) rfl (by rfl) (fun wq hSq => ?_) ?_; rotate_left; (focus ((try dsimp only at hSq); go_simp; try with_reducible rfl)); simp only [Act.put, List.setIfInBounds_toArray, List.set_cons_zero, List.set_cons_succ]) | (refine wpSeq_skip rfl (by rfl) ?_; simp only [Act.put, List.setIfInBounds_toArray, List.set_cons_zero, List.set_cons_succ]))
  refine wpSeq_do rfl (by rfl) (fun KK hK => ?_)
  go_simp
  refine (cstep_any HD.out.m HX.out HC.out).mono ?_
  rw [HE.out.1, HE.out.2.1, HE.out.2.2.1, HE.out.2.2.2, HO.out]
  rintro r w3 ⟨rfl, hm, hx, hch⟩
  have H3 := Lib.hid (HD.out.onC (N' := 2) (K' := K t) (S' := S t) HT.out HON.out hm hx hch)
  clear hm hx hch HD HX H1
  obtain ⟨⟨q0, q1, q2, q3, q4, q5, q6⟩, q7, q8, q9, q10, q11, q12, q13, q14, q15⟩ := H3.out.cells
  obtain ⟨ua, ub, uc, uv, ud, ue⟩ := H3.out.pe.at' HT.out; rw [show ((p t : Nat) : Int) = 1 from by rw [HP.out]; rfl] at ua; have ug := ud; rw [ue (HON.out)] at ug; clear ud
  refine hK.out _ _ ⟨ug, q0⟩ ?_
  clear hK KK
  try simp only [Act.put, List.setIfInBounds_toArray, List.set_cons_zero, List.set_cons_succ]
  repeat (first | (refine wpSeq_take (v := ?_) rfl (by rfl) (fun wq hSq => ?_) ?_; rotate_left; (focus ((try dsimp only at hSq); go_simp; try with_reducible rfl)); simp only [Act.put, List.setIfInBounds_toArray, List.set_cons_zero, List.set_cons_succ]) | (refine wpSeq_skip rfl (by rfl) ?_; simp only [Act.put, List.setIfInBounds_toArray, List.set_cons_zero, List.set_cons_succ]))
  refine wpSeq_nil ?_
  go_wp2
  have H4 := Lib.hid ((H3.out.setP t HT.out 2).hop (tb_drew (Below.refl _ _)))
  obtain ⟨⟨v0, v1, v2, v3, v4, v5, v6⟩, v7, v8, v9, v10, v11, v12, v13, v14, v15⟩ := H4.out.cells
  obtain ⟨sa, sb, sc, sv, sd, se⟩ := H4.out.pe.at' HT.out; rw [show ((updN p t 2 t : Nat) : Int) = 2 from by rw [updN_at]; rfl] at sa; have sg := sd; rw [se (HON.out)] at sg; clear sd
  refine wp_region_seq (fun w' => w'.cell? ⟨l, t * 2, none⟩ = some (.int .i64 2) ∧ w'.cell? ⟨l, t * 2 + 1, none⟩ = some (.pointer (some ⟨xb t, 0, none⟩))) ((0, true) :: (1, true) :: (2, true) :: (3, true) :: (4, true) :: (5, true) :: (6, true) :: (7, true) :: (8, true) :: (9, true) :: (10, true) :: (11, true) :: (12, true) :: (13, true) :: (14, true) :: (15, true) :: (16, true) :: (17, true) :: (18, true) :: (20, true) :: (21, true) :: (22, true) :: (23, true) :: (19, false) :: (24, false) :: (25, true) :: (26, true) :: (27, true) :: (28, true) :: []) follows13 (by kernel_rfl) (fun _ _ _ _ _ h => h) ⟨sa, sg⟩ ?_
  repeat (first | (refine wpSeq_take (v := ?_) rfl (by rfl) (fun wq hSq => ?_) ?_; rotate_left; (focus ((try dsimp only at hSq); go_simp; try with_reducible rfl)); simp only [Act.put, List.setIfInBounds_toArray, List.set_cons_zero, List.set_cons_succ]) | (refine wpSeq_skip rfl (by rfl) ?_; simp only [Act.put, List.setIfInBounds_toArray, List.set_cons_zero, List.set_cons_succ]))
  refine wpSeq_skip' rfl (by rfl) ⟨sa, sg⟩ ?_
  simp only [Act.put, List.setIfInBounds_toArray, List.set_cons_zero, List.set_cons_succ]
  refine wpSeq_skip' rfl (by rfl) ⟨sa, sg⟩ ?_
  simp only [Act.put, List.setIfInBounds_toArray, List.set_cons_zero, List.set_cons_succ]
  repeat (first | (refine wpSeq_take (v := ?_) rfl (by rfl) (fun wq hSq => ?_) ?_; rotate_left; (focus ((try dsimp only at hSq); go_simp; try with_reducible rfl)); simp only [Act.put, List.setIfInBounds_toArray, List.set_cons_zero, List.set_cons_succ]) | (refine wpSeq_skip rfl (by rfl) ?_; simp only [Act.put, List.setIfInBounds_toArray, List.set_cons_zero, List.set_cons_succ]))
  refine wpSeq_nil ?_
  go_wp2
  go_ret
  have y0 := H4.out
  rw [onP_go p t 2 (by omega) (by rw [HP.out]; omega)] at y0
  rw [updN_same, updN_same] at y0
  exact ⟨rfl, _, _, ⟨y0, HI.out.claim HT.out HP.out⟩⟩
set_option maxRecDepth 100000 in
set_option maxHeartbeats 8000000 in
theorem reads_stamp (h : Gr W w gx b g l p K S xb ws o n m d s a q k zp z) (hk : k < 9223372036854775807) (ht : t < 7) (hp : p t = 2) : Calls Try.prog 33 #[.pointer (some ⟨gx, 0, none⟩), .int .i64 ((t : Nat) : Int)] w fun r w' => r = .returned (.bool true) ∧ ∃ n' xb', Gr W w' gx b g l (updN p t 3) K (updN S t m) xb' ws false n' m d s a q (k + 1) zp z := by
  have HT := Lib.hid ht
  have HP := Lib.hid hp
  have ht7 : (t : Int) < 7 := by omega
  have H0 := Lib.hid h.y
  have HI := Lib.hid h.i
  have HK := Lib.hid hk
  obtain ⟨⟨i0, i1, i2, i3, i4, i5, i6⟩, i7, i8, i9, i10, i11, i12, i13, i14, i15⟩ := H0.out.cells
  clear i8 i9 i10
  have hon : onP p t = true := by simp [onP, hp]
  have HON := Lib.hid hon
  have hl := h.i.len
  have HE := Lib.hid (nine_two (ws := ws) (t := t) (K := (K t : Nat)) (S := (S t : Nat)) hl (by omega))
  rw [h.i.w0] at HE
  have HKM := Lib.hid (h.i.kk t ht (by omega))
  have HO := Lib.hid (show cP ⟨0, 1, t, 2, (K t : Nat), (S t : Nat)⟩ ws true = false by unfold cP; rw [HE.out.1]; rfl)
  have HC : Hid (COk ⟨0, 1, t, 2, (K t : Nat), (S t : Nat)⟩) := ⟨.inr (.inr (.inl rfl)), fun q => absurd (show (2 : Int) = 0 from q) (by decide), fun _ => by show ((S t : Nat) : Int) = 0; rw [h.i.z2 t ht (by omega) (by omega)]; rfl⟩
  clear h hp hon hl ht
  go_enter Try.func33, Try.ntmps33
  go_wp2_with (go_at_call 11; refine (open_any H0.out.m).mono ?_; rintro r w1 ⟨rfl, hm, hch⟩; have H1 := Lib.hid (H0.out.chg hm hch); obtain ⟨⟨c0, c1, c2, c3, c4, c5, c6⟩, c7, c8, c9, c10, c11, c12, c13, c14, c15⟩ := H1.out.cells; obtain ⟨ea, eb, ec, ev, ed, ee⟩ := H1.out.pe.at' HT.out; rw [show ((p t : Nat) : Int) = 2 from by rw [HP.out]; rfl] at ea; have eg := ed; rw [ee (HON.out)] at eg; clear ed; clear hm hch H0)
  have HD := Lib.hid (H1.out.hop (tb_drew (Below.refl _ _)))
  have HX := Lib.hid (show CmAt _ (xb t) ⟨0, 1, t, 2, (K t : Nat), (S t : Nat)⟩ from by have q := (HD.out.cm t HT.out HON.out).1; rw [HP.out] at q; exact q)
  refine wp_region_seq (fun w' => w'.cell? ⟨l, t * 2 + 1, none⟩ = some (.pointer (some ⟨xb t, 0, none⟩)) ∧ w'.cell? ⟨gx, 0, none⟩ = some (.pointer (some ⟨b, 0, none⟩))) ((0, true) :: (1, true) :: (2, true) :: (3, true) :: (4, true) :: (5, true) :: (6, true) :: (7, true) :: (8, false) :: (9, true) :: (10, true) :: (11, true) :: (12, true) :: (13, true) :: []) follows13 (by kernel_rfl) (fun _ _ _ _ _ h => h) ⟨eg, c0⟩ ?_
  repeat (first | (refine wpSeq_take (v := ?_) rfl (by rfl) (fun wq hSq => ?_) ?_; rotate_left; (focus ((try dsimp only at hSq); go_simp; try with_reducible rfl)); simp only [Act.put, List.setIfInBounds_toArray, List.set_cons_zero, List.set_cons_succ]) | (refine wpSeq_skip rfl (by rfl) ?_; simp only [Act.put, List.setIfInBounds_toArray, List.set_cons_zero, List.set_cons_succ]))
  refine wpSeq_do rfl (by rfl) (fun KK hK => ?_)
  go_simp
  refine (cstep_any HD.out.m HX.out HC.out).mono ?_
  rw [HE.out.1, HE.out.2.1, HE.out.2.2.1, HE.out.2.2.2, HO.out]
  rintro r w3 ⟨rfl, hm, hx, hch⟩
  have H3 := Lib.hid (HD.out.onC (N' := 3) (K' := K t) (S' := m) HT.out HON.out hm hx hch)
  clear hm hx hch HD HX H1
  obtain ⟨⟨q0, q1, q2, q3, q4, q5, q6⟩, q7, q8, q9, q10, q11, q12, q13, q14, q15⟩ := H3.out.cells
  obtain ⟨ua, ub, uc, uv, ud, ue⟩ := H3.out.pe.at' HT.out; rw [show ((p t : Nat) : Int) = 2 from by rw [HP.out]; rfl] at ua; have ug := ud; rw [ue (HON.out)] at ug; clear ud
  refine hK.out _ _ ⟨ug, q0⟩ ?_
  clear hK KK
  try simp only [Act.put, List.setIfInBounds_toArray, List.set_cons_zero, List.set_cons_succ]
  repeat (first | (refine wpSeq_take (v := ?_) rfl (by rfl) (fun wq hSq => ?_) ?_; rotate_left; (focus ((try dsimp only at hSq); go_simp; try with_reducible rfl)); simp only [Act.put, List.setIfInBounds_toArray, List.set_cons_zero, List.set_cons_succ]) | (refine wpSeq_skip rfl (by rfl) ?_; simp only [Act.put, List.setIfInBounds_toArray, List.set_cons_zero, List.set_cons_succ]))
  refine wpSeq_nil ?_
  go_wp2
  have H4 := Lib.hid ((H3.out.setP t HT.out 3).hop (tb_drew (Below.refl _ _)))
  obtain ⟨⟨v0, v1, v2, v3, v4, v5, v6⟩, v7, v8, v9, v10, v11, v12, v13, v14, v15⟩ := H4.out.cells
  obtain ⟨sa, sb, sc, sv, sd, se⟩ := H4.out.pe.at' HT.out; rw [show ((updN p t 3 t : Nat) : Int) = 3 from by rw [updN_at]; rfl] at sa; have sg := sd; rw [se (HON.out)] at sg; clear sd
  have HX4 := Lib.hid (show CmAt _ (xb t) ⟨0, 1, t, 3, (K t : Nat), (m : Nat)⟩ from by have q := (H4.out.cm t HT.out HON.out).1; rw [updN_at, updN_at, updN_at] at q; exact q)
  have hkm : ((K t : Nat) : Int) ≤ (m : Int) := by have := HKM.out; omega
  refine wp_region_seq (fun w' => w'.cell? ⟨l, t * 2, none⟩ = some (.int .i64 3) ∧ w'.cell? ⟨l, t * 2 + 1, none⟩ = some (.pointer (some ⟨xb t, 0, none⟩))) ((0, true) :: (1, true) :: (2, true) :: (3, true) :: (4, true) :: (5, true) :: (6, true) :: (7, true) :: (8, true) :: (9, true) :: (10, true) :: (11, true) :: (12, true) :: (13, true) :: (14, true) :: (15, true) :: (16, true) :: (17, true) :: (18, true) :: (20, true) :: (21, true) :: (22, true) :: (23, true) :: (19, false) :: (24, false) :: (25, true) :: (26, true) :: (27, true) :: (28, true) :: []) follows13 (by kernel_rfl) (fun _ _ _ _ _ h => h) ⟨sa, sg⟩ ?_
  repeat (first | (refine wpSeq_take (v := ?_) rfl (by rfl) (fun wq hSq => ?_) ?_; rotate_left; (focus ((try dsimp only at hSq); go_simp; try with_reducible rfl)); simp only [Act.put, List.setIfInBounds_toArray, List.set_cons_zero, List.set_cons_succ]) | (refine wpSeq_skip rfl (by rfl) ?_; simp only [Act.put, List.setIfInBounds_toArray, List.set_cons_zero, List.set_cons_succ]))
  refine wpSeq_do rfl (by rfl) (fun KK hK => ?_)
  go_simp
  refine (claim_any HX4.out).mono ?_
  rintro r wt ⟨rfl, hw⟩
  subst wt
  refine hK.out _ _ ⟨sa, sg⟩ ?_
  clear hK KK
  refine wpSeq_do rfl (by rfl) (fun KK hK => ?_)
  go_simp
  refine (stampC_any HX4.out).mono ?_
  rintro r wt ⟨rfl, hw⟩
  subst wt
  refine hK.out _ _ ⟨sa, sg⟩ ?_
  clear hK KK
  repeat (first | (refine wpSeq_take (v := ?_) rfl (by rfl) (fun wq hSq => ?_) ?_; rotate_left; (focus ((try dsimp only at hSq); go_simp; try with_reducible rfl)); simp only [Act.put, List.setIfInBounds_toArray, List.set_cons_zero, List.set_cons_succ]) | (refine wpSeq_skip rfl (by rfl) ?_; simp only [Act.put, List.setIfInBounds_toArray, List.set_cons_zero, List.set_cons_succ]))
  refine wpSeq_nil ?_
  go_wp2
  go_ret
  have y0 := H4.out
  rw [onP_go p t 3 (by omega) (by rw [HP.out]; omega)] at y0
  rw [updN_same] at y0
  exact ⟨by simp, _, _, ⟨y0, HI.out.stamp HT.out HP.out⟩⟩
/-- any of the four -/
theorem reads_any (h : Gr W w gx b g l p K S xb ws o n m d s a q k zp z) (hk : k < 9223372036854775807) (ht : t < 7) : Calls Try.prog 33 #[.pointer (some ⟨gx, 0, none⟩), .int .i64 ((t : Nat) : Int)] w fun r w' => r = .returned (.bool true) ∧ ∃ p' K' S' xb' ws' o' n', Gr W w' gx b g l p' K' S' xb' ws' o' n' m d s a q (k + 1) zp z ∧ (p t = 0 → p' t = 1 ∧ K' t = m) := by
  have h3 := h.i.p3 t ht
  rcases (show p t = 0 ∨ p t = 1 ∨ p t = 2 ∨ p t = 3 by omega) with hp | hp | hp | hp
  · exact (reads_come h hk ht hp).mono fun r w' ⟨hr, n', xb', hg⟩ => ⟨hr, _, _, _, _, _, _, _, hg, fun _ => ⟨updN_at _ _ _, updN_at _ _ _⟩⟩
  · exact (reads_claim h hk ht hp).mono fun r w' ⟨hr, n', xb', hg⟩ => ⟨hr, _, _, _, _, _, _, _, hg, fun q => by omega⟩
  · exact (reads_stamp h hk ht hp).mono fun r w' ⟨hr, n', xb', hg⟩ => ⟨hr, _, _, _, _, _, _, _, hg, fun q => by omega⟩
  · exact (reads_leave h hk ht hp).mono fun r w' ⟨hr, n', xb', hg⟩ => ⟨hr, _, _, _, _, _, _, _, hg, fun q => by omega⟩
end
end Go.Proofs.Ytdfmmolhfacahaa
