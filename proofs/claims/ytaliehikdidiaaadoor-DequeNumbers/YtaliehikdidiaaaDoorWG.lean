/- stage 22 (deque): the row of pieces -/
import Derived.Test.YtaliehikdidiaaaDoorWF
namespace Go.Proofs.YtaliehikdidiaaaDoor.Dq
open Go.ChangeShapes Go.WideShapes Go.ChangeAt Go.RowKit Num Go.Maps As
open Go.ChangeMaps Go.MapKept
attribute [local go_sem] run_store_float frombits_run bits_run

theorem wf_small {n : Int} (h : 0 ≤ n ∧ n ≤ 1000) : Wf n := by
  show (Lit.int .i64 n).wf = true
  have e1 : IntKind.i64.min = -9223372036854775808 := by decide
  have e2 : IntKind.i64.max = 9223372036854775807 := by decide
  simp [Lit.wf]
  omega
theorem Acc.over {W u u' : World} {L : List (Value × List O)} {v : Value} {l : List O} (h : Acc W u L) (k : Does u' v l ∧ Below u.heap.size u u') : Acc W u' ((v, l) :: L) := h.more k
def needO (R : Int) : List O := [⟨0, 7, 1⟩, ⟨1, 0, R⟩, ⟨0, 10, 8⟩, ⟨2, 12, 0⟩, ⟨0, 19, 1⟩, ⟨3, 0, 0⟩]
def cellO (B R : Int) : List O := [⟨0, 7, 0⟩, ⟨0, 10, 1⟩, ⟨1, 0, R⟩, ⟨0, 10, 5⟩, ⟨1, 0, B + 2⟩, ⟨0, 10, 1⟩]
theorem join_on {u : World} {W : World} {L : List (Value × List O)} {vs : Array Value} {k : Nat} (h : Acc W u L) (hv : (L.reverse.map (·.1)).toArray = vs) (hk : L.length = k) (hk2 : k ≤ 4096) : Calls Tryd.prog 16 #[.slice (some ⟨u.heap.size, 0, none⟩) k k] (u.alloc (.cells vs 33)) fun e w' => Gv u (catL L.reverse) e w' :=
  join_acc ⟨Below.refl _ _, h.it⟩ hv hk hk2
abbrev rwA (f : Nat → Nat × Array Value) : Array Value := #[fv (f 0).1 (f 0).2, fv (f 1).1 (f 1).2, fv (f 2).1 (f 2).2, fv (f 3).1 (f 3).2, fv (f 4).1 (f 4).2, fv (f 5).1 (f 5).2, fv (f 6).1 (f 6).2, fv (f 7).1 (f 7).2, fv (f 8).1 (f 8).2]
theorem rw_one (f : Nat → Nat × Array Value) : (rwA f).all (·.oneCell') = true := by simp [Value.oneCell']
abbrev rwZ : Obj := .cells #[.nilFunc, .nilFunc, .nilFunc, .nilFunc, .nilFunc, .nilFunc, .nilFunc, .nilFunc, .nilFunc] 37
/-- what each field of a row does -/
def rowO (B R : Int) : Nat → List O
  | 0 => loadO B 0
  | 1 => turnO B R 0 1
  | 2 => turnO B R 0 (R - 1)
  | 3 => loadO (B + 1) 1
  | 4 => turnO (B + 1) (R + 1) 1 1
  | 5 => turnO (B + 1) (R + 1) 1 R
  | 6 => needO R
  | 7 => foldO R
  | _ => cellO B R
structure RwAt (w : World) (f : Nat → Nat × Array Value) (B R : Int) : Prop where
  at_ : ∀ i, i < 9 → Does w (fv (f i).1 (f i).2) (rowO B R i)
theorem RwAt.ag {w w' : World} {f : Nat → Nat × Array Value} {B R : Int} (h : RwAt w f B R) (k : Agree w w') : RwAt w' f B R := ⟨fun i hi => (h.at_ i hi).ag k⟩
theorem RwAt.on {w w' : World} {f : Nat → Nat × Array Value} {B R : Int} (h : RwAt w f B R) (k : Below w.heap.size w w') : RwAt w' f B R := h.ag (agree_of k)
def pick9 (a0 a1 a2 a3 a4 a5 a6 a7 a8 : Nat × Array Value) : Nat → Nat × Array Value
  | 0 => a0
  | 1 => a1
  | 2 => a2
  | 3 => a3
  | 4 => a4
  | 5 => a5
  | 6 => a6
  | 7 => a7
  | _ => a8
set_option maxRecDepth 100000 in
set_option maxHeartbeats 300000 in
theorem c_rowAt {B R : Int} (hB : 0 ≤ B ∧ B ≤ 256) (hR : 0 ≤ R ∧ R ≤ 16) (w : World) : Calls Tryd.prog 6 #[.int .i64 B, .int .i64 R] w fun e w' => ∃ f, e = .returned (.agg (rwA f)) ∧ Hid (RwAt w' f B R ∧ Below w.heap.size w w') := by
  have hs1 : IntKind.i64.wrap (R - 1) = R - 1 := Go.IntWalk.i64_in _ ⟨by omega, by omega⟩
  have hs2 : IntKind.i64.wrap (R + 1 - 1) = R + 1 - 1 := Go.IntWalk.i64_in _ ⟨by omega, by omega⟩
  have w0 : wrap64 B = B := by unfold wrap64; omega
  have w1 : wrap64 (B + 1) = B + 1 := by unfold wrap64; omega
  have w2 : wrap64 (R + 1) = R + 1 := by unfold wrap64; omega
  have w3 : wrap64 (B + 2) = B + 2 := by unfold wrap64; omega
  have A : Hid (Acc (w.alloc rwZ) (w.alloc rwZ) []) := acc_nil (Below.refl _ _)
  have HZ := Lib.hid (heap_alloc_new w rwZ)
  have C0 : Hid (∀ u, _) := fun u => c_foldTo R u
  go_enter Tryd.func6, Tryd.ntmps6
  go_wp2_with (first
    | (refine wpList_store_row rfl 37 _ _ rfl w.heap.size (rwA (pick9 (fxa, kxa) (fxb, kxb) (fxc, kxc) (fya, kya) (fyb, kyb) (fyc, kyc) (fN, kN) (fF, kF) (fC, kC))) rfl rfl _ _ ((A.out.bl.block _ (lt_of_block HZ.out)).trans HZ.out) rowInfo rfl (rw_one _) ?_)
    | (go_at_call 14; refine (C0.out _).mono ?_; rintro e u0 ⟨fF, kF, rfl, h⟩; replace A := Lib.hid (A.out.more h.out); clear h C0; have C1 : Hid (∀ u, _) := fun u => c_dialAt B R 0 hs1 u)
    | (go_at_call 15; refine (C1.out _).mono ?_; rintro e u1 ⟨⟨fxa, kxa⟩, ⟨fxb, kxb⟩, ⟨fxc, kxc⟩, rfl, h⟩; replace A := Lib.hid (((A.out.more ⟨h.out.1, h.out.2.2.2⟩).also h.out.2.1).also h.out.2.2.1); clear h C1; have C2 : Hid (∀ u, _) := fun u => c_dialAt (B + 1) (R + 1) 1 hs2 u)
    | (go_at_call 15; refine (C2.out _).mono ?_; rintro e u2 ⟨⟨fya, kya⟩, ⟨fyb, kyb⟩, ⟨fyc, kyc⟩, rfl, h⟩; replace A := Lib.hid (((A.out.more ⟨h.out.1, h.out.2.2.2⟩).also h.out.2.1).also h.out.2.2.1); clear h C2; have C3 : Hid (∀ u, _) := fun u => c_get 1 u)
    | (go_at_call 17; refine (C3.out _).mono ?_; rintro e u3 ⟨f1, k1, rfl, h⟩; replace A := Lib.hid (A.out.more h.out); clear h C3; have C4 : Hid (∀ u, _) := fun u => c_push R u)
    | (go_at_call 18; refine (C4.out _).mono ?_; rintro e u4 ⟨f2, k2, rfl, h⟩; replace A := Lib.hid (A.out.more h.out); clear h C4; have C5 : Hid (∀ u, _) := fun u => c_two 8 u)
    | (go_at_call 19; refine (C5.out _).mono ?_; rintro e u5 ⟨f3, k3, rfl, h⟩; replace A := Lib.hid (A.out.more h.out); clear h C5; have C6 : Hid (∀ u, _) := fun u => c_to 12 0 (wf_small (by decide)) u)
    | (go_at_call 20; refine (C6.out _).mono ?_; rintro e u6 ⟨f4, k4, rfl, h⟩; replace A := Lib.hid (A.out.more h.out); clear h C6; have C7 : Hid (∀ u, _) := fun u => c_do 19 1 u)
    | (go_at_call 21; refine (C7.out _).mono ?_; rintro e u7 ⟨f5, k5, rfl, h⟩; replace A := Lib.hid (A.out.more h.out); clear h C7; have C8 : Hid (∀ u, _) := fun u => c_mark 0 (wf_small (by decide)) u)
    | (go_at_call 22; refine (C8.out _).mono ?_; rintro e u8 ⟨f6, k6, rfl, h⟩; replace A := Lib.hid (A.out.more h.out); clear h C8; have C9 : Hid True := trivial)
    | (go_at_call 16; have C9m := C9.out; refine (join_on (L := [(fv f6 k6, [⟨3, 0, 0⟩]), (fv f5 k5, [⟨0, 19, 1⟩]), (fv f4 k4, [⟨2, 12, 0⟩]), (fv f3 k3, [⟨0, 10, 8⟩]), (fv f2 k2, [⟨1, 0, R⟩]), (fv f1 k1, [⟨0, 7, 1⟩])]) (A.out.sub (by simp)) rfl rfl (Nat.le_of_ble_eq_true rfl)).mono ?_; rintro e u9 ⟨fN, kN, rfl, h⟩; replace A := Lib.hid (A.out.over h.out); clear h C9 C9m; have C10 : Hid (∀ u, _) := fun u => c_get 0 u)
    | (go_at_call 17; refine (C10.out _).mono ?_; rintro e u10 ⟨f7, k7, rfl, h⟩; replace A := Lib.hid (A.out.more h.out); clear h C10; have C11 : Hid (∀ u, _) := fun u => c_two 1 u)
    | (go_at_call 19; refine (C11.out _).mono ?_; rintro e u11 ⟨f8, k8, rfl, h⟩; replace A := Lib.hid (A.out.more h.out); clear h C11; have C12 : Hid (∀ u, _) := fun u => c_push (B + 2) u)
    | (go_at_call 18; refine (C12.out _).mono ?_; rintro e u12 ⟨f9, k9, rfl, h⟩; replace A := Lib.hid (A.out.more h.out); clear h C12; have C13 : Hid (∀ u, _) := fun u => c_two 1 u)
    | (go_at_call 19; refine (C13.out _).mono ?_; rintro e u13 ⟨f10, k10, rfl, h⟩; replace A := Lib.hid (A.out.more h.out); clear h C13; have C14 : Hid True := trivial)
    | (go_at_call 16; have C14m := C14.out; refine (join_on (L := [(fv f10 k10, [⟨0, 10, 1⟩]), (fv f9 k9, [⟨1, 0, B + 2⟩]), (fv fF kF, foldO R), (fv f8 k8, [⟨0, 10, 1⟩]), (fv f7 k7, [⟨0, 7, 0⟩])]) (A.out.sub (by simp)) rfl rfl (Nat.le_of_ble_eq_true rfl)).mono ?_; rintro e u14 ⟨fC, kC, rfl, h⟩; replace A := Lib.hid (A.out.over h.out); clear h C14 C14m))
  have hb := (A.out.bl.block _ (lt_of_block HZ.out)).trans HZ.out
  have hag := agree_set (cs := rwA (pick9 (fxa, kxa) (fxb, kxb) (fxc, kxc) (fya, kya) (fyb, kyb) (fyc, kyc) (fN, kN) (fF, kF) (fC, kC))) hb (by decide) (by decide) (by decide)
  refine row_back rfl w.heap.size _ rfl rfl (setRow_heap _ _ _ _ _ _ hb) rfl ⟨(pick9 (fxa, kxa) (fxb, kxb) (fxc, kxc) (fya, kya) (fyb, kyb) (fyc, kyc) (fN, kN) (fF, kF) (fC, kC)), rfl, ⟨fun i hi => ?_⟩, ((bl1 w rwZ).trans (A.out.bl.mono (by simp))).trans ⟨rfl, rfl, rfl, by simp, fun k hk => setRow_other _ _ k _ (by omega)⟩⟩
  have q := A.out.it
  have e5 : R + 1 - 1 = R := by omega
  rw [e5] at q
  have key : ∀ t : Value × List O, t ∈ _ → Does _ t.1 t.2 := q
  match i, hi with
  | 0, _ => exact (key (fv fxa kxa, loadO B 0) (by simp)).ag hag
  | 1, _ => exact (key (fv fxb kxb, turnO B R 0 1) (by simp)).ag hag
  | 2, _ => exact (key (fv fxc kxc, turnO B R 0 (R - 1)) (by simp)).ag hag
  | 3, _ => exact (key (fv fya kya, loadO (B + 1) 1) (by simp)).ag hag
  | 4, _ => exact (key (fv fyb kyb, turnO (B + 1) (R + 1) 1 1) (by simp)).ag hag
  | 5, _ => exact (key (fv fyc kyc, turnO (B + 1) (R + 1) 1 R) (by simp)).ag hag
  | 6, _ => exact (show Does _ (fv fN kN) (needO R) from key (fv fN kN, catL (List.reverse [(fv f6 k6, [⟨3, 0, 0⟩]), (fv f5 k5, [⟨0, 19, 1⟩]), (fv f4 k4, [⟨2, 12, 0⟩]), (fv f3 k3, [⟨0, 10, 8⟩]), (fv f2 k2, [⟨1, 0, R⟩]), (fv f1 k1, [⟨0, 7, 1⟩])])) (by simp)).ag hag
  | 7, _ => exact (key (fv fF kF, foldO R) (by simp)).ag hag
  | 8, _ => exact (show Does _ (fv fC kC) (cellO B R) from key (fv fC kC, catL (List.reverse [(fv f10 k10, [⟨0, 10, 1⟩]), (fv f9 k9, [⟨1, 0, B + 2⟩]), (fv fF kF, foldO R), (fv f8 k8, [⟨0, 10, 1⟩]), (fv f7 k7, [⟨0, 7, 0⟩])])) (by simp)).ag hag
end Go.Proofs.YtaliehikdidiaaaDoor.Dq
