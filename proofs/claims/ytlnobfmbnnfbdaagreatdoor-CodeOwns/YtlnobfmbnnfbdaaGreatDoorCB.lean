import Derived.Test.YtlnobfmbnnfbdaaGreatDoorC4
import Derived.Test.YtlnobfmbnnfbdaaGreatDoorShelf
import Derived.Shelf.Strings.BuilderK
namespace Go.Proofs.YtlnobfmbnnfbdaaGreatDoor
open Go.ChangeShapes Go.WideShapes Go.ChangeAt Go.RowKit

/-! strings.Builder's writers: the layings that the command leaves out -/
def ren167 : Go.Shelf.Ren := ⟨fun | 167 => 30 | 240 => 41 | 276 => 56 | n => n, Tryz.lays105_ren.t, Tryz.lays105_ren.g⟩
theorem lays167 : Lays.n167 Tryz.prog ren167 := {
  mixed := Tryz.lays105.mixed
  f167 := Tryz.func30.trans (congrArg some (by kernel_rfl))
  f240 := Tryz.func41.trans (congrArg some (by kernel_rfl))
  f276 := Tryz.func56.trans (congrArg some (by kernel_rfl))
  t0 := Tryz.lays105.t0
  a0 := Tryz.lays105.a0
  z0 := Tryz.lays105.z0
  v0 := Tryz.lays105.v0
  t4 := Tryz.lays105.t4
  a4 := Tryz.lays105.a4
  z4 := Tryz.lays105.z4
  v4 := Tryz.lays105.v4
  t5 := Tryz.lays105.t5
  a5 := Tryz.lays105.a5
  z5 := Tryz.lays105.z5
  v5 := Tryz.lays105.v5
  t9 := Tryz.lays105.t9
  a9 := Tryz.lays105.a9
  z9 := Tryz.lays105.z9
  v9 := Tryz.lays105.v9
  t20 := Tryz.lays105.t20
  a20 := Tryz.lays105.a20
  z20 := Tryz.lays105.z20
  v20 := Tryz.lays105.v20
  t37 := Tryz.lays105.t37
  a37 := Tryz.lays105.a37
  z37 := Tryz.lays105.z37
  v37 := Tryz.lays105.v37
  t70 := Tryz.lays105.t70
  a70 := Tryz.lays105.a70
  z70 := Tryz.lays105.z70
  v70 := Tryz.lays105.v70
  t72 := Tryz.lays105.t72
  a72 := Tryz.lays105.a72
  z72 := Tryz.lays105.z72
  v72 := Tryz.lays105.v72
  t75 := Tryz.lays105.t75
  a75 := Tryz.lays105.a75
  z75 := Tryz.lays105.z75
  v75 := Tryz.lays105.v75
  t164 := Tryz.lays105.t164
  a164 := Tryz.lays105.a164
  z164 := Tryz.lays105.z164
  v164 := Tryz.lays105.v164 }
theorem extra167 : Builder.Extra Tryz.prog ren167 := {
  sizeBuilder := by kernel_rfl
  liesBuilder := by kernel_rfl
  t5 := Tryz.Builder_Extra_105.t5
  a5 := Tryz.Builder_Extra_105.a5
  z5 := Tryz.Builder_Extra_105.z5
  v5 := Tryz.Builder_Extra_105.v5
  infoByte := by kernel_rfl
  cellsByte := by kernel_rfl
  sizeByte := by kernel_rfl
  neB5 := by decide }
theorem lays166 : Lays.n166 Tryz.prog Tryz.lays105_ren := { Tryz.lays105 with }
/-- a builder that holds these bytes, all of it from B on -/
def Bld (B : Nat) (w : World) (b : Nat) (l : List UInt8) : Prop := Lib.IsBuilderF 57 5 B b (Lib.byteCells l) w
theorem ownsF_on {B E k : Nat} {w w' : World} {v : Value} {n : Nat} {xs : List Value} (h : w.ownsRowF B E k v n xs) (hb : Below w.heap.size w w') : w'.ownsRowF B E k v n xs := by
  obtain ⟨h1, h2⟩ := h
  refine ⟨h1, ?_⟩
  rcases h2 with q | ⟨g, cap, cur, fz, hv, hB, hg, rest⟩
  · exact .inl q
  · exact .inr ⟨g, cap, cur, fz, hv, hB, (hb.block g (lt_of_block hg)).trans hg, rest⟩
theorem Bld.on {B b : Nat} {w w' : World} {l : List UInt8} (h : Bld B w b l) (hb : Below w.heap.size w w') : Bld B w' b l := by
  have go : ∀ p, Lib.BuilderAtF 57 5 B b p (Lib.byteCells l) w → Lib.BuilderAtF 57 5 B b p (Lib.byteCells l) w' := fun p ⟨h1, v, hbk, ho, hn⟩ => ⟨h1, v, (hb.block b (lt_of_block hbk)).trans hbk, ownsF_on ho hb, hn⟩
  exact h.elim (fun q => .inl (go _ q)) (fun q => .inr (go _ q))
theorem bld_new (w : World) : Bld w.heap.size (w.alloc (.cells #[.pointer none, .slice none 0 0] 57)) w.heap.size [] := Lib.IsBuilderF.of (Lib.fresh_isBuilder 57 5 w)
theorem writeString_any {B b : Nat} {w : World} {l : List UInt8} (h : Bld B w b l) (hB : B ≤ w.heap.size) (s : List UInt8) (hl : l.length + s.length ≤ 140737488355328) :
    Calls Tryz.prog 28 #[.pointer (some ⟨b, 0, none⟩), .string ⟨s.toArray⟩] w fun e w' => e = .returned (.tuple #[.int .i64 s.length, .nilIface]) ∧ Bld B w' b (l ++ s) ∧ Below B w w' := by
  refine (Any.Builder_WriteString_k lays166 Tryz.Builder_Extra_105 B b _ ⟨s.toArray⟩ w h (by rw [Lib.byteCells_length]; exact hl) hB).mono ?_
  rintro e w' ⟨rfl, h1, h2, _⟩
  refine ⟨rfl, ?_, h2⟩
  unfold Bld
  rw [Lib.byteCells_append]
  exact .inr h1
theorem writeByte_any {B b : Nat} {w : World} {l : List UInt8} (h : Bld B w b l) (hB : B ≤ w.heap.size) (c : UInt8) (hl : l.length + 1 ≤ 140737488355328) :
    Calls Tryz.prog 30 #[.pointer (some ⟨b, 0, none⟩), .int .u8 c.toNat] w fun e w' => e = .returned .nilIface ∧ Bld B w' b (l ++ [c]) ∧ Below B w w' := by
  refine (Any.Builder_WriteByte_k lays167 extra167 B b _ c.toNat w h (by rw [Lib.byteCells_length]; exact hl) hB).mono ?_
  rintro e w' ⟨rfl, h1, h2, _⟩
  refine ⟨rfl, ?_, h2⟩
  unfold Bld
  rw [Lib.byteCells_append]
  exact .inr h1
theorem string_any {B b : Nat} {w : World} {l : List UInt8} (h : Bld B w b l) (hB : B ≤ w.heap.size) :
    Calls Tryz.prog 32 #[.pointer (some ⟨b, 0, none⟩)] w fun e w' => e = .returned (.string ⟨l.toArray⟩) ∧ Below B w w' := by
  refine (Any.Builder_String_any_k Tryz.lays169 Tryz.Builder_Extra_169 B b l w h hB).mono ?_
  rintro e w' ⟨rfl, _, h2, _⟩
  exact ⟨rfl, h2⟩
end Go.Proofs.YtlnobfmbnnfbdaaGreatDoor
