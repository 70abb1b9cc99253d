/- stage 19 (asm): AsmPlaces: the map of labels beside a builder -/
import Derived.Test.YtmoafflimfhaiaaDoorN18
import Derived.Test.YtmoafflimfhaiaaDoorC9
namespace Go.Proofs.YtmoafflimfhaiaaDoor.As
open Go.ChangeShapes Go.WideShapes Go.ChangeAt Go.RowKit Num Go.Maps
open Go.ChangeMaps Go.MapKept

/-- block b is a map that holds the label of each place -/
def MapJ (w : World) (b : Nat) (K : List Int) : Prop :=
  ∃ D : DataW Unit, w.ownsMap Tryd.prog 3 iEl b K.length D ∧ Maps.size D = K.length ∧ ∀ c, Wf c → Maps.has D (.int .i64 c) = decide (c ∈ K) ∧ D.atKey (.int .i64 c) (.lit (.int .i64 0)) = .lit (.int .i64 (jv K c))
/-- what Label tells for the next place -/
def nxV (K : List Int) : Int := if K.length < 256 then (K.length : Nat) else -1
theorem jv_app {K : List Int} {c d : Int} (hc : c ∉ K) : jv (K ++ [c]) d = if c = d then nxV K else jv K d := by
  unfold jv nxV
  by_cases h : c = d
  · subst h
    rw [if_pos rfl, if_pos (by simp), ix_new hc]
  · rw [if_neg h]
    by_cases q : d ∈ K
    · rw [if_pos q, if_pos (List.mem_append_left _ q), ix_app q]
    · rw [if_neg q, if_neg (by simp [q]; exact fun e => h e.symm)]
theorem jv_in {K : List Int} {c : Int} (h : c ∈ K) (hK : K.length ≤ 256) : jv K c = (ix K c : Nat) := by
  unfold jv
  rw [if_pos h, if_pos (Nat.lt_of_lt_of_le (ix_lt h) hK)]
section
variable {w w' : World} {b : Nat} {K : List Int}
theorem MapJ.lt (h : MapJ w b K) : b < w.heap.size := by obtain ⟨D, h1, _⟩ := h; exact h1.lt
theorem MapJ.keep (h : MapJ w b K) (k : w'.heap[b]? = w.heap[b]?) : MapJ w' b K := by
  obtain ⟨D, ⟨es, clock, hb, x⟩, h2⟩ := h
  exact ⟨D, ⟨es, clock, k.trans hb, x⟩, h2⟩
theorem mapJ_new (w : World) : MapJ (w.alloc (.map #[] 0)) w.heap.size [] := ⟨.map [], World.ownsMap_made w _ _ _, rfl, fun _ _ => ⟨rfl, rfl⟩⟩
theorem MapJ.look (h : MapJ w b K) {c : Int} (hc : Wf c) : (Instr.lookup 40 (.map (some b)) (.int .i64 c) true).run Tryd.prog w = .ok (.tuple #[.int .i64 (jv K c), .bool (decide (c ∈ K))]) w := by
  obtain ⟨D, h1, _, h3⟩ := h
  obtain ⟨v, ps, hrun, hv⟩ := h1.look_ok keyI Tryd.underlying40 (zeroI w) (zd := .lit (.int .i64 0)) (zp := []) rfl (keyOf_int_mk Tryd.underlying3 hc)
  rw [(h3 c hc).2] at hv
  rw [hrun, iElem_inv hv, (h3 c hc).1]
theorem MapJ.look1 (h : MapJ w b K) {c : Int} (hc : Wf c) : (Instr.lookup 40 (.map (some b)) (.int .i64 c) false).run Tryd.prog w = .ok (.int .i64 (jv K c)) w := by
  obtain ⟨D, h1, _, h3⟩ := h
  obtain ⟨v, ps, hrun, hv⟩ := h1.lookup keyI Tryd.underlying40 (zeroI w) (zd := .lit (.int .i64 0)) (zp := []) rfl (keyOf_int_mk Tryd.underlying3 hc)
  rw [(h3 c hc).2] at hv
  rw [hrun, iElem_inv hv]
theorem MapJ.len (h : MapJ w b K) (ty : TypeId) : (Builtin.len_ #[40] ty #[.map (some b)]).run Tryd.prog w = .ok (.int .i64 (K.length : Nat)) w := by
  obtain ⟨D, h1, h2, _⟩ := h
  rw [h1.len Tryd.underlying40 ty, h2]
theorem MapJ.lay (h : MapJ w b K) {c : Int} (hc : Wf c) (hno : c ∉ K) (hn : K.length < maxLen) : ∃ w', (Instr.mapUpdate 40 (.map (some b)) (.int .i64 c) (.int .i64 (nxV K))).run Tryd.prog w = .ok () w' ∧ MapJ w' b (K ++ [c]) ∧ Turn [b] [b] w w' := by
  obtain ⟨D, h1, h2, h3⟩ := h
  have hk := keyOf_int_mk Tryd.underlying3 hc
  obtain ⟨w', hrun, ho, hg⟩ := h1.update keyI Tryd.underlying40 hn hk (val := .int .i64 (nxV K)) (d := .lit (.int .i64 (nxV K))) (ps := []) rfl
  have hs : Maps.size (D.put (.int .i64 c) (.lit (.int .i64 (nxV K)))) = (K ++ [c]).length := by
    rw [size_put (h1.tidy keyI), (h3 c hc).1, h2]
    simp [hno]
  have ho2 := size_is ho
  rw [hs] at ho2
  refine ⟨w', hrun, ⟨_, ho2, hs, fun d hd => ?_⟩, grown_turn hg⟩
  rw [jv_app hno]
  by_cases e : c = d
  · subst e
    rw [has_put_same h1.isMap (keyI.key hk), atKey_put_same h1.isMap (keyI.key hk), if_pos rfl]
    simp
  · rw [has_put_other (lit_ne e), atKey_put_other (lit_ne e), if_neg e]
    refine ⟨?_, (h3 d hd).2⟩
    rw [(h3 d hd).1]
    simp [show ¬ d = c from fun z => e z.symm]
end
/-- a builder and the map of its labels, all of it new since W -/
def Pl (W w : World) (b bm : Nat) (s : Bs) (K : List Int) : Prop := ∃ F, Bld w b F s ∧ Abv W.heap.size F ∧ Below W.heap.size W w ∧ bm ∉ F ∧ W.heap.size ≤ bm ∧ MapJ w bm K
section
variable {W w u u' : World} {b bm : Nat} {s s' : Bs} {K : List Int}
theorem Pl.bel (h : Pl W u b bm s K) : Below W.heap.size W u := by obtain ⟨F, _, _, h3, _⟩ := h; exact h3
theorem Pl.map (h : Pl W u b bm s K) : MapJ u bm K := by obtain ⟨F, _, _, _, _, _, h6⟩ := h; exact h6
theorem Pl.ok (h : Pl W u b bm s K) : On W u b s := by obtain ⟨F, h1, h2, h3, _⟩ := h; exact ⟨F, h1, h2, h3⟩
theorem Pl.on (h : Pl W u b bm s K) (q : Below u.heap.size u u') : Pl W u' b bm s K := by
  obtain ⟨F, h1, h2, h3, h4, h5, h6⟩ := h
  exact ⟨F, h1.on q, h2, h3.trans (q.mono h3.size), h4, h5, h6.keep (q.block _ h6.lt)⟩
theorem pl_turn {F F' : List Nat} (a : Abv W.heap.size F) (k : Below W.heap.size W u) (n : bm ∉ F) (l : W.heap.size ≤ bm) (m : MapJ u bm K) (h' : Bld u' b F' s') (t : Turn F F' u u') : Pl W u' b bm s' K :=
  ⟨F', h', a.turn k.size t, k.trans (t.below a k.size), fun q => (t.own _ q).elim n fun z => absurd m.lt (Nat.not_lt.2 z), l, m.keep (t.block _ m.lt n)⟩
theorem Pl.label (h : Pl W u b bm s K) : Calls Tryd.prog 12 #[.pointer (some ⟨b, 0, none⟩)] u fun e w' => e = .returned (.int .i64 s.labV) ∧ Hid (Pl W w' b bm s.lab K) := by
  obtain ⟨F, h1, h2, h3, h4, h5, h6⟩ := h
  refine (label_any h1).mono ?_
  rintro e w' ⟨F', rfl, q, t⟩
  exact ⟨rfl, pl_turn h2 h3 h4 h5 h6 q t⟩
theorem Pl.mark (h : Pl W u b bm s K) {l : Int} (hw : Wf l) (hn : s.marks.length < maxLen) : Calls Tryd.prog 13 #[.pointer (some ⟨b, 0, none⟩), .int .i64 l] u fun e w' => e = .returned (.tuple #[]) ∧ Hid (Pl W w' b bm (s.mark l) K) := by
  obtain ⟨F, h1, h2, h3, h4, h5, h6⟩ := h
  refine (mark_any h1 hw hn).mono ?_
  rintro e w' ⟨F', rfl, q, t⟩
  exact ⟨rfl, pl_turn h2 h3 h4 h5 h6 q t⟩
theorem Pl.add (h : Pl W u b bm s K) (op n : Int) (hl : s.code.length < lim) : Calls Tryd.prog 16 #[.pointer (some ⟨b, 0, none⟩), .int .i64 op, .int .i64 n] u fun e w' => e = .returned (.tuple #[]) ∧ Hid (Pl W w' b bm (s.add ⟨op, n, 0⟩ none) K) := by
  obtain ⟨F, h1, h2, h3, h4, h5, h6⟩ := h
  refine (add_any h1 op n hl).mono ?_
  rintro e w' ⟨F', rfl, q, t⟩
  exact ⟨rfl, pl_turn h2 h3 h4 h5 h6 q t⟩
theorem Pl.push (h : Pl W u b bm s K) (x : Nat) (hl : s.code.length < lim) : Calls Tryd.prog 14 #[.pointer (some ⟨b, 0, none⟩), .float .f64 x] u fun e w' => e = .returned (.tuple #[]) ∧ Hid (Pl W w' b bm (s.add ⟨1, 0, x⟩ none) K) := by
  obtain ⟨F, h1, h2, h3, h4, h5, h6⟩ := h
  refine (push_any h1 x hl).mono ?_
  rintro e w' ⟨F', rfl, q, t⟩
  exact ⟨rfl, pl_turn h2 h3 h4 h5 h6 q t⟩
theorem Pl.to (h : Pl W u b bm s K) (op l : Int) (hw : Wf l) (hl : s.code.length < lim) : Calls Tryd.prog 15 #[.pointer (some ⟨b, 0, none⟩), .int .i64 op, .int .i64 l] u fun e w' => e = .returned (.tuple #[]) ∧ Hid (Pl W w' b bm (s.add ⟨op, 0, 0⟩ (some l)) K) := by
  obtain ⟨F, h1, h2, h3, h4, h5, h6⟩ := h
  refine (to_any h1 op l hw hl).mono ?_
  rintro e w' ⟨F', rfl, q, t⟩
  exact ⟨rfl, pl_turn h2 h3 h4 h5 h6 q t⟩
theorem Pl.lay (h : Pl W u b bm s K) {c : Int} (hc : Wf c) (hno : c ∉ K) (hn : K.length < maxLen) : ∃ w', (Instr.mapUpdate 40 (.map (some bm)) (.int .i64 c) (.int .i64 (nxV K))).run Tryd.prog u = .ok () w' ∧ Hid (Pl W w' b bm s (K ++ [c])) := by
  obtain ⟨F, h1, h2, h3, h4, h5, h6⟩ := h
  obtain ⟨w', e, m, t⟩ := h6.lay hc hno hn
  exact ⟨w', e, F, h1.turn t (fun k hk q => h4 (by simp at q; rw [← q]; exact hk)), h2, h3.trans (t.below (fun k hk => by simp at hk; omega) h3.size), h4, h5, m⟩
/-- the builder and the map begin -/
theorem pl_new (h : On W u b s) : Pl W (u.alloc (.map #[] 0)) b u.heap.size s [] := by
  obtain ⟨F, h1, h2, h3⟩ := h
  have k := bl1 u (.map #[] 0)
  exact ⟨F, h1.on k, h2, h3.trans (k.mono h3.size), fun q => absurd (h1.blw _ q) (Nat.lt_irrefl _), h3.size, mapJ_new u⟩
/-- as many labels as there are places, up to 256 -/
def lbS (t : Int) (K : List Int) : Bs := { new t with many := if K.length < 256 then K.length else 256 }
theorem lbS_lab (t : Int) (K : List Int) (c : Int) : (lbS t K).lab = lbS t (K ++ [c]) ∧ (lbS t K).labV = nxV K := by
  unfold Bs.lab Bs.labV lbS nxV
  by_cases h : K.length < 256
  · simp only [h, if_true]
    have h1 : ¬ K.length = 256 := by omega
    simp only [h1, if_false]
    refine ⟨?_, by trivial⟩
    have e : (K ++ [c]).length = K.length + 1 := by simp
    rw [e]
    by_cases q : K.length + 1 < 256
    · rw [if_pos q]
    · rw [if_neg q, show K.length + 1 = 256 by omega]
  · simp [h]
    omega
/-- beside them a block that is left -/
def Plx (W w : World) (b bm : Nat) (s : Bs) (K : List Int) (X : Nat) (o : Obj) : Prop := ∃ F, Bld w b F s ∧ Abv W.heap.size F ∧ Below W.heap.size W w ∧ bm ∉ F ∧ W.heap.size ≤ bm ∧ MapJ w bm K ∧ X ∉ F ∧ w.heap[X]? = some o ∧ X < w.heap.size
theorem Plx.pl {X : Nat} {o : Obj} (h : Plx W u b bm s K X o) : Pl W u b bm s K := by obtain ⟨F, h1, h2, h3, h4, h5, h6, _⟩ := h; exact ⟨F, h1, h2, h3, h4, h5, h6⟩
theorem Plx.at {X : Nat} {o : Obj} (h : Plx W u b bm s K X o) : u.heap[X]? = some o := by obtain ⟨F, h1, h2, h3, h4, h5, h6, h7, h8, h9⟩ := h; exact h8
theorem plx_new (h : Pl W u b bm s K) (a : Array Value) (T : TypeId) : Plx W (u.alloc (.cells a T)) b bm s K u.heap.size (.cells a T (0, 0)) := by
  obtain ⟨F, h1, h2, h3, h4, h5, h6⟩ := h
  have k := bl1 u (.cells a T)
  exact ⟨F, h1.on k, h2, h3.trans (k.mono h3.size), h4, h5, h6.keep (k.block _ h6.lt), fun q => absurd (h1.blw _ q) (Nat.lt_irrefl _), heap_alloc_new _ _, by simp⟩
theorem Plx.mark {X : Nat} {o : Obj} (h : Plx W u b bm s K X o) {l : Int} (hw : Wf l) (hn : s.marks.length < maxLen) : Calls Tryd.prog 13 #[.pointer (some ⟨b, 0, none⟩), .int .i64 l] u fun e w' => e = .returned (.tuple #[]) ∧ Hid (Plx W w' b bm (s.mark l) K X o) := by
  obtain ⟨F, h1, h2, h3, h4, h5, h6, h7, h8, h9⟩ := h
  refine (mark_any h1 hw hn).mono ?_
  rintro e w' ⟨F', rfl, q, t⟩
  exact ⟨rfl, F', q, h2.turn h3.size t, h3.trans (t.below h2 h3.size), fun q => (t.own _ q).elim h4 fun z => absurd h6.lt (Nat.not_lt.2 z), h5, h6.keep (t.block _ h6.lt h4), fun q => (t.own _ q).elim h7 fun z => absurd h9 (Nat.not_lt.2 z), (t.block _ h9 h7).trans h8, Nat.lt_of_lt_of_le h9 t.size⟩
end
end Go.Proofs.YtmoafflimfhaiaaDoor.As
