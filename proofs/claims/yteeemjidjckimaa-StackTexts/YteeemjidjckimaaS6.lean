import Derived.Test.YteeemjidjckimaaS4
namespace Go.Proofs.Yteeemjidjckimaa
open Go.ChangeShapes Go.WideShapes Go.ChangeAt Go.RowKit

/-- texts, wherever they lie -/
def StrsAt (w : World) (p : Option Addr) (n : Nat) (x : Nat → ByteArray) : Prop :=
  ∀ i, i < n → ∃ g o, p = some ⟨g, o, none⟩ ∧ g < w.heap.size ∧ w.cell? ⟨g, o + i, none⟩ = some (.string (x i))
theorem StrsAt.on {w w' : World} {p : Option Addr} {n : Nat} {x : Nat → ByteArray} (h : StrsAt w p n x) (k : Below w.heap.size w w') : StrsAt w' p n x := fun i hi => by
  obtain ⟨g, o, h1, h2, h3⟩ := h i hi
  exact ⟨g, o, h1, Nat.lt_of_lt_of_le h2 k.size, (k.cell (p := ⟨g, o + i, none⟩) h2).trans h3⟩
theorem RowAt.strs {w : World} {p : Option Addr} {c : Nat} {l : List ByteArray} (h : RowAt 9 w p c (strs l)) : StrsAt w p l.length (fun i => l.getD i ⟨#[]⟩) := by
  intro i hi
  have ho := h.own
  rw [strs_len] at ho
  rcases ho.2 with ⟨_, q⟩ | ⟨g, cap, cur, hv, _, hg, _⟩
  · omega
  · cases hv
    refine ⟨g, 0, rfl, lt_of_block hg, ?_⟩
    rw [Nat.zero_add, ho.cellAt i (by omega)]
    simp [Go.Proofs.Yteeemjidjckimaa.strs, hi]
/-- the texts ls have the numbers l among the texts ns -/
def Lab (ns ls : List ByteArray) (l : List Int) : Prop := ∃ ks : List Nat, l = ks.map Int.ofNat ∧ ls = ks.map (fun k => ns.getD k ⟨#[]⟩) ∧ ∀ k ∈ ks, k < ns.length
theorem Lab.nil (ns : List ByteArray) : Lab ns [] [] := ⟨[], rfl, rfl, by simp⟩
theorem Lab.len {ns ls : List ByteArray} {l : List Int} (h : Lab ns ls l) : ls.length = l.length := by
  obtain ⟨ks, rfl, rfl, _⟩ := h
  simp
theorem Lab.more {ns ls : List ByteArray} {l : List Int} (h : Lab ns ls l) (x : ByteArray) : Lab (ns ++ [x]) ls l := by
  obtain ⟨ks, rfl, rfl, hk⟩ := h
  refine ⟨ks, rfl, List.map_congr_left fun k hm => ?_, fun k hm => by have := hk k hm; simp; omega⟩
  have := hk k hm
  simp [List.getD, List.getElem?_append_left this]
theorem Lab.push {ns ls : List ByteArray} {l : List Int} {x : ByteArray} (h : Lab (ns ++ [x]) ls l) (r : Int) : Lab (ns ++ [x]) (pushL ls r x) (pushL l r ns.length) := by
  have hl := h.len
  unfold pushL
  rw [hl]
  split
  · obtain ⟨ks, rfl, rfl, hk⟩ := h
    refine ⟨ks ++ [ns.length], by simp, ?_, fun k hm => ?_⟩
    · rw [List.map_append]
      simp [List.getD]
    · rcases List.mem_append.1 hm with q | q
      · exact hk k q
      · simp at q
        simp [q]
  · exact h
theorem Lab.pop {ns ls : List ByteArray} {l : List Int} (h : Lab ns ls l) : Lab ns ls.dropLast l.dropLast := by
  obtain ⟨ks, rfl, rfl, hk⟩ := h
  exact ⟨ks.dropLast, List.map_dropLast.symm, List.map_dropLast.symm, fun k hm => hk k (List.dropLast_subset _ hm)⟩
theorem Lab.pick {ns ls : List ByteArray} {l : List Int} (h : Lab ns ls l) (h0 : ns[0]? = some ⟨#[]⟩) (i : Int) : ∃ k : Nat, k < ns.length ∧ pickV 0 l i = (k : Int) ∧ pickV ⟨#[]⟩ ls i = ns.getD k ⟨#[]⟩ ∧ pickE ls i = pickE l i := by
  have hl := h.len
  have hn : 0 < ns.length := by
    rcases Nat.eq_zero_or_pos ns.length with q | q
    · rw [List.eq_nil_of_length_eq_zero q] at h0
      cases h0
    · exact q
  unfold pickV pickE
  rw [hl]
  cases hi : inB l.length i
  · refine ⟨0, hn, rfl, ?_, rfl⟩
    simp [List.getD, h0]
  · obtain ⟨ks, rfl, rfl, hk⟩ := h
    have hh := of_decide_eq_true hi
    rw [List.length_map] at hh
    have hj : ks.length - 1 - i.toNat < ks.length := by omega
    refine ⟨ks[ks.length - 1 - i.toNat], hk _ (List.getElem_mem hj), ?_, ?_, rfl⟩
    · simp [List.getD, hj]
    · simp only [List.length_map, if_true]
      rw [List.getD, List.getElem?_map, List.getElem?_eq_getElem hj]
      simp
theorem Lab.each {ns ls : List ByteArray} {l : List Int} (h : Lab ns ls l) (i : Nat) (hi : i < l.length) : ∃ k : Nat, k < ns.length ∧ l.getD i 0 = (k : Int) ∧ ls.getD i ⟨#[]⟩ = ns.getD k ⟨#[]⟩ := by
  obtain ⟨ks, rfl, rfl, hk⟩ := h
  rw [List.length_map] at hi
  exact ⟨ks[i], hk _ (List.getElem_mem hi), by simp [List.getD, hi], by rw [List.getD, List.getElem?_map, List.getElem?_eq_getElem hi]; simp⟩
set_option maxHeartbeats 2000000 in
set_option maxRecDepth 100000 in
/-- the texts with these numbers -/
theorem named_any {w : World} {pa pb pn : Option Addr} {n m : Nat} {x ns : Nat → ByteArray} {z : Nat → Int} (ca cb cn : Nat) (hn : n ≤ 9223372036854775807) (ha : StrsAt w pa n x) (hb : IntsAt w pb n z) (hs : StrsAt w pn m ns) (hq : ∀ i, i < n → ∃ k : Nat, k < m ∧ z i = (k : Int) ∧ x i = ns k) :
    Calls Try.prog 28 #[.slice pa n ca, .slice pb n cb, .slice pn m cn] w fun e w' => e = .returned (.bool true) ∧ Same w w' := by
  have HA := Lib.hid ha
  have HB := Lib.hid hb
  have HS := Lib.hid hs
  have HQ := Lib.hid hq
  clear ha hb hs hq
  go_enter Try.func28, Try.ntmps28
  go_wp2
  go_loopw [7] (fun vi wr => ∃ (i k : Nat), vi = .int .i64 i ∧ wr = w.drewN k ∧ i ≤ n) (fun vi _ => n - (intOf vi).toNat)
  case atStart => exact ⟨0, 0, rfl, by rw [World.drewN_zero], Nat.zero_le _⟩
  case round =>
    obtain ⟨i, k, rfl, rfl, hi⟩ := hrel
    by_cases hlt : i < n
    · have hlt' : (i : Int) < (n : Int) := by omega
      obtain ⟨ga, oa, hpa, ga1, hca⟩ := HA.out i hlt
      obtain ⟨gb, ob, hpb, gb1, hcb⟩ := HB.out i hlt
      obtain ⟨j, hj, hz, hx⟩ := HQ.out i hlt
      obtain ⟨gn, on, hpn, gn1, hcn⟩ := HS.out j hj
      subst hpa hpb hpn
      rw [hx] at hca
      rw [hz] at hcb
      have hj' : (j : Int) < (m : Int) := by omega
      clear hx hz
      generalize ns j = y at hca hcn
      go_wp2
      go_quiet (fail)
      go_wp2
      exact ⟨⟨i + 1, _, by first | rfl | (congr 1), rfl, by omega⟩, by simp [intOf]; omega⟩
    · have hlt' : ¬ (i : Int) < (n : Int) := by omega
      go_wp2
      go_ret
      exact ⟨rfl, Same.drewN _ _⟩
/-- both stacks and the texts' list, apart -/
structure Txt (W w : World) (bm : Nat) (Fm : List Nat) (br : Nat) (Fr : List Nat) (p : Option Addr) (c : Nat) (ns ls : List ByteArray) (l : List Int) (r : Int) : Prop where
  play : Play 55 9 W w bm Fm br Fr (strs ls) l r
  row : RowAt 9 w p c (strs ns)
  an : Abv W.heap.size (fpR p)
  mn : Sep (fpR p) Fm
  rn : Sep (fpR p) Fr
section
variable {W w w' : World} {bm br : Nat} {Fm Fr : List Nat} {p : Option Addr} {c : Nat} {ns ls : List ByteArray} {l : List Int} {r : Int}
theorem RowAt.turn {E : TypeId} {xs : List Value} {F F' : List Nat} (h : RowAt E w p c xs) (ht : Turn F F' w w') (s : Sep (fpR p) F) : RowAt E w' p c xs := h.keep (ht.kept s h.blw)
theorem Txt.onM {F' : List Nat} {ls' : List ByteArray} (h : Txt W w bm Fm br Fr p c ns ls l r) (hm : Stk 55 9 w' bm F' (strs ls') r) (ht : Turn Fm F' w w') : Txt W w' bm F' br Fr p c ns ls' l r :=
  ⟨h.play.onM hm ht, h.row.turn ht h.mn, h.an, h.mn.turn h.row.blw ht, h.rn⟩
theorem Txt.onR {F' : List Nat} {l' : List Int} (h : Txt W w bm Fm br Fr p c ns ls l r) (hr : Stk 59 3 w' br F' (i64s l') r) (ht : Turn Fr F' w w') : Txt W w' bm Fm br F' p c ns ls l' r :=
  ⟨h.play.onR hr ht, h.row.turn ht h.rn, h.an, h.mn, h.rn.turn h.row.blw ht⟩
theorem Txt.on (h : Txt W w bm Fm br Fr p c ns ls l r) (hb : Below w.heap.size w w') : Txt W w' bm Fm br Fr p c ns ls l r :=
  ⟨h.play.on hb, h.row.on hb, h.an, h.mn, h.rn⟩
theorem Txt.same (h : Txt W w bm Fm br Fr p c ns ls l r) (hb : Same w w') : Txt W w' bm Fm br Fr p c ns ls l r := h.on (hb.below _)
theorem Txt.alloc (h : Txt W w bm Fm br Fr p c ns ls l r) (x : Obj) : Txt W (w.alloc x) bm Fm br Fr p c ns ls l r := h.on ((Below.refl _ _).alloc (Nat.le_refl _) x)
theorem Txt.clone {w1 : World} {nb : Nat} {F' F2 : List Nat} (h : Txt W w bm Fm br Fr p c ns ls l r) (hm : Stk 55 9 w1 nb F' (strs ls) r) (ha : Abv w.heap.size F') (hb : Below w.heap.size w w1) (ht : Turn Fm F2 w1 w') : Txt W w' nb F' br Fr p c ns ls l r :=
  ⟨h.play.clone hm ha hb ht, (h.row.on hb).turn ht h.mn, h.an, (ha.sep h.row.blw).symm, h.rn⟩
end
/-- both have come to the same -/
def Told (W w : World) (bm br : Nat) (p : Option Addr) (c : Nat) (ns : List ByteArray) (r : Int) : Prop := ∃ Fm Fr ls l, Txt W w bm Fm br Fr p c ns ls l r ∧ Lab ns ls l
theorem Told.mk {W w : World} {bm br : Nat} {Fm Fr : List Nat} {p : Option Addr} {c : Nat} {ns ls : List ByteArray} {l : List Int} {r : Int} (h : Txt W w bm Fm br Fr p c ns ls l r) (k : Lab ns ls l) : Told W w bm br p c ns r := ⟨_, _, _, _, h, k⟩
end Go.Proofs.Yteeemjidjckimaa
