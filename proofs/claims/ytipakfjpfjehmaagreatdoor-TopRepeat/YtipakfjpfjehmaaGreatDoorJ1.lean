import Derived.Test.YtipakfjpfjehmaaGreatDoorRows
import Derived.WalkKit
import Derived.ProofKit
import Derived.OpenShut
import Derived.WalkLawsBesides
import Derived.Laws.OwnMore
import Derived.OneCell
import Derived.Lib.Hide
import Derived.Lib.SliceRun
import Derived.WalkSmall
import Derived.BigQuiet
import Derived.Deep.RegionWith
import Derived.Deep.QuietTactic
import Derived.OwnWalk
import Derived.Maps.AppendAt
import Derived.Laws.CopyRow
import Derived.Laws.FloatArith
import Derived.Laws.Bits64
import Derived.Laws.BitsAllLaws
import Derived.Laws.EntriesVeiled
import Derived.Deep.RegionHeld
import Derived.Deep.AppendLies
import Derived.Maps.OwnSet
import Derived.Lib.IndexMore
import Derived.Deep.RegionLaw
import Derived.Shelf.SlMaps.Clone
import Derived.Laws.FloatBits
import Derived.StillTailTactics
import Derived.Laws.StructEq
set_option maxRecDepth 100000
set_option maxHeartbeats 8000000
namespace Go.Proofs.YtipakfjpfjehmaaGreatDoor
open Go.ChangeShapes Go.WideShapes Go.ChangeAt Go.RowKit
abbrev zA:=@List.setIfInBounds_toArray
abbrev zB:=@List.set_cons_zero
abbrev zC:=@List.set_cons_succ
abbrev zH:=@Lib.hid
abbrev zR:=@cell_of_row
abbrev zO:=@heap_setCell_other
abbrev zS:=@heap_setCell_same
abbrev zN:=@heap_alloc_new
abbrev zL:=@Nat.lt_of_lt_of_le
abbrev zF:=@Below.refl
abbrev zE:=@Nat.le_refl
abbrev zZ:=@frozen_of_row
abbrev zT:=@decide_eq_true
abbrev zU:=@decide_eq_false
abbrev zV:=@Nat.zero_le
abbrev zG:=@List.getD_eq_getElem?_getD
abbrev zI:=@Nat.not_lt_zero
abbrev zJ:=@Go.WideShapes.add_plain
abbrev zK:=@World.block_lt_of_cell?
abbrev zM:=@of_decide_eq_false
abbrev zP:=@of_decide_eq_true
abbrev zQ:=@Nat.le_trans
abbrev zW:=@Int.le_refl
abbrev Bl(w w':World):Prop:=Below w.heap.size w w'
end Go.Proofs.YtipakfjpfjehmaaGreatDoor
namespace Go.Proofs.YtipakfjpfjehmaaGreatDoor
open Go.ChangeShapes Go.WideShapes Go.ChangeAt Go.RowKit
structure Same (w w':World):Prop where
 os:w'.os=w.os
 tape:w'.tape=w.tape
 output:w'.output=w.output
 heap:w'.heap=w.heap
theorem Same.refl (w:World):Same w w:=⟨rfl,rfl,rfl,rfl⟩
theorem Same.drew (w:World):Same w w.drew:=⟨rfl,rfl,rfl,rfl⟩
theorem Same.drewN (w:World) (k:Nat):Same w (w.drewN k):=⟨rfl,rfl,rfl,rfl⟩
theorem Same.trans {a b c:World} (h:Same a b) (k:Same b c):Same a c:=⟨k.os.trans h.os,k.tape.trans h.tape,k.output.trans h.output,k.heap.trans h.heap⟩
theorem Same.below {w w':World} (h:Same w w') (B:Nat):Below B w w':=⟨h.os,h.tape,h.output,by rw[h.heap];exact zE _,fun k _=>by rw[h.heap]⟩
structure Turn (F F':List Nat) (w w':World):Prop where
 os:w'.os=w.os
 tape:w'.tape=w.tape
 output:w'.output=w.output
 size:w.heap.size<=w'.heap.size
 block:∀ k,k<w.heap.size->k∉F->w'.heap[k]?=w.heap[k]?
 own:∀ k,k∈F'->k∈F∨w.heap.size<=k
theorem Turn.refl (F:List Nat) (w:World):Turn F F w w:=⟨rfl,rfl,rfl,zE _,fun _ _ _=>rfl,fun _ h=>.inl h⟩
theorem Turn.trans {F G H:List Nat} {a b c:World} (h:Turn F G a b) (k:Turn G H b c):Turn F H a c :=
 ⟨k.os.trans h.os,k.tape.trans h.tape,k.output.trans h.output,zQ h.size k.size,
  fun i hi hf=>(k.block i (zL hi h.size) (fun q=>(h.own i q).elim hf (fun z=>absurd hi (Nat.not_lt.2 z)))).trans (h.block i hi hf),
  fun i hi=>(k.own i hi).elim (h.own i) (fun z=>.inr (zQ h.size z))⟩
theorem Same.turn {w w':World} (h:Same w w') (F:List Nat):Turn F F w w':=⟨h.os,h.tape,h.output,by rw[h.heap];exact zE _,fun k _ _=>by rw[h.heap],fun _ q=>.inl q⟩
theorem Turn.mono {F F' G:List Nat} {w w':World} (h:Turn F F' w w') (hg:∀ k,k∈G->k∈F∨w.heap.size<=k):Turn F G w w':=⟨h.os,h.tape,h.output,h.size,h.block,hg⟩
def Sep (F G:List Nat):Prop:=∀ k,k∈F->k∉G
def Abv (B:Nat) (F:List Nat):Prop:=∀ k,k∈F->B<=k
def Blw (w:World) (F:List Nat):Prop:=∀ k,k∈F->k<w.heap.size
theorem Sep.symm {F G:List Nat} (h:Sep F G):Sep G F:=fun k hk q=>h k q hk
theorem Sep.turn {F G G':List Nat} {w w':World} (h:Sep F G) (hb:Blw w F) (k:Turn G G' w w'):Sep F G':=fun i hi q=>(k.own i q).elim (h i hi) (fun z=>absurd (hb i hi) (Nat.not_lt.2 z))
theorem Turn.below {B:Nat} {F F':List Nat} {w w':World} (k:Turn F F' w w') (h:Abv B F) (hB:B<=w.heap.size):Below B w w' :=
 ⟨k.os,k.tape,k.output,k.size,fun i hi=>k.block i (by omega) (fun q=>absurd (h i q) (by omega))⟩
theorem Abv.mono {B B':Nat} {F:List Nat} (h:Abv B F) (k:B'<=B):Abv B' F:=fun i hi=>zQ k (h i hi)
theorem a20 {a b c:World} (h:Bl a b) (k:Bl b c):Bl a c:=h.trans (k.mono h.size)
def Kept (F:List Nat) (w w':World):Prop:=w.heap.size<=w'.heap.size/\∀ k,k∈F->w'.heap[k]?=w.heap[k]?
theorem Turn.kept {F G G':List Nat} {w w':World} (k:Turn G G' w w') (h:Sep F G) (hb:Blw w F):Kept F w w':=⟨k.size,fun i hi=>k.block i (hb i hi) (h i hi)⟩
theorem a27 {F:List Nat} {w w':World} (k:Bl w w') (hb:Blw w F):Kept F w w':=⟨k.size,fun i hi=>k.block i (hb i hi)⟩
theorem Same.kept {w w':World} (h:Same w w') (F:List Nat):Kept F w w':=⟨by rw[h.heap];exact zE _,fun i _=>by rw[h.heap]⟩
def fpR (p:Option Addr):List Nat:=(p.map (·.block)).toList
theorem aN1 {p:Option Addr} {k:Nat}:k∈fpR p ↔ ∃ a,p=some a/\a.block=k:=by
 cases p <;> simp[fpR,eq_comm]
theorem a42 {p:Option Addr} {n c k:Nat}:k∈fpR p ↔ (Value.slice p n c).ownBlock=some k:=by
 cases p <;> simp[fpR,Value.ownBlock,eq_comm]
structure RowAt (E:TypeId) (w:World) (p:Option Addr) (c:Nat) (xs:List Value):Prop where
 own:w.ownsRow 0 E 1 (.slice p xs.length c) xs.length xs
theorem RowAt.blw {E:TypeId} {w:World} {p:Option Addr} {c:Nat} {xs:List Value} (h:RowAt E w p c xs):Blw w (fpR p):=fun k hk=>(h.own.lt k (a42.1 hk)).2
theorem RowAt.keep {E:TypeId} {w w':World} {p:Option Addr} {c:Nat} {xs:List Value} (h:RowAt E w p c xs) (k:Kept (fpR p) w w'):RowAt E w' p c xs:=by
 refine⟨h.own.1,?_⟩
 rcases h.own.2 with q | ⟨g,cap,cur,hv,hb,hg,rest⟩
 ·exact .inl q
 ·refine .inr ⟨g,cap,cur,hv,hb,?_,rest⟩
  rw[k.2 g (a42.2 (by rw[hv];rfl))];exact hg
structure StAt (T E:TypeId) (w:World) (b:Nat) (p:Option Addr) (c:Nat) (xs:List Value) (r:Int):Prop where
 box:w.heap[b]?=some (.cells #[.slice p xs.length c,.int .i64 r] T (0,0))
 row:RowAt E w p c xs
 ne:b∉fpR p
 fits:(xs.length:Int)<=r
 most:r<=65536
def Stk (T E:TypeId) (w:World) (b:Nat) (F:List Nat) (xs:List Value) (r:Int):Prop:=∃ p c,StAt T E w b p c xs r/\F=b::fpR p
section
variable {T E:TypeId} {w w':World} {b c:Nat} {p:Option Addr} {xs:List Value} {r:Int} {F:List Nat}
theorem StAt.ltB (h:StAt T E w b p c xs r):b<w.heap.size:=lt_of_block h.box
theorem StAt.cell0 (h:StAt T E w b p c xs r):w.cell? ⟨b,0,none⟩=some (.slice p xs.length c):=by rw[zR w b 0 _ _ _ h.box];rfl
theorem StAt.cell1 (h:StAt T E w b p c xs r):w.cell? ⟨b,1,none⟩=some (.int .i64 r):=by rw[zR w b 1 _ _ _ h.box];rfl
theorem StAt.alloc_box (h:StAt T E w b p c xs r) (k:Nat) (o:Obj):((w.drewN k).alloc o).heap[b]?=some (.cells #[.slice p xs.length c,.int .i64 r] T (0,0)):=(Below.heap_alloc _ _ _ h.ltB).trans h.box
theorem StAt.free (h:StAt T E w b p c xs r) (j:Nat):w.frozen? ⟨b,j,none⟩=false:=zZ w b j _ _ h.box
theorem StAt.blw (h:StAt T E w b p c xs r):Blw w (b::fpR p):=fun k hk=>by
 rcases List.mem_cons.1 hk with rfl | q
 ·exact h.ltB
 ·exact h.row.blw k q
theorem StAt.keep (h:StAt T E w b p c xs r) (k:Kept (b::fpR p) w w'):StAt T E w' b p c xs r :=
 ⟨(k.2 b (List.mem_cons_self ..)).trans h.box,h.row.keep ⟨k.1,fun i hi=>k.2 i (List.mem_cons_of_mem _ hi)⟩,h.ne,h.fits,h.most⟩
theorem Stk.blw (h:Stk T E w b F xs r):Blw w F:=by obtain⟨p,c,hs,rfl⟩:=h;exact hs.blw
theorem Stk.keep (h:Stk T E w b F xs r) (k:Kept F w w'):Stk T E w' b F xs r:=by
 obtain⟨p,c,hs,rfl⟩:=h;exact⟨p,c,hs.keep k,rfl⟩
theorem Stk.same (h:Stk T E w b F xs r) (k:Same w w'):Stk T E w' b F xs r:=h.keep (k.kept F)
theorem Stk.on (h:Stk T E w b F xs r) (k:Bl w w'):Stk T E w' b F xs r:=h.keep (a27 k h.blw)
theorem Stk.fits (h:Stk T E w b F xs r):(xs.length:Int)<=r/\r<=65536:=by obtain⟨p,c,hs,rfl⟩:=h;exact⟨hs.fits,hs.most⟩
theorem StAt.put {w2:World} {p':Option Addr} {c':Nat} {xs':List Value} (h:StAt T E w b p c xs r) (hr:RowAt E w2 p' c' xs') (g:w.grownBy w2 (Value.slice p xs.length c).ownBlock) (ho:∀ k,k∈fpR p'->k∈fpR p∨w.heap.size<=k) (hf:(xs'.length:Int)<=r) :
  Stk T E (w2.setCell ⟨b,0,none⟩ (.slice p' xs'.length c')) b (b::fpR p') xs' r/\Turn (b::fpR p) (b::fpR p') w (w2.setCell ⟨b,0,none⟩ (.slice p' xs'.length c')):=by
 have hbox:w2.heap[b]?=some (.cells #[.slice p xs.length c,.int .i64 r] T (0,0)):=(g.block b h.ltB (fun q=>h.ne (a42.2 q.symm))).trans h.box;have hne:b∉fpR p':=fun q=>(ho b q).elim h.ne (fun z=>absurd h.ltB (Nat.not_lt.2 z))
 refine⟨⟨p',c',⟨(zS w2 b 0 _ T _ hbox).trans rfl,hr.keep ⟨by simp,fun k hk=>zO _ _ _ _ (by rintro rfl;exact hne hk)⟩,hne,hf,h.most⟩,rfl⟩,?_⟩;refine⟨g.os,g.tape,g.output,by simpa using g.size,fun k hk hn=>?_,fun k hk=>?_⟩
 ·rw[List.mem_cons,not_or]at hn
  exact(zO _ _ _ _ (by simpa using hn.1)).trans (g.block k hk (fun q=>hn.2 (a42.2 q.symm)))
 ·rcases List.mem_cons.1 hk with rfl | q
  ·exact .inl (List.mem_cons_self ..)
  ·exact(ho k q).imp (List.mem_cons_of_mem _) id
theorem ba6 (w:World) (T E:TypeId) (r:Int) (h0:0<=r) (h1:r<=65536):Stk T E (w.alloc (.cells #[.slice none 0 0,.int .i64 r] T)) w.heap.size [w.heap.size] [] r :=
 ⟨none,0,⟨zN _ _,⟨World.ownsRow_nil _ _ _ _⟩,by simp[fpR],by simpa using h0,h1⟩,rfl⟩
end
theorem a93 {w:World} {E:TypeId} {v:Value} {n:Nat} {xs:List Value} (h:w.ownsRow 0 E 1 v n xs):∃ p c,v=.slice p xs.length c/\RowAt E w p c xs:=by
 have hn:xs.length=n:=by simpa using h.1
 rcases h.2 with⟨rfl,h0⟩ | ⟨g,cap,cur,rfl,_⟩
 ·exact⟨none,0,by rw[hn,h0],⟨by rw[hn,h0];rw[h0]at h;exact h⟩⟩
 ·exact⟨some ⟨g,0,none⟩,cap,by rw[hn],⟨by rw[hn];exact h⟩⟩
theorem aE7 {w:World} {E:TypeId} {v:Value} {n B:Nat} {xs:List Value} (h:w.ownsRow B E 1 v n xs):∃ p c,v=.slice p xs.length c/\RowAt E w p c xs/\Abv B (fpR p):=by
 have h':w.ownsRow 0 E 1 v n xs:=⟨h.1,h.2.imp id (fun ⟨g,cap,cur,a1,_,a3⟩=>⟨g,cap,cur,a1,zV _,a3⟩)⟩;obtain⟨p,c,rfl,hr⟩:=a93 h';exact⟨p,c,rfl,hr,fun k hk=>(h.lt k (a42.1 hk)).1⟩
theorem ak7 {p p':Option Addr} {n c n' c' s B:Nat} (h:(Value.slice p' n' c').ownBlock=(Value.slice p n c).ownBlock∨(Value.slice p' n' c').ownBlock=some s) (hs:B<=s):∀ k,k∈fpR p'->k∈fpR p∨B<=k:=by
 intro k hk;have q:=a42 (n:=n') (c:=c').1 hk
 rcases h with h | h
 ·exact .inl (a42.2 (h ▸ q))
 ·rw[h]at q
  exact .inr (by have:=Option.some.inj q;omega)
section
variable {T E:TypeId} {w:World} {b c:Nat} {p:Option Addr} {xs:List Value} {r:Int}
theorem StAt.more {w3:World} {v:Value} {x:Value} {o:Obj} (h:StAt T E w b p c xs r) (hown:w3.ownsRow 0 E 1 v (xs.length+1) (xs ++ [x])) (hg:(w.alloc o).grownBy w3 (Value.slice p xs.length c).ownBlock) (hat:v.ownBlock=(Value.slice p xs.length c).ownBlock∨v.ownBlock=some (w.alloc o).heap.size) (hf:(xs.length:Int)<r) :
  ∃ p' c',v=.slice p' (xs.length+1) c'/\Stk T E (w3.setCell ⟨b,0,none⟩ (.slice p' (xs.length+1) c')) b (b::fpR p') (xs ++ [x]) r/\Turn (b::fpR p) (b::fpR p') w (w3.setCell ⟨b,0,none⟩ (.slice p' (xs.length+1) c')):=by
 obtain⟨p',c',rfl,hr⟩:=a93 hown;have hl:(xs ++ [x]).length=xs.length+1:=by simp
 have g:w.grownBy w3 (Value.slice p xs.length c).ownBlock:=(World.grownBy_alloc w o _).trans hg;have:=h.put hr g (ak7 hat (by simp)) (by rw[hl];omega);rw[hl]at this;exact⟨p',c',by rw[hl],this⟩
theorem StAt.less {g cap:Nat} {x:Value} (h:StAt T E w b (some ⟨g,0,none⟩) cap (xs ++ [x]) r) (z:Value) :
  Stk T E ((w.setCell ⟨g,xs.length,none⟩ z).setCell ⟨b,0,none⟩ (.slice (some ⟨g,0,none⟩) xs.length cap)) b [b,g] xs r/\Turn [b,g] [b,g] w ((w.setCell ⟨g,xs.length,none⟩ z).setCell ⟨b,0,none⟩ (.slice (some ⟨g,0,none⟩) xs.length cap)):=by
 have hl:(xs ++ [x]).length=xs.length+1:=by simp
 have hf:=h.fits;have ho:=h.row.own;rw[hl]at ho hf;obtain⟨hs,hg⟩:=ho.stored xs.length z;have e:(xs ++ [x]).set xs.length z=xs ++ [z]:=by simp
 rw[e]at hs;have hp:=ownsRow_pop (by simp) hs;exact h.put (p':=some ⟨g,0,none⟩) (c':=cap) ⟨hp⟩ hg (fun k hk=>.inl hk) (by omega)
theorem StAt.some_at (h:StAt T E w b p c xs r) (hx:0<xs.length):∃ g,p=some ⟨g,0,none⟩/\g<w.heap.size/\xs.length<=c/\c<=maxLen/\(∀ j,j<c->(w.cell? ⟨g,j,none⟩).isSome=true)/\(∀ j,w.frozen? ⟨g,j,none⟩=false)/\∀ (j:Nat) (hj:j<xs.length),w.cell? ⟨g,j,none⟩=some xs[j]:=by
 rcases h.row.own.2 with⟨_,q⟩ | ⟨g,cap,cur,hv,_,hg,hc,hm,hs,_⟩
 ·omega
 ·cases hv
  refine⟨g,rfl,lt_of_block hg,hc,hm,fun j hj=>?_,fun j=>zZ w g j _ _ hg,fun j hj=>?_⟩
  ·rw[zR w g j _ _ _ hg]
   simp[hs,hj]
  ·rw[h.row.own.cellAt j (by omega)]
   simp[hj]
end
def inB (n:Nat) (i:Int):Bool:=decide (0<=i/\i<(n:Int))
def ax6 {α:Type} (l:List α) (r:Int):Int:=if (l.length:Int)<r then 0 else 40
def ao5 {α:Type} (l:List α) (r:Int) (x:α):List α:=if (l.length:Int)<r then l ++ [x] else l
def ag9 (r:Int):Int:=if r<0 then 0 else if 65536<r then 65536 else r
def i64s (l:List Int):List Value:=l.map (Value.int .i64)
theorem a37 (l:List Int):(i64s l).length=l.length:=by unfold i64s;rw[List.length_map]
theorem aw6 (l:List Int) (x:Int):i64s (l ++ [x])=i64s l ++ [.int .i64 x]:=by simp[i64s]
theorem bu9 (l:List Int) (j:Nat) (h:j<(i64s l).length) (h':j<l.length):(i64s l)[j]=.int .i64 l[j]:=by simp[i64s]
theorem aS4 (r:Int):0<=ag9 r/\ag9 r<=65536:=by unfold ag9;split <;> (try split) <;> omega
def Grw (W w':World):Prop:=Bl W w'
theorem Grw.refl (W:World):Grw W W:=zF _ _
theorem Grw.alloc {W w':World} (h:Grw W w') (c:Array Value) (t:TypeId):Grw W (w'.alloc (.cells c t)):=Below.alloc h (Below.size h) _
theorem aw3 {W w':World} (h:Grw W w') (n:Nat):Grw W (w'.drewN n):=Below.trans h ((Same.drewN _ n).below _)
end Go.Proofs.YtipakfjpfjehmaaGreatDoor
namespace Go.Proofs.YtipakfjpfjehmaaGreatDoor.Num
open Ieee
def neg (b:Nat):Bool:=b / 9223372036854775808 % 2 == 1
def rung (b:Nat):Nat:=b % 9223372036854775808
theorem aN9 (b:Nat):double.read b =
  if rung b<4503599627370496 then .number (neg b) (rung b) (-1074)
  else if rung b<9218868437227405312 then .number (neg b) (4503599627370496+rung b % 4503599627370496) (-1074+(rung b / 4503599627370496 - 1:Nat))
  else if rung b=9218868437227405312 then .infinity (neg b)
  else .nan (neg b) (rung b - 9218868437227405312):=rfl
def val (r:Nat):Nat:=if r<4503599627370496 then r else (4503599627370496+r % 4503599627370496)*2 ^ (r / 4503599627370496 - 1)
theorem aT7 {r s:Nat} (h:r<s):val r<val s:=by
 unfold val
 by_cases h1:s<4503599627370496
 ·rw[if_pos h1,if_pos (by omega)];exact h
 ·rw[if_neg h1]
  have p2:0<2 ^ (s / 4503599627370496 - 1):=Nat.two_pow_pos _
  by_cases h2:r<4503599627370496
  ·rw[if_pos h2]
   have:=Nat.le_mul_of_pos_right (4503599627370496+s % 4503599627370496) p2;omega
  ·rw[if_neg h2]
   by_cases hq:r / 4503599627370496=s / 4503599627370496
   ·rw[hq]
    exact Nat.mul_lt_mul_of_pos_right (by omega) p2
   ·have e:s / 4503599627370496 - 1=(r / 4503599627370496 - 1)+1+(s / 4503599627370496 - r / 4503599627370496 - 1):=by omega
    have p1:0<2 ^ (r / 4503599627370496 - 1):=Nat.two_pow_pos _;have p3:0<2 ^ (s / 4503599627370496 - r / 4503599627370496 - 1):=Nat.two_pow_pos _
    calc (4503599627370496+r % 4503599627370496)*2 ^ (r / 4503599627370496 - 1)
      < (4503599627370496*2)*2 ^ (r / 4503599627370496 - 1):=Nat.mul_lt_mul_of_pos_right (by omega) p1
     _=4503599627370496*2 ^ ((r / 4503599627370496 - 1)+1):=by rw[Nat.pow_succ,Nat.mul_assoc,Nat.mul_comm 2]
     _<=4503599627370496*2 ^ ((r / 4503599627370496 - 1)+1)*2 ^ (s / 4503599627370496 - r / 4503599627370496 - 1):=Nat.le_mul_of_pos_right _ p3
     _=4503599627370496*2 ^ (s / 4503599627370496 - 1):=by rw[Nat.mul_assoc,<- Nat.pow_add,<- e]
     _<=_:=Nat.mul_le_mul_right _ (by omega)
def sval (b:Nat):Int:=if neg b then -(val (rung b):Int) else val (rung b)
def key (b:Nat):Int:=if neg b then -(rung b:Int) else rung b
def nan (b:Nat):Bool:=decide (9218868437227405312<rung b)
theorem bo0 (a b:Nat):compare (sval a) (sval b)=compare (key a) (key b):=by
 have mono:∀ r s,(val r<val s ↔ r<s):=fun r s=>⟨fun h=>by
   by_cases g:r<s
   ·exact g
   ·rcases Nat.eq_or_lt_of_le (Nat.le_of_not_lt g) with e | e
    ·subst e;omega
    ·have:=aT7 e;omega,aT7⟩
 have h1:=mono (rung a) (rung b);have h2:=mono (rung b) (rung a);have z1:=mono 0 (rung a);have z2:=mono 0 (rung b);have e0:val 0=0:=rfl;rw[e0]at z1 z2;have hlt:(sval a<sval b ↔ key a<key b):=by unfold sval key;split <;> split <;> omega
 have hgt:(sval b<sval a ↔ key b<key a):=by unfold sval key;split <;> split <;> omega
 simp only[compare,compareOfLessAndEq]
 by_cases c1:key a<key b
 ·rw[if_pos c1,if_pos (hlt.2 c1)]
 ·rw[if_neg c1,if_neg (fun h=>c1 (hlt.1 h))]
  by_cases c2:key a=key b
  ·rw[if_pos c2,if_pos (by have:=hlt.1;have:=hgt.1;omega)]
  ·rw[if_neg c2,if_neg (by have:=hlt.2;have:=hgt.2;omega)]
theorem ar8 (s:Bool) (m k j:Nat):signed s m (k+j)=signed s m k*2 ^ j:=by
 unfold signed;simp only[Nat.shiftLeft_eq,Nat.pow_add]
 split
 ·push_cast;rw[Int.neg_mul,Int.mul_assoc]
 ·push_cast;rw[Int.mul_assoc]
theorem aC7 (x y:Int) (j:Nat):compare (x*2 ^ j) (y*2 ^ j)=compare x y:=by
 have p:(0:Int)<2 ^ j:=Int.pow_pos (by decide);simp only[compare,compareOfLessAndEq];have h1:(x*2 ^ j<y*2 ^ j ↔ x<y):=⟨fun h=>Int.lt_of_mul_lt_mul_right h (Int.le_of_lt p),fun h=>Int.mul_lt_mul_of_pos_right h p⟩;have h2:(x*2 ^ j=y*2 ^ j ↔ x=y):=⟨fun h=>Int.eq_of_mul_eq_mul_right (by omega) h,fun h=>by rw[h]⟩;simp only[h1,h2]
theorem aE4 (s t:Bool) (m n k l:Nat):(Datum.number s m (-1074+k)).order (.number t n (-1074+l))=some (compare (signed s m k) (signed t n l)):=by
 have e:∀ x:Nat,((-1074+(x:Int)) - min (-1074+(k:Int)) (-1074+l)).toNat=x - min k l:=fun x=>by omega
 simp only[Datum.order,e];have h1:=ar8 s m (k - min k l) (min k l);have h2:=ar8 t n (l - min k l) (min k l);rw[show k - min k l+min k l=k by omega]at h1;rw[show l - min k l+min k l=l by omega]at h2;rw[h1,h2,aC7]
theorem ag8 {b:Nat} (h:nan b=true):double.read b=.nan (neg b) (rung b - 9218868437227405312):=by
 have h':9218868437227405312<rung b:=by simpa[nan]using h
 rw[aN9,if_neg (by omega),if_neg (by omega),if_neg (by omega)]
theorem ak0 {b:Nat} (h:rung b<9218868437227405312):∃ m k:Nat,double.read b=.number (neg b) m (-1074+k)/\m*2 ^ k=val (rung b):=by
 rw[aN9]
 by_cases h1:rung b<4503599627370496
 ·rw[if_pos h1];exact⟨_,0,rfl,by simp[val,h1]⟩
 ·rw[if_neg h1,if_pos h];exact⟨_,_,rfl,by simp[val,h1]⟩
theorem ao7 {b:Nat} (h:rung b=9218868437227405312):double.read b=.infinity (neg b):=by
 rw[aN9,if_neg (by omega),if_neg (by omega),if_pos h]
theorem aB1 (s:Bool) (m k:Nat):signed s m k=if s then -((m*2 ^ k:Nat):Int) else ((m*2 ^ k:Nat):Int):=by
 unfold signed;simp only[Nat.shiftLeft_eq]
theorem aq3 {a b:Int} (h:a<b):compare a b=.lt:=by simp only[compare,compareOfLessAndEq,if_pos h]
theorem aq2 {a b:Int} (h:b<a):compare a b=.gt:=by simp only[compare,compareOfLessAndEq];rw[if_neg (by omega),if_neg (by omega)]
theorem aA3 {a b:Int} (h:a=b):compare a b=.eq:=by simp only[compare,compareOfLessAndEq];rw[if_neg (by omega),if_pos h]
theorem aI8 (a b:Nat) (ha:nan a=false) (hb:nan b=false):double.order a b=some (compare (key a) (key b)):=by
 have ha':rung a<=9218868437227405312:=by simpa[nan]using ha
 have hb':rung b<=9218868437227405312:=by simpa[nan]using hb
 unfold Format.order
 by_cases h1:rung a<9218868437227405312 <;> by_cases h2:rung b<9218868437227405312
 ·obtain⟨m,k,e1,v1⟩:=ak0 h1
  obtain⟨n,l,e2,v2⟩:=ak0 h2;rw[e1,e2,aE4,aB1,aB1,v1,v2];exact congrArg some (bo0 a b)
 ·have e:rung b=9218868437227405312:=by omega
  obtain⟨m,k,e1,v1⟩:=ak0 h1;rw[e1,ao7 e]
  show some (if neg b then Ordering.gt else Ordering.lt)=_
  unfold key
  cases neg b
  ·rw[aq3 (by simp;split <;> omega)];rfl
  ·rw[aq2 (by simp;split <;> omega)];rfl
 ·have e:rung a=9218868437227405312:=by omega
  obtain⟨m,k,e1,v1⟩:=ak0 h2;rw[e1,ao7 e]
  show some (if neg a then Ordering.lt else Ordering.gt)=_
  unfold key
  cases neg a
  ·rw[aq2 (by simp;split <;> omega)];rfl
  ·rw[aq3 (by simp;split <;> omega)];rfl
 ·have e:rung a=9218868437227405312:=by omega
  have e':rung b=9218868437227405312:=by omega
  rw[ao7 e,ao7 e'];unfold key;rw[e,e']
  cases neg a <;> cases neg b <;> rfl
theorem aa6 (a b:Nat) (h:nan a=true):double.order a b=none:=by
 unfold Format.order;rw[ag8 h];rfl
theorem ad2 (a b:Nat) (h:nan b=true):double.order a b=none:=by
 unfold Format.order;rw[ag8 h];cases double.read a <;> rfl
def fixB (b:Nat):Nat:=if nan b then 9221120237041090560 else b
theorem a72 {b:Nat} (h:nan b=true):fixB b=9221120237041090560:=by unfold fixB;rw[h];rfl
theorem a36 {b:Nat} (h:nan b=false):fixB b=b:=by unfold fixB;rw[h];rfl
theorem ax0:nan 9221120237041090560=true:=by decide
theorem av6 (b:Nat):fixB (fixB b)=fixB b:=by
 cases h:nan b
 ·rw[a36 h,a36 h]
 ·rw[a72 h,a72 ax0]
theorem a73 (b:Nat):nan (fixB b)=nan b:=by
 cases h:nan b
 ·rw[a36 h,h]
 ·rw[a72 h,ax0]
theorem aa1 {b:Nat} (h:b<18446744073709551616):fixB b<18446744073709551616:=by
 unfold fixB;split <;> omega
theorem aS7 {b:Nat} (h:nan b=true):FloatKind.f64.format.order b b=none:=aa6 b b h
theorem aS8 {b:Nat} (h:nan b=false):FloatKind.f64.format.order b b=some .eq:=by
 have:=aI8 b b h h;rw[aA3 rfl]at this;exact this
def place (b:Nat):Nat:=if 9223372036854775808<=fixB b then 18446744073709551615 - fixB b else fixB b+9223372036854775808
def cmpB (a b:Nat):Int:=if place a<place b then -1 else if place b<place a then 1 else 0
theorem bs7 (b k:Nat):b &&& 2 ^ k=if b.testBit k then 2 ^ k else 0:=by
 apply Nat.eq_of_testBit_eq
 intro i;rw[Nat.testBit_and,Nat.testBit_two_pow]
 by_cases h:k=i
 ·subst h;cases g:b.testBit k <;> simp
 ·cases g:b.testBit k <;> simp[h]
theorem bd4 {b:Nat} (h:b<18446744073709551616):bits .and .u64 (b:Int) 9223372036854775808=if 9223372036854775808<=b then 9223372036854775808 else 0:=by
 have e:=u64_and_nat b 9223372036854775808 h (by decide);have e2:b &&& 9223372036854775808=if b.testBit 63 then 2 ^ 63 else 0:=bs7 b 63
 rw[e2]at e;refine e.trans ?_;rw[Nat.testBit_eq_decide_div_mod_eq]
 by_cases g:9223372036854775808<=b
 ·rw[if_pos g,show b / 2 ^ 63 % 2=1 by omega];decide
 ·rw[if_neg g,show b / 2 ^ 63 % 2=0 by omega];decide
theorem bx3 {b:Nat} (h:b<9223372036854775808):bits .or .u64 (b:Int) 9223372036854775808=((b+9223372036854775808:Nat):Int):=by
 have e:=u64_or_nat b 9223372036854775808 (by omega) (by decide);refine e.trans ?_;have:=Nat.two_pow_add_eq_or_of_lt (i:=63) h 1;rw[Nat.or_comm];have e3:9223372036854775808 ||| b=9223372036854775808+b:=by simpa using this.symm
 rw[e3,Nat.add_comm]
theorem bi8 {b:Nat} (h:b<18446744073709551616):bits .xor .u64 IntKind.u64.max (b:Int)=((18446744073709551615 - b:Nat):Int):=by
 have e:=u64_xor_nat 18446744073709551615 b (by decide) h;refine e.trans ?_;have:(BitVec.allOnes 64 ^^^ BitVec.ofNat 64 b).toNat=(~~~ BitVec.ofNat 64 b).toNat:=by rw[BitVec.allOnes_xor]
 rw[BitVec.toNat_xor,BitVec.toNat_not,BitVec.toNat_allOnes,BitVec.toNat_ofNat,Nat.mod_eq_of_lt h]at this;exact congrArg _ this
theorem order_cases (a b:Nat):(FloatKind.f64.format.order a b=none/\(nan a=true∨nan b=true)) ∨
  (nan a=false/\nan b=false/\((FloatKind.f64.format.order a b=some .lt/\key a<key b)∨(FloatKind.f64.format.order a b=some .eq/\key a=key b)∨(FloatKind.f64.format.order a b=some .gt/\key b<key a))):=by
 cases ha:nan a
 ·cases hb:nan b
  ·right
   refine⟨rfl,rfl,?_⟩;have e:FloatKind.f64.format.order a b=_:=aI8 a b ha hb
   rcases Int.lt_trichotomy (key a) (key b) with h | h | h
   ·exact .inl ⟨by rw[e,aq3 h],h⟩
   ·exact .inr (.inl ⟨by rw[e,aA3 h],h⟩)
   ·exact .inr (.inr ⟨by rw[e,aq2 h],h⟩)
  ·exact .inl ⟨ad2 a b hb,.inr rfl⟩
 ·exact .inl ⟨aa6 a b ha,.inl rfl⟩
theorem shape {b:Nat} (h:b<18446744073709551616):(b<9223372036854775808/\neg b=false/\rung b=b)∨(9223372036854775808<=b/\neg b=true/\rung b=b - 9223372036854775808):=by
 unfold neg rung
 by_cases g:b<9223372036854775808
 ·exact .inl ⟨g,by rw[show b / 9223372036854775808 % 2=0 by omega];rfl,by omega⟩
 ·exact .inr ⟨by omega,by rw[show b / 9223372036854775808 % 2=1 by omega];rfl,by omega⟩
def ar4 (b:Nat):Int:=if nan b then 4 else if key b<0 then 0 else if 0<key b then 3 else if b=0 then 2 else 1
theorem kinds {b:Nat} (h:b<18446744073709551616) :
  (nan b=true/\ar4 b=4/\place b=18444492273895866368) ∨
  (nan b=false/\key b<0/\ar4 b=0/\(place b:Int)=9223372036854775807+key b) ∨
  (nan b=false/\key b=0/\b=9223372036854775808/\ar4 b=1/\place b=9223372036854775807) ∨
  (nan b=false/\key b=0/\b=0/\ar4 b=2/\place b=9223372036854775808) ∨
  (nan b=false/\0<key b/\key b<=9218868437227405312/\ar4 b=3/\(place b:Int)=9223372036854775808+key b):=by
 cases hn:nan b
 ·right
  have hr:rung b<=9218868437227405312:=by simpa[nan]using hn
  have hf:=a36 hn;have hp:place b=if 9223372036854775808<=b then 18446744073709551615 - b else b+9223372036854775808:=by unfold place;rw[hf]
  have hc:ar4 b=if key b<0 then 0 else if 0<key b then 3 else if b=0 then 2 else 1:=by unfold ar4;rw[hn];rfl
  rw[hp,hc]
  rcases shape h with⟨g1,g2,g3⟩ | ⟨g1,g2,g3⟩
  ·have hk:key b=b:=by unfold key;rw[g2,g3];rfl
   rw[if_neg (by omega:¬ 9223372036854775808<=b),if_neg (by omega:¬ key b<0)]
   by_cases z:b=0
   ·right;right;left
    rw[if_neg (by omega:¬ 0<key b),if_pos z];exact⟨rfl,by omega,z,rfl,by omega⟩
   ·right;right;right
    rw[if_pos (by omega:0<key b)];exact⟨rfl,by omega,by omega,rfl,by omega⟩
  ·have hk:key b=-((b:Int) - 9223372036854775808):=by unfold key;rw[g2,g3,if_pos rfl];omega
   rw[if_pos g1]
   by_cases z:b=9223372036854775808
   ·right;left
    rw[if_neg (by omega:¬ key b<0),if_neg (by omega:¬ 0<key b),if_neg (by omega)];exact⟨rfl,by omega,z,rfl,by omega⟩
   ·left
    rw[if_pos (by omega:key b<0)];exact⟨rfl,by omega,rfl,by omega⟩
 ·left
  refine⟨rfl,by unfold ar4;rw[hn];rfl,?_⟩;unfold place;rw[a72 hn];decide
theorem bt7 {a b:Nat} (h:place b<place a):cmpB a b=1:=by unfold cmpB;rw[if_neg (by omega),if_pos h]
def resV:Option Nat->Nat
 | some r=>fixB r
 | none=>9221120237041090560
def aH6 (b:Nat):Nat:=FloatKind.f64.encode ((FloatKind.f64.decode b).integral .down)
def ah5 (b:Nat):Nat:=if nan b then 9221120237041090560 else fixB (aH6 b)
def aK0 (b:Nat):Nat:=resV (FloatKind.f64.format.sqrt b)
def yesB (c:Bool):Nat:=if c then 4607182418800017408 else 0
def a95 (b:Nat):Bool:=!nan b && key b != 0
def ah9 (b:Nat):Nat:=if nan b then 9221120237041090560 else if 0<key b then 4607182418800017408 else if key b<0 then 13830554455654793216 else b
theorem b66 (x y t:Nat):nan (Question.cut (.nanBits .f64 x y) t)=true:=by
 have e:Question.cut (.nanBits .f64 x y) t=(t % 2)*9223372036854775808+9218868437227405312+1+(t / 2) % 4503599627370495:=rfl;rw[e];unfold nan rung;rw[decide_eq_true_eq];have hz:(t / 2) % 4503599627370495<4503599627370495:=Nat.mod_lt _ (by decide)
 generalize (t / 2) % 4503599627370495=z at hz
 have h2:t % 2=0∨t % 2=1:=by omega
 rcases h2 with h | h <;> rw[h] <;> omega
theorem ag2 (c:Bool):fixB (yesB c)=yesB c:=by cases c <;> decide
theorem at8:key 0=0:=by decide
theorem an6:nan 0=false:=by decide
theorem aW8 (t:Nat):0<(t ||| 2251799813685248) % 4503599627370496:=by
 rcases Nat.eq_zero_or_pos ((t ||| 2251799813685248) % 4503599627370496) with h | h
 ·have e:((t ||| 2251799813685248) % 2 ^ 52).testBit 51=true:=by
   rw[Nat.testBit_mod_two_pow,Nat.testBit_or];have:(2251799813685248:Nat).testBit 51=true:=by decide
   rw[this];simp
  rw[show (t ||| 2251799813685248) % 2 ^ 52=0 from h]at e
  simp at e
 ·exact h
theorem b67 (s:Bool) (t:Nat):nan (FloatKind.f64.encode (.nan s (FloatKind.f64.format.quiet t)))=true:=by
 have q:=aW8 t;have e:FloatKind.f64.encode (.nan s (FloatKind.f64.format.quiet t))=if s then 9223372036854775808+(9218868437227405312+(t ||| 2251799813685248) % 4503599627370496) else 9218868437227405312+(t ||| 2251799813685248) % 4503599627370496:=rfl
 rw[e];unfold nan rung;rw[decide_eq_true_eq]
 split <;> omega
theorem read_kind (b:Nat):(nan b=true/\∃ s t,double.read b=.nan s t)∨(nan b=false/\((∃ s m e,double.read b=.number s m e)∨∃ s,double.read b=.infinity s)):=by
 cases h:nan b
 ·right
  have h':rung b<=9218868437227405312:=by simpa[nan]using h
  refine⟨rfl,?_⟩
  by_cases g:rung b<9218868437227405312
  ·obtain⟨m,k,e,_⟩:=ak0 g
   exact .inl ⟨_,_,_,e⟩
  ·exact .inr ⟨_,ao7 (by omega)⟩
 ·exact .inl ⟨rfl,_,_,ag8 h⟩
theorem bn3 (b:Nat):FloatKind.f64.format.sqrt (fixB b)=FloatKind.f64.format.sqrt b:=by
 cases h:nan b
 ·rw[a36 h]
 ·rw[a72 h]
  show ((double.read 9221120237041090560).root _).map _=((double.read b).root _).map _
  rw[ag8 h,ag8 ax0];rfl
theorem ac1 (op:BinOp) (a b:Nat):floatBits op .f64 (fixB a) (fixB b)=floatBits op .f64 a b:=by
 have key:∀ x y,nan x=true∨nan y=true->floatBits op .f64 x y=none:=by
  intro x y h;have e:∀ z,nan z=true->∃ s t,FloatKind.f64.format.read z=.nan s t:=fun z hz=>⟨_,_,ag8 hz⟩
  rcases h with h | h
  ·obtain⟨s,t,hr⟩:=e x h
   unfold floatBits
   split <;> simp[Format.add,Format.sub,Format.mul,Format.div,hr,Datum.sum,Datum.product,Datum.quotient]
  ·obtain⟨s,t,hr⟩:=e y h
   unfold floatBits
   split <;> simp only[Format.add,Format.sub,Format.mul,Format.div,hr,Datum.opposite] <;> cases FloatKind.f64.format.read x <;> rfl
 by_cases h:nan a=true∨nan b=true
 ·rw[key a b h,key _ _ (by rw[a73,a73];exact h)]
 ·rw[a36 (by simpa using fun g=>h (.inl g)),a36 (by simpa using fun g=>h (.inr g))]
theorem ax3 (a b:Nat):FloatKind.f64.format.order (fixB a) (fixB b)=FloatKind.f64.format.order a b:=by
 by_cases h:nan a=true∨nan b=true
 ·rcases h with h | h
  ·rw[show FloatKind.f64.format.order a b=none from aa6 a b h]
   exact aa6 _ _ (by rw[a73];exact h)
  ·rw[show FloatKind.f64.format.order a b=none from ad2 a b h]
   exact ad2 _ _ (by rw[a73];exact h)
 ·rw[a36 (by simpa using fun g=>h (.inl g)),a36 (by simpa using fun g=>h (.inr g))]
theorem aV3 (b:Nat):ah5 (fixB b)=ah5 b:=by
 cases h:nan b
 ·rw[a36 h]
 ·unfold ah5;rw[a73,h];rfl
theorem aJ3 (b:Nat):place (fixB b)=place b:=by unfold place;rw[av6]
theorem aC5 (a b:Nat):cmpB (fixB a) (fixB b)=cmpB a b:=by unfold cmpB;rw[aJ3,aJ3]
theorem bb6 (b:Nat):a95 (fixB b)=a95 b:=by
 cases h:nan b
 ·rw[a36 h]
 ·unfold a95;rw[a73,h];rfl
theorem ba2 (b:Nat):ah9 (fixB b)=ah9 b:=by
 cases h:nan b
 ·rw[a36 h]
 ·unfold ah9;rw[a73,h];rfl
theorem b34 (b:Nat):fixB (ah9 b)=ah9 b:=by
 unfold ah9
 cases h:nan b
 ·simp only[Bool.false_eq_true,if_false]
  split
  ·decide
  ·split
   ·decide
   ·exact a36 h
 ·simp only[if_true];decide
end Go.Proofs.YtipakfjpfjehmaaGreatDoor.Num
namespace Go.Proofs.YtipakfjpfjehmaaGreatDoor
open Go.ChangeShapes Go.WideShapes Go.ChangeAt Go.RowKit Num
theorem frombits_run (n:Int) (w:World):(callFunc 87 #[.int .u64 n]).run Tryz.prog w=.ok (.value (.float .f64 n.toNat)) w:=by
 rw[run_callFunc_extern (e:=Extern.MathFloatBits.float64frombits) Tryz.func87 (by kernel_rfl) (by kernel_rfl) (by kernel_rfl) (by kernel_rfl)]
 rfl
theorem bits_run (b:Nat) (w:World):(callFunc 18 #[.float .f64 b]).run Tryz.prog w=.ok (.value (.int .u64 b)) w:=by
 rw[run_callFunc_extern (e:=Extern.MathFloatBits.float64bits) Tryz.func18 (by kernel_rfl) (by kernel_rfl) (by kernel_rfl) (by kernel_rfl)]
 rfl
attribute [local go_sem] frombits_run bits_run
theorem ae2 (b:Nat) (w:World):Calls Tryz.prog 75 #[.float .f64 b] w fun e w'=>e=.returned (.float .f64 (fixB b))/\w'=w:=by
 cases g:nan b
 ·have h:=aS8 g
  rw[a36 g];clear g;go_enter Tryz.func75,Tryz.ntmps75
  go_wp2
  go_ret;exact⟨rfl,rfl⟩
 ·have h:=aS7 g
  rw[a72 g];clear g;go_enter Tryz.func75,Tryz.ntmps75
  go_wp2
  go_ret;exact⟨rfl,rfl⟩
theorem am2 (b:Nat) (w:World):Calls Tryz.prog 56 #[.float .f64 b] w fun e w'=>e=.returned (.int .u64 (fixB b))/\w'=w:=by
 go_enter Tryz.func56,Tryz.ntmps56
 go_wp2_with (go_at_call 75;refine(ae2 _ _).mono ?_;rintro e w' ⟨rfl,rfl⟩)
 go_ret;exact⟨rfl,rfl⟩
theorem a90 (b:Nat) (w:World):Calls Tryz.prog 85 #[.float .f64 b] w fun e w'=>e=.returned (.bool (nan b))/\w'=w:=by
 cases g:nan b
 ·have h:=aS8 g
  clear g;go_enter Tryz.func85,Tryz.ntmps85
  go_wp2
  go_ret;exact⟨rfl,rfl⟩
 ·have h:=aS7 g
  clear g;go_enter Tryz.func85,Tryz.ntmps85
  go_wp2
  go_ret;exact⟨rfl,rfl⟩
theorem place_any (b:Nat) (w:World) (hb:b<18446744073709551616):Calls Tryz.prog 222 #[.float .f64 b] w fun e w'=>e=.returned (.int .u64 (place b))/\w'=w:=by
 have hf:=aa1 hb;have h1:=bd4 hf;have h2:=bi8 hf;unfold place
 by_cases g:9223372036854775808<=fixB b
 ·rw[if_pos g]at h1 ⊢
  go_enter Tryz.func222,Tryz.ntmps222
  go_wp2_with (go_at_call 56;refine(am2 _ _).mono ?_;rintro e w' ⟨rfl,rfl⟩)
  go_ret;exact⟨rfl,rfl⟩
 ·rw[if_neg g]at h1 ⊢
  have h3:=bx3 (Nat.lt_of_not_le g);go_enter Tryz.func222,Tryz.ntmps222
  go_wp2_with (go_at_call 56;refine(am2 _ _).mono ?_;rintro e w' ⟨rfl,rfl⟩)
  go_ret;exact⟨rfl,rfl⟩
def cmpN (m n:Nat):Int:=if m<n then -1 else if n<m then 1 else 0
theorem bt8 (m n:Nat) (w:World):Calls Tryz.prog 221 #[.int .u64 m,.int .u64 n] w fun e w'=>e=.returned (.int .i64 (cmpN m n))/\w'=w:=by
 unfold cmpN
 by_cases h1:m<n
 ·rw[if_pos h1]
  go_enter Tryz.func221,Tryz.ntmps221
  go_wp2
  go_ret;exact⟨rfl,rfl⟩
 ·rw[if_neg h1]
  by_cases h2:n<m
  ·rw[if_pos h2]
   go_enter Tryz.func221,Tryz.ntmps221
   go_wp2
   go_ret;exact⟨rfl,rfl⟩
  ·rw[if_neg h2]
   go_enter Tryz.func221,Tryz.ntmps221
   go_wp2
   go_ret;exact⟨rfl,rfl⟩
theorem ac4 (a b:Nat) (w:World) (ha:a<18446744073709551616) (hb:b<18446744073709551616):Calls Tryz.prog 217 #[.float .f64 a,.float .f64 b] w fun e w'=>e=.returned (.int .i64 (cmpB a b))/\w'=w:=by
 go_enter Tryz.func217,Tryz.ntmps217
 go_wp2_with (first | (go_at_call 222;refine(place_any _ _ (by assumption)).mono ?_;rintro e w' ⟨rfl,rfl⟩) | (go_at_call 221;refine(bt8 _ _ _).mono ?_;rintro e w' ⟨rfl,rfl⟩))
 go_ret;exact⟨rfl,rfl⟩
theorem aS6 (a b:Nat) (w:World):Calls Tryz.prog 119 #[.float .f64 a,.float .f64 b] w fun e w'=>e=.returned (.bool (fixB a == fixB b))/\w'=w:=by
 have h:((fixB a:Int) == (fixB b:Int))=(fixB a == fixB b):=by rw[Bool.eq_iff_iff,beq_iff_eq,beq_iff_eq];omega
 go_enter Tryz.func119,Tryz.ntmps119
 go_wp2_with (go_at_call 56;refine(am2 _ _).mono ?_;rintro e w' ⟨rfl,rfl⟩)
 go_ret;exact⟨rfl,rfl⟩
attribute [local go_sem] frombits_run bits_run
end Go.Proofs.YtipakfjpfjehmaaGreatDoor
namespace Go.Proofs.YtipakfjpfjehmaaGreatDoor
open Go.ChangeShapes Go.WideShapes Go.ChangeAt Go.RowKit Num Go.Maps
open Go.ChangeMaps Go.MapKept
theorem a00 (a:Addr) (m:Mode) (k:FloatKind) (b:Nat) (w:World):(store a (.float k b) m).run Tryz.prog w=stored Tryz.prog w a (.float k b) m:=run_store Tryz.prog w a _ m rfl
abbrev Wr:=List (Int × Nat)
def a05 (l:Wr):List Int:=l.map (·.1)
theorem ai2 (l:Wr):(a05 l).length=l.length:=by unfold a05;rw[List.length_map]
def idx (l:Wr) (c:Int):Nat:=l.findIdx (fun t=>t.1 == c)
def hasC (l:Wr) (c:Int):Bool:=decide (idx l c<l.length)
def getC (l:Wr) (c:Int):Nat:=(l.getD (idx l c) (0,0)).2
def putC (l:Wr) (c:Int) (y:Nat):Wr:=if hasC l c then l.set (idx l c) (c,y) else l ++ [(c,y)]
theorem bq3 {l:Wr} {c:Int} (h:idx l c<l.length):l[idx l c].1=c:=by
 have:=List.findIdx_getElem (p:=fun t:Int × Nat=>t.1 == c) (xs:=l) (w:=h);exact eq_of_beq this
theorem aw7 (c:Int):idx [] c=0:=rfl
theorem an4 (t:Int × Nat) (l:Wr) (c:Int):idx (t::l) c=if t.1=c then 0 else idx l c+1:=by
 unfold idx;rw[List.findIdx_cons]
 by_cases h:t.1=c
 ·simp[h]
 ·rw[if_neg h,beq_false_of_ne h]
  rfl
theorem ad1 (t:Int × Nat) (l:Wr) (c:Int):hasC (t::l) c=(decide (t.1=c) || hasC l c):=by
 unfold hasC;rw[an4]
 by_cases h:t.1=c <;> simp[h]
theorem ai3 (t:Int × Nat) (l:Wr) (c:Int):getC (t::l) c=if t.1=c then t.2 else getC l c:=by
 unfold getC;rw[an4]
 by_cases h:t.1=c <;> simp[h]
theorem aJ5 (t:Int × Nat) (l:Wr) (c:Int) (y:Nat):putC (t::l) c y=if t.1=c then (c,y)::l else t::putC l c y:=by
 unfold putC;rw[ad1,an4]
 by_cases h:t.1=c
 ·simp[h]
 ·cases h2:hasC l c <;> simp[h]
theorem aD4 (l:Wr) (c:Int) (y:Nat) (d:Int):hasC (putC l c y) d=(decide (c=d) || hasC l d):=by
 induction l with
 | nil=>by_cases h:c=d <;> simp[putC,hasC,aw7,an4,h]
 | cons t l ih =>
  rw[aJ5]
  by_cases h:t.1=c
  ·rw[if_pos h,ad1,ad1,h];cases decide (c=d) <;> simp
  ·rw[if_neg h,ad1,ad1,ih];cases decide (c=d) <;> simp
theorem aQ8 (l:Wr) (c:Int) (y:Nat) (d:Int):getC (putC l c y) d=if c=d then y else getC l d:=by
 induction l with
 | nil=>by_cases h:c=d <;> simp[putC,hasC,getC,aw7,an4,h]
 | cons t l ih =>
  rw[aJ5]
  by_cases h:t.1=c
  ·rw[if_pos h,ai3,ai3,h];by_cases h2:c=d <;> simp[h2]
  ·rw[if_neg h,ai3,ai3,ih]
   by_cases h2:t.1=d
   ·rw[if_pos h2,if_pos h2,if_neg (fun q=>h (h2.trans q.symm))]
   ·rw[if_neg h2,if_neg h2]
theorem aj8 (l:Wr) (c:Int) (y:Nat):(putC l c y).length=if hasC l c then l.length else l.length+1:=by
 unfold putC
 split <;> simp
theorem ab0 (l:Wr) (c:Int) (y:Nat):a05 (putC l c y)=if hasC l c then a05 l else a05 l ++ [c]:=by
 unfold putC
 split
 ·rename_i h
  have hi:idx l c<l.length:=by simpa[hasC]using h
  unfold a05;rw[List.map_set];have e:=bq3 hi
  apply List.ext_getElem?
  intro j;rw[List.getElem?_set]
  split
  ·rename_i q
   subst q
   simp[hi,e]
  ·rfl
 ·simp[a05]
theorem aj6 {l:Wr} {c:Int}:hasC l c=true ↔ c∈a05 l:=by
 induction l with
 | nil=>simp[hasC,aw7,a05]
 | cons t l ih =>
  rw[ad1];have e:a05 (t::l)=t.1::a05 l:=rfl;rw[e,List.mem_cons,<- ih,Bool.or_eq_true,decide_eq_true_eq,eq_comm (a:=c)]
theorem aI4 {l:Wr} {c:Int} {y:Nat} (h:(a05 l).Nodup):(a05 (putC l c y)).Nodup:=by
 rw[ab0]
 split
 ·exact h
 ·rename_i q
  rw[List.nodup_append];refine⟨h,by simp,fun a ha b hb e=>q (aj6.2 ?_)⟩
  simp at hb
  rw[<- hb,<- e];exact ha
theorem bF0 {l:Wr} (h:(a05 l).Nodup) {i:Nat} (hi:i<l.length):idx l l[i].1=i:=by
 have h0:hasC l l[i].1=true:=aj6.2 (by unfold a05;exact List.mem_map.2 ⟨l[i],List.getElem_mem hi,rfl⟩);have h1:idx l l[i].1<l.length:=by simpa[hasC]using h0
 have h2:=bq3 h1;have:=(List.getElem_inj (i:=idx l l[i].1) (j:=i) (h₀:=by rw[ai2];exact h1) (h₁:=by rw[ai2];exact hi) h).1 (by simp[a05,h2]);exact this
theorem b41 {l:Wr} (h:(a05 l).Nodup) {i:Nat} (hi:i<l.length):getC l l[i].1=l[i].2:=by
 unfold getC;rw[bF0 h hi]
 simp[hi]
def fd (x:Nat):DataW Unit:=.lit (.float .f64 x)
def bu3:Value->Option (DataW Unit × List MemPlace)
 | .float .f64 x=>some (fd x,[])
 | _=>none
theorem aH1 {v:Value} {x:Nat} {ps:List MemPlace} (h:bu3 v=some (fd x,ps)):v=.float .f64 x:=by
 unfold bu3 at h
 split at h
 ·simp[fd]at h
  rw[h.1]
 ·cases h
theorem aW0:Keyed Tryz.prog 3:=int_keyed Tryz.underlying3
theorem bI3 (w:World):(zeroValue 49).run Tryz.prog w=.ok (.float .f64 0) w:=by kernel_rfl
theorem bz4 {k:TypeId} {R:Value->Option (DataW Unit × List MemPlace)} {w:World} {b n:Nat} {D:DataW Unit} (h:w.ownsMap Tryz.prog k R b n D):w.ownsMap Tryz.prog k R b (Maps.size D) D:=by
 obtain⟨es,clock,hb,F,_,rfl⟩:=h;exact⟨es,clock,hb,F,by simp[Maps.size,length_sorted],rfl⟩
def ak4 (w:World) (b:Nat) (l:Wr):Prop :=
 ∃ D:DataW Unit,w.ownsMap Tryz.prog 3 bu3 b l.length D/\Maps.size D=l.length/\∀ c,(Lit.int .i64 c).wf=true->Maps.has D (.int .i64 c)=hasC l c/\D.atKey (.int .i64 c) (fd 0)=fd (getC l c)
section
variable {w w':World} {b:Nat} {l:Wr}
theorem ak4.lt (h:ak4 w b l):b<w.heap.size:=by obtain⟨D,h1,_⟩:=h;exact h1.lt
theorem ak4.keep (h:ak4 w b l) (k:w'.heap[b]?=w.heap[b]?):ak4 w' b l:=by
 obtain⟨D,⟨es,clock,hb,r⟩,h2⟩:=h;exact⟨D,⟨es,clock,k.trans hb,r⟩,h2⟩
theorem bv7 (w:World):ak4 (w.alloc (.map #[] 0)) w.heap.size [] :=
 ⟨.map [],World.ownsMap_made w _ _ _,rfl,fun _ _=>⟨rfl,rfl⟩⟩
theorem ak4.look (h:ak4 w b l) {c:Int} (hc:(Lit.int .i64 c).wf=true):(Instr.lookup 191 (.map (some b)) (.int .i64 c) true).run Tryz.prog w=.ok (.tuple #[.float .f64 (getC l c),.bool (hasC l c)]) w:=by
 obtain⟨D,h1,_,h3⟩:=h;obtain⟨v,ps,hrun,hv⟩:=h1.look_ok aW0 Tryz.underlying191 (bI3 w) (zd:=fd 0) (zp:=[]) rfl (keyOf_int_mk Tryz.underlying3 hc);rw[(h3 c hc).2]at hv;rw[hrun,aH1 hv,(h3 c hc).1]
theorem ak4.look1 (h:ak4 w b l) {c:Int} (hc:(Lit.int .i64 c).wf=true):(Instr.lookup 191 (.map (some b)) (.int .i64 c) false).run Tryz.prog w=.ok (.float .f64 (getC l c)) w:=by
 obtain⟨D,h1,_,h3⟩:=h;obtain⟨v,ps,hrun,hv⟩:=h1.lookup aW0 Tryz.underlying191 (bI3 w) (zd:=fd 0) (zp:=[]) rfl (keyOf_int_mk Tryz.underlying3 hc);rw[(h3 c hc).2]at hv;rw[hrun,aH1 hv]
theorem bq6 {c d:Int} (h:c≠d):(Lit.int .i64 d)≠(Lit.int .i64 c):=fun e=>h (by injection e with _ e2;exact e2.symm)
theorem ak4.lay (h:ak4 w b l) {c:Int} (hc:(Lit.int .i64 c).wf=true) (y:Nat) (hn:l.length<maxLen):∃ w',(Instr.mapUpdate 191 (.map (some b)) (.int .i64 c) (.float .f64 y)).run Tryz.prog w=.ok () w'/\ak4 w' b (putC l c y)/\w.grownBy w' (some b):=by
 obtain⟨D,h1,h2,h3⟩:=h;have hk:=keyOf_int_mk Tryz.underlying3 hc;obtain⟨w',hrun,ho,hg⟩:=h1.update aW0 Tryz.underlying191 hn hk (val:=.float .f64 y) (d:=fd y) (ps:=[]) rfl;have hs:Maps.size (D.put (.int .i64 c) (fd y))=(putC l c y).length:=by
  rw[size_put (h1.tidy aW0),(h3 c hc).1,h2,aj8]
 have ho2:=bz4 ho;rw[hs]at ho2;refine⟨w',hrun,⟨_,ho2,hs,fun d hd=>?_⟩,hg⟩
 by_cases e:c=d
 ·subst e
  rw[has_put_same h1.isMap (aW0.key hk),atKey_put_same h1.isMap (aW0.key hk),aD4,aQ8]
  simp
 ·rw[has_put_other (bq6 e),atKey_put_other (bq6 e),aD4,aQ8,if_neg e]
  refine⟨?_,(h3 d hd).2⟩;rw[(h3 d hd).1]
  simp[e]
end
end Go.Proofs.YtipakfjpfjehmaaGreatDoor
namespace Go.Proofs.YtipakfjpfjehmaaGreatDoor
open Go.ChangeShapes Go.WideShapes Go.ChangeAt Go.RowKit Num
structure Shp where
 word:List UInt8
 kind:Nat
 lo:Int
 hi:Int
 takes:Int
 lays:Int
def shpT:List Shp:=[
 ⟨[],0,0,0,0,0⟩,
 ⟨[112,117,115,104],1,0,0,0,1⟩,
 ⟨[100,114,111,112],0,0,0,1,0⟩,
 ⟨[100,117,112],0,0,0,1,2⟩,
 ⟨[115,119,97,112],0,0,0,2,2⟩,
 ⟨[112,105,99,107],2,0,63,0,1⟩,
 ⟨[97,114,103],2,0,7,0,1⟩,
 ⟨[103,101,116],2,0,7,0,1⟩,
 ⟨[115,101,116],2,0,7,1,0⟩,
 ⟨[],4,1,8,1,1⟩,
 ⟨[],5,1,12,2,1⟩,
 ⟨[106,117,109,112],3,0,1023,0,0⟩,
 ⟨[105,102],3,0,1023,1,0⟩,
 ⟨[117,110,108,101,115,115],3,0,1023,1,0⟩,
 ⟨[99,97,108,108],3,0,1023,0,0⟩,
 ⟨[114,101,116],0,0,0,0,0⟩,
 ⟨[114,101,97,100],0,0,0,1,1⟩,
 ⟨[119,114,105,116,101],0,0,0,2,0⟩,
 ⟨[101,109,105,116],0,0,0,1,0⟩,
 ⟨[97,98,111,114,116],2,0,99,0,0⟩,
 ⟨[104,97,108,116],0,0,0,0,0⟩]
def shp (k:Nat):Shp:=shpT.getD k ⟨[],0,0,0,0,0⟩
structure Ins where
 op:Int
 n:Int
 x:Nat
def ci (c:List Ins) (k:Nat):Ins:=c.getD k ⟨0,0,0⟩
theorem aZ5 {n:Nat} {p:Nat->Bool}:(List.range n).all p=true ↔ ∀ i,i<n->p i=true:=by
 rw[List.all_eq_true];exact⟨fun h i hi=>h i (List.mem_range.2 hi),fun h i hi=>h i (List.mem_range.1 hi)⟩
def ab2 (op:Int):Bool:=decide (0<op) && decide (op<=20)
def az4 (op:Nat) (n:Int):Bool:=decide ((shp op).lo<=n) && decide (n<=(shp op).hi)
def outB (op:Nat) (n:Int) (many:Nat):Bool:=decide ((shp op).kind=3) && decide ((many:Int)<=n)
def mayB (i:Ins) (many:Nat):Bool:=ab2 i.op && az4 i.op.toNat i.n && !outB i.op.toNat i.n many && (decide (i.op=1) || fixB i.x == 0)
def ab1 (tag:Int) (c:List Ins):Bool:=(decide (tag=1) || decide (tag=2)) && decide (1<=c.length) && decide (c.length<=1024) && (List.range c.length).all fun k=>mayB (ci c k) c.length
def au7 (tag:Int) (c:List Ins):Int:=if ab1 tag c then 0 else 50
theorem af9 {t:Int} {c:List Ins}:ab1 t c=true ↔ (t=1∨t=2)/\1<=c.length/\c.length<=1024/\∀ k,k<c.length->mayB (ci c k) c.length=true:=by
 unfold ab1;simp only[Bool.and_eq_true,Bool.or_eq_true,decide_eq_true_eq,aZ5];exact⟨fun ⟨⟨⟨a,b⟩,c⟩,d⟩=>⟨a,b,c,d⟩,fun ⟨a,b,c,d⟩=>⟨⟨⟨a,b⟩,c⟩,d⟩⟩
def strB (l:List UInt8):Value:=.string ⟨l.toArray⟩
structure Shaped5 (w:World):Prop where
 shp:∀ k,k<21->w.cell? ⟨1,k*6,none⟩=some (strB (shp k).word)/\w.cell? ⟨1,k*6+1,none⟩=some (.int .i64 (shp k).kind)/\w.cell? ⟨1,k*6+2,none⟩=some (.int .i64 (shp k).lo) /\
  w.cell? ⟨1,k*6+3,none⟩=some (.int .i64 (shp k).hi)/\w.cell? ⟨1,k*6+4,none⟩=some (.int .i64 (shp k).takes)/\w.cell? ⟨1,k*6+5,none⟩=some (.int .i64 (shp k).lays)
theorem Shaped5.on {w w':World} (h:Shaped5 w) (hb:Bl w w'):Shaped5 w':=by
 have on:∀ {a:Addr} {v:Value},w.cell? a=some v->w'.cell? a=some v:=fun {a v} h=>by
  rw[hb.cell (zK w a h)];exact h
 refine⟨fun k hk=>?_⟩;obtain⟨c0,c1,c2,c3,c4,c5⟩:=h.shp k hk;exact⟨on c0,on c1,on c2,on c3,on c4,on c5⟩
theorem ae9 (op:Int) (w:World):Calls Tryz.prog 116 #[.int .i64 op] w fun e w'=>e=.returned (.bool (ab2 op))/\w'=w:=by
 by_cases h:0<op
 ·by_cases h2:op<=20
  ·have e:ab2 op=true:=by unfold ab2;simp[h,h2]
   rw[e];go_enter Tryz.func116,Tryz.ntmps116
   go_wp2
   go_ret;exact⟨rfl,rfl⟩
  ·have e:ab2 op=false:=by unfold ab2;simp;omega
   rw[e];have h2':20<op:=by omega
   go_enter Tryz.func116,Tryz.ntmps116
   go_wp2
   go_ret;exact⟨rfl,rfl⟩
 ·have h':op<=0:=by omega
  have e:ab2 op=false:=by unfold ab2;simp;omega
  rw[e];go_enter Tryz.func116,Tryz.ntmps116
  go_wp2
  go_ret;exact⟨rfl,rfl⟩
theorem aM0 (k:Nat) (w:World) (hT:Shaped5 w) (hk:k<21) (h1:1<=k):Calls Tryz.prog 154 #[.int .i64 k] w fun e w'=>e=.returned (.tuple #[.int .i64 (shp k).takes,.int .i64 (shp k).lays,.int .i64 0])/\Same w w':=by
 obtain⟨c0,c1,c2,c3,c4,c5⟩:=hT.shp k hk;have hkn:ab2 (k:Int)=true:=by unfold ab2;simp;omega
 have hk':(k:Int)<21:=by omega
 clear hT c0 c1 c2 c3
 generalize (shp k).takes=t at *
 generalize (shp k).lays=l at *
 go_enter Tryz.func154,Tryz.ntmps154
 go_wp2_with (first
  | (go_at_call 116;refine(ae9 _ _).mono ?_;rintro e w' ⟨rfl,hw⟩;subst w'))
 go_quiet (fail)
 go_wp2
 go_ret3
 exact⟨rfl,Same.drewN _ _⟩
theorem aj3 (k:Nat) (n:Int) (w:World) (hT:Shaped5 w) (hk:k<21):Calls Tryz.prog 117 #[.int .i64 k,.int .i64 n] w fun e w'=>e=.returned (.bool (az4 k n))/\w'=w:=by
 obtain⟨c0,c1,c2,c3,c4,c5⟩:=hT.shp k hk;have hk':(k:Int)<21:=by omega
 have HE:Hid (az4 k n=(decide ((shp k).lo<=n) && decide (n<=(shp k).hi))):=rfl;clear hT c0 c1 c4 c5
 generalize (shp k).lo=t at *
 generalize (shp k).hi=l at *
 by_cases h:t<=n
 ·by_cases h2:n<=l
  ·have e:az4 k n=true:=by rw[HE.out];simp[h,h2]
   rw[e];go_enter Tryz.func117,Tryz.ntmps117
   go_wp2
   go_ret;exact⟨rfl,rfl⟩
  ·have e:az4 k n=false:=by rw[HE.out];simp;omega
   rw[e];have h2':l<n:=by omega
   go_enter Tryz.func117,Tryz.ntmps117
   go_wp2
   go_ret;exact⟨rfl,rfl⟩
 ·have h':n<t:=by omega
  have e:az4 k n=false:=by rw[HE.out];simp;omega
  rw[e];go_enter Tryz.func117,Tryz.ntmps117
  go_wp2
  go_ret;exact⟨rfl,rfl⟩
theorem al5 (k:Nat) (n:Int) (x many:Nat) (w:World) (hT:Shaped5 w) (hk:k<21):Calls Tryz.prog 118 #[.agg #[.int .i64 k,.int .i64 n,.float .f64 x],.int .i64 many] w fun e w'=>e=.returned (.bool (outB k n many))/\w'=w.alloc (.cells #[.int .i64 k,.int .i64 n,.float .f64 x] 124):=by
 obtain⟨c0,c1,c2,c3,c4,c5⟩:=hT.shp k hk;have hk':(k:Int)<21:=by omega
 have HE:Hid (outB k n many=(decide ((shp k).kind=3) && decide ((many:Int)<=n))):=rfl;have h0:1<w.heap.size:=zK w _ c1;clear hT c0 c2 c3 c4 c5
 by_cases h:(shp k).kind=3
 ·rw[h]at c1
  by_cases h2:(many:Int)<=n
  ·have e:outB k n many=true:=by rw[HE.out];simp[h,h2]
   rw[e];go_enter Tryz.func118,Tryz.ntmps118
   go_wp2
   go_ret;exact⟨rfl,rfl⟩
  ·have h2':n<(many:Int):=by omega
   have e:outB k n many=false:=by rw[HE.out];simp[h,h2]
   rw[e];go_enter Tryz.func118,Tryz.ntmps118
   go_wp2
   go_ret;exact⟨rfl,rfl⟩
 ·have e:outB k n many=false:=by rw[HE.out];simp[h]
  rw[e];have h':(((shp k).kind:Nat):Int)≠3:=by omega
  generalize (shp k).kind=t at *
  go_enter Tryz.func118,Tryz.ntmps118
  go_wp2
  go_ret;exact⟨rfl,rfl⟩
theorem ar3 {a b c:World} (h:Bl a b) (k:Bl b c):Bl a c:=h.trans (k.mono h.size)
theorem box5 (w:World) (x:Obj):Bl w (w.alloc x):=(zF _ _).alloc (zE _) x
def insV (i:Ins):Value:=.agg #[.int .i64 i.op,.int .i64 i.n,.float .f64 i.x]
theorem a91 (i:Ins) (many:Nat) (w:World) (hT:Shaped5 w):Calls Tryz.prog 110 #[insV i,.int .i64 many] w fun e w'=>e=.returned (.bool (mayB i many))/\Bl w w':=by
 obtain⟨op,n,x⟩:=i;unfold insV;simp only;have HT:=zH hT;clear hT
 cases hk:ab2 op with
 | false =>
  have e:mayB ⟨op,n,x⟩ many=false:=by unfold mayB;simp[hk]
  rw[e];go_enter Tryz.func110,Tryz.ntmps110
  go_wp2_with (first
   | (go_at_call 116;refine(ae9 _ _).mono ?_;rintro e w' ⟨rfl,hw⟩;subst w'))
  go_ret;exact⟨rfl,box5 _ _⟩
 | true =>
  have hop:0<op/\op<=20:=by unfold ab2 at hk;simpa using hk
  obtain⟨k,rfl⟩:∃ k:Nat,op=k:=⟨op.toNat,by omega⟩
  have hk21:k<21:=by omega
  have HE:Hid (mayB ⟨k,n,x⟩ many=(true && az4 k n && !outB k n many && (decide ((k:Int)=1) || fixB x == 0))):=by
   show mayB _ _=_
   unfold mayB;rw[hk]
   rfl
  cases hf:az4 k n with
  | false =>
   have e:mayB ⟨k,n,x⟩ many=false:=by rw[HE.out,hf];rfl
   rw[e];go_enter Tryz.func110,Tryz.ntmps110
   go_wp2_with (first
    | (go_at_call 116;refine(ae9 _ _).mono ?_;rintro e w' ⟨rfl,hw⟩;subst w')
    | (go_at_call 117;refine(aj3 k n _ (HT.out.on (box5 _ _)) hk21).mono ?_;rintro e w' ⟨rfl,hw⟩;subst w'))
   go_ret;exact⟨rfl,box5 _ _⟩
  | true =>
   cases ho:outB k n many with
   | true =>
    have e:mayB ⟨k,n,x⟩ many=false:=by rw[HE.out,hf,ho];rfl
    rw[e];go_enter Tryz.func110,Tryz.ntmps110
    go_wp2_with (first
     | (go_at_call 116;refine(ae9 _ _).mono ?_;rintro e w' ⟨rfl,hw⟩;subst w')
     | (go_at_call 117;refine(aj3 k n _ (HT.out.on (box5 _ _)) hk21).mono ?_;rintro e w' ⟨rfl,hw⟩;subst w')
     | (go_at_call 118;refine(al5 k n x many _ (HT.out.on (box5 _ _)) hk21).mono ?_;rintro e w' ⟨rfl,hw⟩;subst w'))
    go_ret;exact⟨rfl,ar3 (box5 _ _) (box5 _ _)⟩
   | false =>
    by_cases h1:(k:Int)=1
    ·obtain rfl:k=1:=by omega
     have e:mayB ⟨(1:Nat),n,x⟩ many=true:=by rw[HE.out,hf,ho];simp
     rw[e];have HK1:Hid (∀ w,Calls Tryz.prog 116 #[.int .i64 1] w fun e w'=>e=.returned (.bool true)/\w'=w):=fun w=>by
      have:=ae9 ((1:Nat):Int) w;rw[hk]at this;exact this
     have HF1:Hid (∀ w,Shaped5 w->Calls Tryz.prog 117 #[.int .i64 1,.int .i64 n] w fun e w'=>e=.returned (.bool true)/\w'=w):=fun w h=>by
      have:=aj3 1 n w h hk21;rw[hf]at this;exact this
     have HO1:Hid (∀ w,Shaped5 w->Calls Tryz.prog 118 #[.agg #[.int .i64 1,.int .i64 n,.float .f64 x],.int .i64 many] w fun e w'=>e=.returned (.bool false)/\w'=w.alloc (.cells #[.int .i64 1,.int .i64 n,.float .f64 x] 124)):=fun w h=>by
      have:=al5 1 n x many w h hk21;rw[ho]at this;exact this
     clear hk hf ho HE e h1 hop;go_enter Tryz.func110,Tryz.ntmps110
     go_wp2_with (first
      | (go_at_call 116;refine(HK1.out _).mono ?_;rintro e w' ⟨rfl,hw⟩;subst w')
      | (go_at_call 117;refine(HF1.out _ (HT.out.on (box5 _ _))).mono ?_;rintro e w' ⟨rfl,hw⟩;subst w')
      | (go_at_call 118;refine(HO1.out _ (HT.out.on (box5 _ _))).mono ?_;rintro e w' ⟨rfl,hw⟩;subst w'))
     go_ret;exact⟨by simp,ar3 (box5 _ _) (box5 _ _)⟩
    ·have e:mayB ⟨k,n,x⟩ many=(fixB x == fixB 0):=by rw[HE.out,hf,ho,zU h1,a36 an6];rfl
     rw[e];go_enter Tryz.func110,Tryz.ntmps110
     go_wp2_with (first
      | (go_at_call 116;refine(ae9 _ _).mono ?_;rintro e w' ⟨rfl,hw⟩;subst w')
      | (go_at_call 117;refine(aj3 k n _ (HT.out.on (box5 _ _)) hk21).mono ?_;rintro e w' ⟨rfl,hw⟩;subst w')
      | (go_at_call 118;refine(al5 k n x many _ (HT.out.on (box5 _ _)) hk21).mono ?_;rintro e w' ⟨rfl,hw⟩;subst w')
      | (go_at_call 119;refine(aS6 _ _ _).mono ?_;rintro e w' ⟨rfl,hw⟩;subst w'))
     go_ret;exact⟨by simp;intro h;exact absurd h h1,ar3 (box5 _ _) (box5 _ _)⟩
attribute [local go_sem] a00
def a39 (w:World) (ao:Option Addr) (c:List Ins):Prop :=
 ∀ k,k<c.length->∃ b off,ao=some ⟨b,off,none⟩/\b<w.heap.size/\w.cell? ⟨b,off+k*3,none⟩=some (.int .i64 (ci c k).op)/\w.cell? ⟨b,off+k*3+1,none⟩=some (.int .i64 (ci c k).n)/\w.cell? ⟨b,off+k*3+2,none⟩=some (.float .f64 (ci c k).x)
theorem a39.on {w w':World} {ao:Option Addr} {c:List Ins} (h:a39 w ao c) (hb:Bl w w'):a39 w' ao c:=fun k hk=>by
 obtain⟨b,off,e,hlt,c0,c1,c2⟩:=h k hk;exact⟨b,off,e,zL hlt hb.size,(hb.cell (p:=⟨b,off+k*3,none⟩) hlt).trans c0,(hb.cell (p:=⟨b,off+k*3+1,none⟩) hlt).trans c1,(hb.cell (p:=⟨b,off+k*3+2,none⟩) hlt).trans c2⟩
def bF9 (t:Int) (ao:Option Addr) (n cap:Nat):Value:=.agg #[.int .i64 t,.slice ao n cap]
theorem au6 {w:World} {x:Nat} {v0 v1:Value} {T:TypeId} (h:w.heap[x]?=some (.cells #[v0,v1] T (0,0))) :
  w.cell? ⟨x,0,none⟩=some v0/\w.cell? ⟨x,1,none⟩=some v1/\x<w.heap.size :=
 ⟨by rw[zR w x 0 _ _ _ h];rfl,by rw[zR w x 1 _ _ _ h];rfl,lt_of_block h⟩
theorem aG4 {w:World} {x:Nat} {v0 v1 v2:Value} {T:TypeId} (h:w.heap[x]?=some (.cells #[v0,v1,v2] T (0,0))) :
  w.cell? ⟨x,0,none⟩=some v0/\w.cell? ⟨x,1,none⟩=some v1/\w.cell? ⟨x,2,none⟩=some v2/\x<w.heap.size :=
 ⟨by rw[zR w x 0 _ _ _ h];rfl,by rw[zR w x 1 _ _ _ h];rfl,by rw[zR w x 2 _ _ _ h];rfl,lt_of_block h⟩
theorem am4 {t:Int} {c:List Ins} (h:ab1 t c=false):au7 t c=50:=by unfold au7;rw[h];rfl
theorem aA0 {t:Int} {c:List Ins} (h:ab1 t c=true):au7 t c=0:=by unfold au7;rw[h];rfl
theorem ak9 {t:Int} {c:List Ins} (h:¬ ((t=1∨t=2)/\1<=c.length/\c.length<=1024/\∀ k,k<c.length->mayB (ci c k) c.length=true)):ab1 t c=false:=by
 cases hc:ab1 t c
 ·rfl
 ·exact absurd (af9.1 hc) h
theorem aG7 {w:World} (t:Int) {ao:Option Addr} {c:List Ins} (cap:Nat) (hT:Shaped5 w) (hc:a39 w ao c) (hl:c.length<=9223372036854775807) :
  Calls Tryz.prog 105 #[bF9 t ao c.length cap] w fun e w'=>e=.returned (.int .i64 (au7 t c))/\Bl w w':=by
 unfold bF9
 by_cases ht:t=1∨t=2
 ·by_cases hn:c.length<1∨1024<c.length
  ·rw[am4 (ak9 (fun q=>by omega))]
   clear hT hc
   generalize c.length=n at *
   rcases ht with rfl | rfl <;> rcases hn with hn | hn
   ·obtain rfl:n=0:=by omega
    go_enter Tryz.func105,Tryz.ntmps105
    go_wp2
    go_ret;exact⟨rfl,box5 _ _⟩
   ·have h1:¬ (n:Int)<1:=by omega
    have h2:(1024:Int)<n:=by omega
    go_enter Tryz.func105,Tryz.ntmps105
    go_wp2
    go_ret;exact⟨rfl,box5 _ _⟩
   ·obtain rfl:n=0:=by omega
    go_enter Tryz.func105,Tryz.ntmps105
    go_wp2
    go_ret;exact⟨rfl,box5 _ _⟩
   ·have h1:¬ (n:Int)<1:=by omega
    have h2:(1024:Int)<n:=by omega
    go_enter Tryz.func105,Tryz.ntmps105
    go_wp2
    go_ret;exact⟨rfl,box5 _ _⟩
  ·have h1:¬ ((c.length:Nat):Int)<1:=by omega
   have h2:((c.length:Nat):Int)<=1024:=by omega
   have HC:=zH hc;have HT:=zH hT;have HN:=zH hn;clear hT hc hn;have HX:=zH (zN w (.cells #[.int .i64 t,.slice ao c.length cap] 121));have HB1:=zH (box5 w (.cells #[.int .i64 t,.slice ao c.length cap] 121))
   rcases ht with rfl | rfl
   all_goals go_enter Tryz.func105,Tryz.ntmps105
   all_goals go_wp2
   all_goals (go_loopw [26] (fun vi wr=>∃ (i:Nat),vi=.int .i64 i/\i<=c.length/\Hid (∀ j,j<i->mayB (ci c j) c.length=true)/\Hid (Below (w.heap.size+1) (w.alloc (.cells #[.int .i64 _,.slice ao c.length cap] 121)) wr)) (fun vi _=>c.length - (intOf vi).toNat))
   case atStart=>exact⟨0,rfl,zV _,fun j hj=>absurd hj (zI j),zF _ _⟩
   case atStart=>exact⟨0,rfl,zV _,fun j hj=>absurd hj (zI j),zF _ _⟩
   all_goals (
    obtain⟨i,rfl,hi,HM,HB⟩:=hrel;have HBW:=zH (HB1.out.trans (HB.out.mono (Nat.le_succ _)))
    by_cases hlt:i<c.length
    ·have hlt':(i:Int)<(c.length:Int):=by omega
     obtain⟨b0,off,hao,hbW,k0,k1,k2⟩:=HC.out i hlt;subst hao;rw[<- HBW.out.cell (p:=⟨b0,off+i*3,none⟩) hbW]at k0;rw[<- HBW.out.cell (p:=⟨b0,off+i*3+1,none⟩) hbW]at k1;rw[<- HBW.out.cell (p:=⟨b0,off+i*3+2,none⟩) hbW]at k2;have hbw:b0<wr.heap.size:=zL hbW HBW.out.size;obtain⟨q0,q1,q2⟩:=au6 ((HB.out.block w.heap.size (Nat.lt_succ_self _)).trans HX.out);have HMB:=zH (fun w' h=>a91 (ci c i) c.length w' h)
     cases hmb:mayB (ci c i) c.length with
     | true =>
      rw[hmb]at HMB;have HM2:Hid (∀ j,j<i+1->mayB (ci c j) c.length=true):=fun j hj=>by
       rcases Nat.lt_succ_iff_lt_or_eq.1 hj with q | rfl
       ·exact HM.out j q
       ·exact hmb
      generalize ci c i=z at k0 k1 k2 HMB
      obtain⟨zo,zn,zx⟩:=z;unfold insV at HMB;simp only at k0 k1 k2 HMB;clear hbW hmb HM
      go_wp2_with (first
       | (go_at_call 110;refine(HMB.out _ (HT.out.on (ar3 HBW.out (box5 _ _)))).mono ?_;rintro e w2 ⟨rfl,hb2⟩;have HB2:=zH (HB.out.trans ((ar3 (box5 _ _) hb2).mono (zQ (by simp) HB.out.size)));clear hb2))
      exact⟨⟨i+1,by first | rfl | (congr 1),by omega,HM2,HB2⟩,by simp[intOf];omega⟩
     | false =>
      rw[hmb]at HMB;have HNO:=zH (fun t=>am4 (t:=t) (ak9 (fun q=>by have:=q.2.2.2 i hlt;rw[hmb]at this;cases this)))
      generalize ci c i=z at k0 k1 k2 HMB
      obtain⟨zo,zn,zx⟩:=z;unfold insV at HMB;simp only at k0 k1 k2 HMB;clear hbW hmb HM
      go_wp2_with (first
       | (go_at_call 110;refine(HMB.out _ (HT.out.on (ar3 HBW.out (box5 _ _)))).mono ?_;rintro e w2 ⟨rfl,hb2⟩;have HB2:=zH (ar3 HBW.out (ar3 (box5 _ _) hb2));clear hb2))
      go_ret;exact⟨by rw[HNO.out];rfl,HB2.out⟩
    ·have hlt':¬ (i:Int)<(c.length:Int):=by omega
     have HYES:=zH (fun t ht=>aA0 (t:=t) (af9.2 ⟨ht,by have:=HN.out;omega,by omega,fun k hk=>HM.out k (by omega)⟩))
     go_wp2
     go_ret;exact⟨by rw[HYES.out _ (by first | exact .inl rfl | exact .inr rfl)];rfl,HBW.out⟩)
 ·rw[am4 (ak9 (fun q=>ht q.1))]
  have h1:(t != 1)=true:=by simpa using fun q=>ht (.inl q)
  have h2:(t != 2)=true:=by simpa using fun q=>ht (.inr q)
  clear hT hc ht;go_enter Tryz.func105,Tryz.ntmps105
  go_wp2
  go_ret;exact⟨rfl,box5 _ _⟩
attribute [local go_sem] frombits_run bits_run
theorem bp4 {b:Nat} (h:b<18446744073709551616):bits .xor .u64 (b:Int) 9223372036854775808=((b ^^^ 9223372036854775808:Nat):Int) :=
 u64_xor_nat b 9223372036854775808 h (by decide)
theorem aL4 {b:Nat} (h:b<18446744073709551616):bits .andNot .u64 (b:Int) 9223372036854775808=((b &&& 9223372036854775807:Nat):Int) :=
 u64_andNot_nat b 9223372036854775808 h (by decide)
theorem aM2 (b : Nat) (h : nan b = false) : Extern.MathFloor.toIntegral "math.archFloor" .down #[.float .f64 b] = pure (.float .f64 (aH6 b)) := by
 have e:(∃ s m i,FloatKind.f64.decode b=.number s m i)∨∃ s,FloatKind.f64.decode b=.infinity s:=by
  rcases read_kind b with⟨g,_⟩ | ⟨_,g⟩
  ·rw[h]at g;cases g
  ·exact g
 conv=>lhs;whnf
 unfold aH6
 rcases e with⟨s,m,i,e⟩ | ⟨s,e⟩ <;> rw[e]
theorem aC1 (b:Nat) (h:nan b=false) (w:World):(callFunc 218 #[.float .f64 b]).run Tryz.prog w=.ok (.value (.float .f64 (aH6 b))) w:=by
 rw [run_callFunc_extern (e := Extern.MathFloor.toIntegral "math.archFloor" .down) Tryz.func218 (by kernel_rfl) (by kernel_rfl) (by kernel_rfl) (by kernel_rfl), aM2 b h]
 rfl
theorem aw0 (b : Nat) (h : nan b = true) (w : World) : ∃ r n, (Extern.MathFloor.toIntegral "math.archFloor" .down #[.float .f64 b]).run Tryz.prog w = .ok (.float .f64 r) (w.drewN n) /\ nan r = true := by
 have e:FloatKind.f64.decode b=.nan (neg b) (rung b - 9218868437227405312):=ag8 h
 by_cases q:FloatKind.f64.format.quiet (rung b - 9218868437227405312)=rung b - 9218868437227405312
 ·refine⟨b,0,?_,h⟩
  conv=>lhs;arg 2;whnf
  rw[e];dsimp only;rw[if_pos q]
  rfl
 ·have key:∀ k:Nat,nan (if (k == 1)=true then b else FloatKind.f64.encode (.nan (neg b) (FloatKind.f64.format.quiet (rung b - 9218868437227405312))))=true:=by
   intro k
   split
   ·exact h
   ·exact b67 _ _
  have run : ∃ k : Nat, (Extern.MathFloor.toIntegral "math.archFloor" .down #[.float .f64 b]).run Tryz.prog w = .ok (.float .f64 (if (k == 1) = true then b else FloatKind.f64.encode (.nan (neg b) (FloatKind.f64.format.quiet (rung b - 9218868437227405312))))) (w.drewN 1) := by
   conv =>
    arg 1
    intro k
    lhs
    arg 2
    whnf
   rw[e];dsimp only;rw[if_neg q];exact⟨_,rfl⟩
  obtain⟨k,hk⟩:=run;exact⟨_,1,hk,key k⟩
theorem aC0 (b:Nat) (h:nan b=true) (w:World):∃ r n,(callFunc 218 #[.float .f64 b]).run Tryz.prog w=.ok (.value (.float .f64 r)) (w.drewN n)/\nan r=true:=by
 obtain⟨r,n,e,hn⟩:=aw0 b h w;refine⟨r,n,?_,hn⟩;rw [run_callFunc_extern (e := Extern.MathFloor.toIntegral "math.archFloor" .down) Tryz.func218 (by kernel_rfl) (by kernel_rfl) (by kernel_rfl) (by kernel_rfl), e]
 rfl
theorem aX2 (b:Nat) (w:World):∃ r n,(Extern.MathSqrt.sqrt #[.float .f64 b]).run Tryz.prog w=.ok (.float .f64 r) (w.drewN n)/\fixB r=aK0 b:=by
 unfold aK0
 cases e:FloatKind.f64.format.sqrt b with
 | some r =>
  refine⟨r,0,?_,rfl⟩
  conv=>lhs;arg 2;whnf
  rw[e]
  rfl
 | none =>
  refine⟨_,1,?_,a72 (b66 b b (w.tape w.drawn (.nanBits .f64 b b)))⟩
  conv=>lhs;arg 2;whnf
  rw[e];dsimp only
  simp[Question.forced,World.drew_is_drewN]
theorem bn4 (b:Nat) (w:World):∃ r n,(callFunc 220 #[.float .f64 b]).run Tryz.prog w=.ok (.value (.float .f64 r)) (w.drewN n)/\fixB r=aK0 b:=by
 obtain⟨r,n,e,hn⟩:=aX2 b w;refine⟨r,n,?_,hn⟩;rw[run_callFunc_extern (e:=Extern.MathSqrt.sqrt) Tryz.func220 (by kernel_rfl) (by kernel_rfl) (by kernel_rfl) (by kernel_rfl),e]
 rfl
theorem enter_run {f : FuncId} {fn : Func} (hf : Tryz.prog.funcs[f]? = some fn) (hname : (fn.name == "runtime.NumGoroutine") = false) (hb : fn.body.isSome = true) (args : Array Value) (w : World) : (callFunc f args).run Tryz.prog w = .ok (.enter f args) w := by
 obtain⟨c,hb⟩:=Option.isSome_iff_exists.1 hb;have h1 : fn.name ≠ "runtime.NumGoroutine" := by simpa using hname
 simp[callFunc,hf,h1,hb,mark]
theorem aD9 (b:Nat) (w:World) (h:nan b=false):Calls Tryz.prog 213 #[.float .f64 b] w fun e w'=>e=.returned (.float .f64 (aH6 b))/\w'=w:=by
 have hrun:=aC1 b h;go_enter Tryz.func213,Tryz.ntmps213
 go_wp2
 go_ret;exact⟨rfl,rfl⟩
theorem aD8 (b:Nat) (w:World):Calls Tryz.prog 213 #[.float .f64 b] w fun e w'=>∃ r n,e=.returned (.float .f64 r)/\fixB r=ah5 b/\w'=w.drewN n:=by
 cases h:nan b
 ·refine(aD9 b w h).mono fun e w' he=>?_
  exact⟨_,0,he.1,by unfold ah5;rw[h];rfl,he.2⟩
 ·obtain⟨r,n,hrun,hn⟩:=aC0 b h w
  have hv:ah5 b=9221120237041090560:=by unfold ah5;rw[h];rfl
  rw[hv];clear h hv;go_enter Tryz.func213,Tryz.ntmps213
  go_wp2
  go_ret;exact⟨r,n,rfl,a72 hn,rfl⟩
theorem aI2 (b:Nat) (w:World):Calls Tryz.prog 214 #[.float .f64 b] w fun e w'=>∃ r n,e=.returned (.float .f64 r)/\fixB r=aK0 b/\w'=w.drewN n:=by
 obtain⟨r,n,hrun,hr⟩:=bn4 b w;have HR:Hid (fixB r=aK0 b):=hr;clear hr;go_enter Tryz.func214,Tryz.ntmps214
 go_wp2
 go_ret;exact⟨r,n,rfl,HR.out,rfl⟩
theorem ad5 (c:Bool) (w:World):Calls Tryz.prog 215 #[.bool c] w fun e w'=>e=.returned (.float .f64 (yesB c))/\w'=w:=by
 cases c
 ·go_enter Tryz.func215,Tryz.ntmps215
  go_wp2
  go_ret;exact⟨rfl,rfl⟩
 ·go_enter Tryz.func215,Tryz.ntmps215
  go_wp2
  go_ret;exact⟨rfl,rfl⟩
theorem ap2 (b:Nat) (w:World):Calls Tryz.prog 165 #[.float .f64 b] w fun e w'=>e=.returned (.bool (a95 b))/\w'=w:=by
 have k0:=at8;have n0:=an6
 rcases order_cases b 0 with⟨o,n | n⟩ | ⟨n,_,⟨o,hk⟩ | ⟨o,hk⟩ | ⟨o,hk⟩⟩
 ·have e:a95 b=false:=by unfold a95;rw[n];rfl
  rw[e];clear e k0 n0;go_enter Tryz.func165,Tryz.ntmps165
  go_wp2_with (go_at_call 85;refine(a90 _ _).mono ?_;rintro e w' ⟨rfl,rfl⟩)
  go_ret;exact⟨rfl,rfl⟩
 ·rw[n0]at n;cases n
 ·have e:a95 b=true:=by unfold a95;rw[n,k0]at *;simp;omega
  rw[e];clear e k0 n0 hk;go_enter Tryz.func165,Tryz.ntmps165
  go_wp2_with (go_at_call 85;refine(a90 _ _).mono ?_;rintro e w' ⟨rfl,rfl⟩)
  go_ret;exact⟨rfl,rfl⟩
 ·have e:a95 b=false:=by unfold a95;rw[n,hk,k0];rfl
  rw[e];clear e k0 n0 hk;go_enter Tryz.func165,Tryz.ntmps165
  go_wp2_with (go_at_call 85;refine(a90 _ _).mono ?_;rintro e w' ⟨rfl,rfl⟩)
  go_ret;exact⟨rfl,rfl⟩
 ·have e:a95 b=true:=by unfold a95;rw[n,k0]at *;simp;omega
  rw[e];clear e k0 n0 hk;go_enter Tryz.func165,Tryz.ntmps165
  go_wp2_with (go_at_call 85;refine(a90 _ _).mono ?_;rintro e w' ⟨rfl,rfl⟩)
  go_ret;exact⟨rfl,rfl⟩
theorem aI3 (b:Nat) (w:World) (h:b<18446744073709551616):Calls Tryz.prog 190 #[.float .f64 b] w fun e w'=>∃ r n,e=.returned (.float .f64 r)/\fixB r=fixB (b ^^^ 9223372036854775808)/\w'=w.drewN n:=by
 have hx:=bp4 h;go_enter Tryz.func190,Tryz.ntmps190
 go_wp2
 go_ret;exact⟨_,0,rfl,rfl,rfl⟩
theorem aF8 (b:Nat) (w:World) (h:b<18446744073709551616):Calls Tryz.prog 191 #[.float .f64 b] w fun e w'=>∃ r n,e=.returned (.float .f64 r)/\fixB r=fixB (b &&& 9223372036854775807)/\w'=w.drewN n:=by
 have hx:=aL4 h;go_enter Tryz.func191,Tryz.ntmps191
 go_wp2
 go_ret;exact⟨_,0,rfl,rfl,rfl⟩
theorem b37 (b:Nat) (w:World):Calls Tryz.prog 192 #[.float .f64 b] w fun e w'=>∃ r n,e=.returned (.float .f64 r)/\fixB r=ah5 b/\w'=w.drewN n:=by
 go_enter Tryz.func192,Tryz.ntmps192
 go_wp2_with (go_at_call 213;refine(aD8 _ _).mono ?_;rintro e w' ⟨r,n,rfl,hr,rfl⟩)
 go_ret;exact⟨_,_,rfl,hr,rfl⟩
theorem bl7 (b:Nat) (w:World):Calls Tryz.prog 193 #[.float .f64 b] w fun e w'=>∃ r n,e=.returned (.float .f64 r)/\fixB r=aK0 b/\w'=w.drewN n:=by
 go_enter Tryz.func193,Tryz.ntmps193
 go_wp2_with (go_at_call 214;refine(aI2 _ _).mono ?_;rintro e w' ⟨r,n,rfl,hr,rfl⟩)
 go_ret;exact⟨_,_,rfl,hr,rfl⟩
theorem bw7 (b:Nat) (w:World):Calls Tryz.prog 194 #[.float .f64 b] w fun e w'=>∃ r n,e=.returned (.float .f64 r)/\fixB r=yesB (!a95 b)/\w'=w.drewN n:=by
 go_enter Tryz.func194,Tryz.ntmps194
 go_wp2_with (first | (go_at_call 165;refine(ap2 _ _).mono ?_;rintro e w' ⟨rfl,rfl⟩) | (go_at_call 215;refine(ad5 _ _).mono ?_;rintro e w' ⟨rfl,rfl⟩))
 go_ret;exact⟨_,0,rfl,ag2 _,rfl⟩
theorem aV9 (b:Nat) (w:World):Calls Tryz.prog 195 #[.float .f64 b] w fun e w'=>∃ r n,e=.returned (.float .f64 r)/\fixB r=yesB (nan b)/\w'=w.drewN n:=by
 go_enter Tryz.func195,Tryz.ntmps195
 go_wp2_with (first | (go_at_call 85;refine(a90 _ _).mono ?_;rintro e w' ⟨rfl,rfl⟩) | (go_at_call 215;refine(ad5 _ _).mono ?_;rintro e w' ⟨rfl,rfl⟩))
 go_ret;exact⟨_,0,rfl,ag2 _,rfl⟩
theorem bn2 (b:Nat) (w:World):Calls Tryz.prog 196 #[.float .f64 b] w fun e w'=>∃ r n,e=.returned (.float .f64 r)/\fixB r=ah9 b/\w'=w.drewN n:=by
 have k0:=at8;have n0:=an6;have hs:=b34 b
 rcases order_cases b 0 with⟨o,n | n⟩ | ⟨n,_,⟨o,hk⟩ | ⟨o,hk⟩ | ⟨o,hk⟩⟩
 ·have e:ah9 b=9221120237041090560:=by unfold ah9;rw[n];rfl
  rw[e];have hn:=a72 n;clear e k0 n0 hs n;go_enter Tryz.func196,Tryz.ntmps196
  go_wp2
  go_ret;exact⟨_,0,rfl,hn,rfl⟩
 ·rw[n0]at n;cases n
 ·have e:ah9 b=13830554455654793216:=by unfold ah9;rw[n,if_neg (by simp),if_neg (by omega),if_pos (by omega)]
  rw[e]at hs ⊢;clear e k0 n0 hk n;go_enter Tryz.func196,Tryz.ntmps196
  go_wp2
  go_ret;exact⟨_,0,rfl,hs,rfl⟩
 ·have e:ah9 b=b:=by unfold ah9;rw[n,if_neg (by simp),if_neg (by omega),if_neg (by omega)]
  rw[e]at hs ⊢;have HS:Hid (fixB b=b):=hs;clear e k0 n0 hk n hs;go_enter Tryz.func196,Tryz.ntmps196
  go_wp2
  go_ret;exact⟨_,0,rfl,HS.out,rfl⟩
 ·have e:ah9 b=4607182418800017408:=by unfold ah9;rw[n,if_neg (by simp),if_pos (by omega)]
  rw[e]at hs ⊢;clear e k0 n0 hk n;go_enter Tryz.func196,Tryz.ntmps196
  go_wp2
  go_ret;exact⟨_,0,rfl,hs,rfl⟩
def bu8 (b:Nat):Int:=bits .xor .u64 (b:Int) ((b:Int) / 4294967296) % 4294967296*2654435769 % 4294967296 / 65536
theorem bg1 (b:Nat) (w:World):Calls Tryz.prog 197 #[.float .f64 b] w fun e w'=>∃ r n,e=.returned (.float .f64 r)/\fixB r=fixB (floatOfInt .f64 (bu8 b))/\w'=w.drewN n:=by
 go_enter Tryz.func197,Tryz.ntmps197
 go_wp2
 go_ret;exact⟨_,0,rfl,rfl,rfl⟩
theorem aI6 (w:World):Calls Tryz.prog 183 #[] w fun e w'=>e=.returned (.agg #[Value.nilFunc,Value.func (Fn.func 190) #[] #[],Value.func (Fn.func 191) #[] #[],Value.func (Fn.func 192) #[] #[],Value.func (Fn.func 193) #[] #[],Value.func (Fn.func 194) #[] #[],Value.func (Fn.func 195) #[] #[],Value.func (Fn.func 196) #[] #[],Value.func (Fn.func 197) #[] #[]])/\Grw w w':=by
 go_enter Tryz.func183,Tryz.ntmps183
 go_wp2
 exact bodyPost_ret (v:=.agg #[Value.nilFunc,Value.func (Fn.func 190) #[] #[],Value.func (Fn.func 191) #[] #[],Value.func (Fn.func 192) #[] #[],Value.func (Fn.func 193) #[] #[],Value.func (Fn.func 194) #[] #[],Value.func (Fn.func 195) #[] #[],Value.func (Fn.func 196) #[] #[],Value.func (Fn.func 197) #[] #[]]) (by simp[results,Tryz.results183,go_sem]) rfl ⟨rfl,by repeat (first | exact Grw.refl _ | apply Grw.drew | apply Grw.alloc)⟩
theorem ai4 (k fid b v:Nat) (w:World) (h1:1<=k) (h2:k<=8)
  (hS:∀ w1:World,(w1.alloc (.cells #[Value.nilFunc,Value.func (Fn.func 190) #[] #[],Value.func (Fn.func 191) #[] #[],Value.func (Fn.func 192) #[] #[],Value.func (Fn.func 193) #[] #[],Value.func (Fn.func 194) #[] #[],Value.func (Fn.func 195) #[] #[],Value.func (Fn.func 196) #[] #[],Value.func (Fn.func 197) #[] #[]] 244)).cell? ⟨w1.heap.size,k,none⟩=some (Value.func (Fn.func fid) #[] #[]))
  (hcall:∀ (args:Array Value) (w:World),(callFunc fid args).run Tryz.prog w=.ok (.enter fid args) w)
  (hF:∀ w,Calls Tryz.prog fid #[.float .f64 (fixB b)] w fun e w'=>∃ r n,e=.returned (.float .f64 r)/\fixB r=v/\w'=w.drewN n) :
  Calls Tryz.prog 167 #[.int .i64 k,.float .f64 b] w fun e w'=>e=.returned (.tuple #[.float .f64 v,.int .i64 0])/\Grw w w':=by
 have HS:Hid (∀ w1:World,(w1.alloc (.cells #[Value.nilFunc,Value.func (Fn.func 190) #[] #[],Value.func (Fn.func 191) #[] #[],Value.func (Fn.func 192) #[] #[],Value.func (Fn.func 193) #[] #[],Value.func (Fn.func 194) #[] #[],Value.func (Fn.func 195) #[] #[],Value.func (Fn.func 196) #[] #[],Value.func (Fn.func 197) #[] #[]] 244)).cell? ⟨w1.heap.size,k,none⟩=some (Value.func (Fn.func fid) #[] #[])):=hS;clear hS;have HF:Hid (∀ w,Calls Tryz.prog fid #[.float .f64 (fixB b)] w fun e w'=>∃ r n,e=.returned (.float .f64 r)/\fixB r=v/\w'=w.drewN n):=hF;clear hF;go_enter Tryz.func167,Tryz.ntmps167
 go_wp2_with (go_at_call 183;refine(aI6 _).mono ?_;rintro e w1 ⟨rfl,hg⟩)
 go_region_held (fun w'=>w'.cell? ⟨w1.heap.size,k,none⟩=some (Value.func (Fn.func fid) #[] #[])) (first | exact HS.out _ | go_keep) (first | (go_at_call 75;refine(ae2 _ _).mono ?_;rintro e w2 ⟨rfl,rfl⟩) | (refine(HF.out _).mono ?_;rintro e w2 ⟨r,n,rfl,hr,rfl⟩))
 go_wp2
 go_ret2;exact⟨rfl,aw3 (hg.alloc _ _) _⟩
theorem bM4 (b:Nat) (w:World) (hb:b<18446744073709551616):Calls Tryz.prog 167 #[.int .i64 1,.float .f64 b] w fun e w'=>e=.returned (.tuple #[.float .f64 (fixB (fixB b ^^^ 9223372036854775808)),.int .i64 0])/\Grw w w' :=
 ai4 1 190 b _ w (by omega) (by omega) (fun w1=>by simp[go_sem]) (enter_run Tryz.func190 (by kernel_rfl) (by kernel_rfl)) (fun w=>(aI3 _ _ (aa1 hb)).mono fun _ _ ⟨r,n,h1,h2,h3⟩=>⟨r,n,h1,h2.trans (rfl),h3⟩)
theorem bM5 (b:Nat) (w:World) (hb:b<18446744073709551616):Calls Tryz.prog 167 #[.int .i64 2,.float .f64 b] w fun e w'=>e=.returned (.tuple #[.float .f64 (fixB (fixB b &&& 9223372036854775807)),.int .i64 0])/\Grw w w' :=
 ai4 2 191 b _ w (by omega) (by omega) (fun w1=>by simp[go_sem]) (enter_run Tryz.func191 (by kernel_rfl) (by kernel_rfl)) (fun w=>(aF8 _ _ (aa1 hb)).mono fun _ _ ⟨r,n,h1,h2,h3⟩=>⟨r,n,h1,h2.trans (rfl),h3⟩)
theorem bM6 (b:Nat) (w:World) (_hb:b<18446744073709551616):Calls Tryz.prog 167 #[.int .i64 3,.float .f64 b] w fun e w'=>e=.returned (.tuple #[.float .f64 (ah5 b),.int .i64 0])/\Grw w w' :=
 ai4 3 192 b _ w (by omega) (by omega) (fun w1=>by simp[go_sem]) (enter_run Tryz.func192 (by kernel_rfl) (by kernel_rfl)) (fun w=>(b37 _ _).mono fun _ _ ⟨r,n,h1,h2,h3⟩=>⟨r,n,h1,h2.trans (aV3 b),h3⟩)
theorem bM7 (b:Nat) (w:World) (_hb:b<18446744073709551616):Calls Tryz.prog 167 #[.int .i64 4,.float .f64 b] w fun e w'=>e=.returned (.tuple #[.float .f64 (aK0 b),.int .i64 0])/\Grw w w' :=
 ai4 4 193 b _ w (by omega) (by omega) (fun w1=>by simp[go_sem]) (enter_run Tryz.func193 (by kernel_rfl) (by kernel_rfl)) (fun w=>(bl7 _ _).mono fun _ _ ⟨r,n,h1,h2,h3⟩=>⟨r,n,h1,h2.trans (congrArg resV (bn3 b)),h3⟩)
theorem bM8 (b:Nat) (w:World) (_hb:b<18446744073709551616):Calls Tryz.prog 167 #[.int .i64 5,.float .f64 b] w fun e w'=>e=.returned (.tuple #[.float .f64 (yesB (!a95 b)),.int .i64 0])/\Grw w w' :=
 ai4 5 194 b _ w (by omega) (by omega) (fun w1=>by simp[go_sem]) (enter_run Tryz.func194 (by kernel_rfl) (by kernel_rfl)) (fun w=>(bw7 _ _).mono fun _ _ ⟨r,n,h1,h2,h3⟩=>⟨r,n,h1,h2.trans (congrArg (fun c=>yesB (!c)) (bb6 b)),h3⟩)
theorem bM9 (b:Nat) (w:World) (_hb:b<18446744073709551616):Calls Tryz.prog 167 #[.int .i64 6,.float .f64 b] w fun e w'=>e=.returned (.tuple #[.float .f64 (yesB (nan b)),.int .i64 0])/\Grw w w' :=
 ai4 6 195 b _ w (by omega) (by omega) (fun w1=>by simp[go_sem]) (enter_run Tryz.func195 (by kernel_rfl) (by kernel_rfl)) (fun w=>(aV9 _ _).mono fun _ _ ⟨r,n,h1,h2,h3⟩=>⟨r,n,h1,h2.trans (congrArg yesB (a73 b)),h3⟩)
theorem bN0 (b:Nat) (w:World) (_hb:b<18446744073709551616):Calls Tryz.prog 167 #[.int .i64 7,.float .f64 b] w fun e w'=>e=.returned (.tuple #[.float .f64 (ah9 b),.int .i64 0])/\Grw w w' :=
 ai4 7 196 b _ w (by omega) (by omega) (fun w1=>by simp[go_sem]) (enter_run Tryz.func196 (by kernel_rfl) (by kernel_rfl)) (fun w=>(bn2 _ _).mono fun _ _ ⟨r,n,h1,h2,h3⟩=>⟨r,n,h1,h2.trans (ba2 b),h3⟩)
theorem bN1 (b:Nat) (w:World) (_hb:b<18446744073709551616):Calls Tryz.prog 167 #[.int .i64 8,.float .f64 b] w fun e w'=>e=.returned (.tuple #[.float .f64 (fixB (floatOfInt .f64 (bu8 (fixB b)))),.int .i64 0])/\Grw w w' :=
 ai4 8 197 b _ w (by omega) (by omega) (fun w1=>by simp[go_sem]) (enter_run Tryz.func197 (by kernel_rfl) (by kernel_rfl)) (fun w=>(bg1 _ _).mono fun _ _ ⟨r,n,h1,h2,h3⟩=>⟨r,n,h1,h2.trans (rfl),h3⟩)
end Go.Proofs.YtipakfjpfjehmaaGreatDoor
namespace Go.Proofs.YtipakfjpfjehmaaGreatDoor.Num
open Ieee
def pw (n:Nat):Nat:=2 ^ n
theorem bG0 (n:Nat):0<pw n:=Nat.two_pow_pos n
def unit:Nat:=pw 1074
theorem aT5:0<unit:=bG0 _
def truncN (b:Nat):Nat:=val (rung b) / unit
theorem be1 (s:Bool) (n drop:Nat):Toward.zero.cut s n drop=n / 2 ^ drop:=by
 unfold Toward.cut;simp only[Nat.shiftLeft_eq,Nat.one_mul,Bool.toNat_false,Nat.add_zero]
 by_cases h:drop<=n.log2+2
 ·rw[Nat.min_eq_left h]
 ·rw[Nat.min_eq_right (by omega)]
  have h1:n<2 ^ (n.log2+2):=zL Nat.lt_log2_self (Nat.pow_le_pow_right (by decide) (by omega));have h2:n<2 ^ drop:=zL h1 (Nat.pow_le_pow_right (by decide) (by omega));rw[Nat.div_eq_of_lt h1,Nat.div_eq_of_lt h2]
theorem aX1 (E m k:Nat):(m <<< ((-(E:Int)+(k:Int)).toNat)) / 2 ^ ((-(-(E:Int)+(k:Int))).toNat)=m*2 ^ k / pw E:=by
 unfold pw;rw[Nat.shiftLeft_eq]
 by_cases h:E<=k
 ·rw[show (-(-(E:Int)+(k:Int))).toNat=0 by omega,show (-(E:Int)+(k:Int)).toNat=k - E by omega,Nat.pow_zero,Nat.div_one]
  have e:2 ^ k=2 ^ (k - E)*2 ^ E:=by rw[<- Nat.pow_add,show k - E+E=k by omega]
  rw[e,<- Nat.mul_assoc,Nat.mul_div_cancel _ (Nat.two_pow_pos _)]
 ·rw[show (-(E:Int)+(k:Int)).toNat=0 by omega,show (-(-(E:Int)+(k:Int))).toNat=E - k by omega,Nat.pow_zero,Nat.mul_one]
  have e:2 ^ E=2 ^ (E - k)*2 ^ k:=by rw[<- Nat.pow_add,show E - k+k=E by omega]
  rw[e,Nat.mul_div_mul_right _ _ (Nat.two_pow_pos _)]
theorem ba1 (m k:Nat):(m <<< ((-1074+(k:Int)).toNat)) / 2 ^ ((-(-1074+(k:Int))).toNat)=m*2 ^ k / unit:=aX1 1074 m k
theorem bb1 {b:Nat} (h:rung b<9218868437227405312):(FloatKind.f64.decode b).toInt .zero=some (if neg b then -(truncN b:Int) else truncN b):=by
 obtain⟨m,k,e,hv⟩:=ak0 h
 show (double.read b).toInt .zero=_
 rw[e];unfold Datum.toInt Datum.integral;dsimp only;rw[be1,ba1,hv];unfold signed truncN;simp only[Nat.shiftLeft_eq,Nat.pow_zero,Nat.mul_one]
theorem aC8 {b:Nat} (k:IntKind) (h:rung b<9218868437227405312) (hk:0<=key b) (hmin:k.min<=0) (hmax:(truncN b:Int)<=k.max):floatToIntVal .f64 b k=some ((truncN b:Nat):Int):=by
 unfold floatToIntVal;rw[bb1 h];have e:(if neg b then -(truncN b:Int) else truncN b)=truncN b:=by
  cases hn:neg b
  ·rfl
  ·unfold key at hk
   rw[hn]at hk;have r0:rung b=0:=by simp at hk;omega
   unfold truncN;rw[r0,show val 0=0 from rfl,Nat.zero_div];rfl
 rw[e];dsimp only;rw[if_pos ⟨by omega,hmax⟩]
theorem bc2:val 4845873199050653696=9007199254740992*unit:=by decide +kernel
theorem bc3:val 4890909195324358656=9223372036854775808*unit:=by decide +kernel
theorem aw8 {b:Nat} (h:0<=key b):key b=rung b:=by
 unfold key at *
 cases hn:neg b
 ·rfl
 ·rw[hn]at h;simp at h ⊢;omega
theorem aT3 {b c m:Nat} (h:rung b<c) (hc:val c=m*unit):truncN b<m:=by
 unfold truncN;rw[Nat.div_lt_iff_lt_mul aT5,<- hc];exact aT7 h
def cntB (b:Nat):Bool:=!nan b && decide (0<=key b) && decide (key b<4845873199050653696) && FloatKind.f64.format.order (floatOfInt .f64 (truncN b)) b == some .eq
def minV (a b:Nat):Nat:=if nan a || nan b then 9221120237041090560 else if cmpB b a<0 then b else a
def maxV (a b:Nat):Nat:=if nan a || nan b then 9221120237041090560 else if 0<cmpB b a then b else a
def modV (a b:Nat):Nat:=if cntB a && cntB b && !(FloatKind.f64.format.order b 4607182418800017408 == some .lt) then fixB (floatOfInt .f64 ((truncN a % truncN b:Nat):Int)) else 9221120237041090560
theorem b56:key 4845873199050653696=4845873199050653696:=by decide +kernel
theorem bv3:key 4607182418800017408=4607182418800017408:=by decide +kernel
theorem b64:nan 4845873199050653696=false:=by decide +kernel
theorem bw3:nan 4607182418800017408=false:=by decide +kernel
theorem bB4:val 4607182418800017408=unit:=by decide +kernel
theorem aO9 {b:Nat} (h0:0<=key b) (h1:key b<4845873199050653696):truncN b<9007199254740992:=by
 have:=aw8 h0;exact aT3 (by omega) bc2
theorem b17 {b:Nat} (h0:0<=key b) (h1:key b<4845873199050653696):floatToIntVal .f64 b .u64=some ((truncN b:Nat):Int)/\floatToIntVal .f64 b .i64=some ((truncN b:Nat):Int):=by
 have h2:=aO9 h0 h1;have h3:=aw8 h0;have m1:IntKind.u64.max=18446744073709551615:=by decide
 have m2:IntKind.i64.max=9223372036854775807:=by decide
 exact⟨aC8 .u64 (by omega) h0 (by decide) (by omega),aC8 .i64 (by omega) h0 (by decide) (by omega)⟩
theorem bb7 {b:Nat} (h:4607182418800017408<=key b):0<truncN b:=by
 have:=aw8 (b:=b) (by omega);unfold truncN
 apply Nat.div_pos _ aT5
 rw[<- bB4]
 rcases Nat.eq_or_lt_of_le (show 4607182418800017408<=rung b by omega) with e | e
 ·rw[<- e];exact zE _
 ·exact Nat.le_of_lt (aT7 e)
theorem aG8 {b:Nat} (h:cntB b=true):nan b=false/\0<=key b/\key b<4845873199050653696:=by
 unfold cntB at h;simp only[Bool.and_eq_true,Bool.not_eq_true',decide_eq_true_eq]at h;exact⟨h.1.1.1,h.1.1.2,h.1.2⟩
theorem b14 (a b:Nat):cmpB b a=-cmpB a b:=by
 unfold cmpB;split <;> split <;> (try split) <;> omega
theorem aC6 {a b:Nat} (hb:b<18446744073709551616) (h:nan a=true):0<=cmpB a b:=by
 have:place a=18444492273895866368:=by unfold place;rw[a72 h];decide
 unfold cmpB
 rcases kinds hb with k | k | k | k | k <;> (split <;> (try split) <;> omega)
theorem az2 {a b:Nat} (ha:a<18446744073709551616) (h:nan a=false) (hb:nan b=true):cmpB b a=1:=by
 have:place b=18444492273895866368:=by unfold place;rw[a72 hb];decide
 apply bt7
 rcases kinds ha with k | k | k | k | k <;> first | omega | (rw[h]at k;cases k.1)
theorem bh5 (a b:Nat):minV (fixB a) (fixB b)=minV a b:=by
 unfold minV;rw[a73,a73,aC5]
 cases ha:nan a <;> cases hb:nan b
 ·rw[a36 ha,a36 hb]
 ·rfl
 ·rfl
 ·rfl
theorem bh2 (a b:Nat):maxV (fixB a) (fixB b)=maxV a b:=by
 unfold maxV;rw[a73,a73,aC5]
 cases ha:nan a <;> cases hb:nan b
 ·rw[a36 ha,a36 hb]
 ·rfl
 ·rfl
 ·rfl
theorem am8 {b:Nat} (h:nan b=true):cntB b=false:=by unfold cntB;rw[h];rfl
theorem aw9 {a b:Nat} (h:cntB a=false):modV a b=9221120237041090560:=by
 unfold modV;rw[h,Bool.false_and,Bool.false_and,if_neg Bool.false_ne_true]
theorem aq4 {a b:Nat} (h:cntB b=false):modV a b=9221120237041090560:=by
 unfold modV;rw[h,Bool.and_false,Bool.false_and,if_neg Bool.false_ne_true]
theorem bh9 {a b:Nat} (h:(FloatKind.f64.format.order b 4607182418800017408 == some .lt)=true):modV a b=9221120237041090560:=by
 unfold modV;rw[h,Bool.not_true,Bool.and_false,if_neg Bool.false_ne_true]
theorem b63 {a b:Nat} (ha:cntB a=true) (hb:cntB b=true) (h:(FloatKind.f64.format.order b 4607182418800017408 == some .lt)=false):modV a b=fixB (floatOfInt .f64 ((truncN a % truncN b:Nat):Int)):=by
 unfold modV;rw[ha,hb,h,Bool.and_self,Bool.not_false,Bool.and_self,if_pos rfl]
theorem bh8 (a b:Nat):modV (fixB a) (fixB b)=modV a b:=by
 cases ha:nan a
 ·cases hb:nan b
  ·rw[a36 ha,a36 hb]
  ·rw[aq4 (am8 hb),aq4 (am8 (by rw[a73];exact hb))]
 ·rw[aw9 (am8 ha),aw9 (am8 (by rw[a73];exact ha))]
theorem bf4 (a b:Nat):fixB (minV a b)=minV a b:=by
 unfold minV
 cases ha:nan a <;> cases hb:nan b
 ·simp only[Bool.or_self,Bool.false_eq_true,if_false];split
  ·exact a36 hb
  ·exact a36 ha
 all_goals (simp;decide)
end Go.Proofs.YtipakfjpfjehmaaGreatDoor.Num
namespace Go.Proofs.YtipakfjpfjehmaaGreatDoor
open Go.ChangeShapes Go.WideShapes Go.ChangeAt Go.RowKit Num
attribute [local go_sem] frombits_run bits_run
theorem an1 {P:Program} (op:BinOp) (hop:op=.add∨op=.sub∨op=.mul∨op=.quo) (t:TypeId) (x y:Nat) (w:World):∃ r n,(binOp op t (.float .f64 x) (.float .f64 y)).run P w=.ok (.float .f64 r) (w.drewN n)/\fixB r=resV (floatBits op .f64 x y):=by
 cases e:floatBits op .f64 x y with
 | some r=>exact⟨r,0,run_float_arith w op t .f64 x y r e,rfl⟩
 | none =>
  refine⟨_,1,?_,a72 (b66 x y (w.tape w.drawn (.nanBits .f64 x y)))⟩
  rcases hop with h | h | h | h <;> subst h <;> simp only[floatBits]at e <;> simp[binOp,Op.floatArith,e,Question.forced,World.drew_is_drewN]
theorem bA1 (a b:Nat) (w:World):Calls Tryz.prog 198 #[.float .f64 a,.float .f64 b] w fun e w'=>∃ r n,e=.returned (.float .f64 r)/\fixB r=resV (floatBits .add .f64 a b)/\w'=w.drewN n:=by
 obtain⟨r,n,hrun,hr⟩:=an1 (P:=Tryz.prog) .add (by simp) 49 a b w;have HR:Hid (fixB r=resV (floatBits .add .f64 a b)):=hr;clear hr;go_enter Tryz.func198,Tryz.ntmps198
 go_wp2
 go_ret;exact⟨r,n,rfl,HR.out,rfl⟩
theorem az3 (a b:Nat) (w:World):Calls Tryz.prog 199 #[.float .f64 a,.float .f64 b] w fun e w'=>∃ r n,e=.returned (.float .f64 r)/\fixB r=resV (floatBits .sub .f64 a b)/\w'=w.drewN n:=by
 obtain⟨r,n,hrun,hr⟩:=an1 (P:=Tryz.prog) .sub (by simp) 49 a b w;have HR:Hid (fixB r=resV (floatBits .sub .f64 a b)):=hr;clear hr;go_enter Tryz.func199,Tryz.ntmps199
 go_wp2
 go_ret;exact⟨r,n,rfl,HR.out,rfl⟩
theorem aN7 (a b:Nat) (w:World):Calls Tryz.prog 200 #[.float .f64 a,.float .f64 b] w fun e w'=>∃ r n,e=.returned (.float .f64 r)/\fixB r=resV (floatBits .mul .f64 a b)/\w'=w.drewN n:=by
 obtain⟨r,n,hrun,hr⟩:=an1 (P:=Tryz.prog) .mul (by simp) 49 a b w;have HR:Hid (fixB r=resV (floatBits .mul .f64 a b)):=hr;clear hr;have hc:=fun (x:Nat) (w:World)=>run_convert_float_float (P:=Tryz.prog) w 49 49 .f64 .f64 x x (by rw[Tryz.underlying49];rfl) Tryz.underlying49 rfl
 go_enter Tryz.func200,Tryz.ntmps200
 go_wp2
 go_ret;exact⟨r,n,rfl,HR.out,rfl⟩
theorem aJ6 (a b:Nat) (w:World):Calls Tryz.prog 201 #[.float .f64 a,.float .f64 b] w fun e w'=>∃ r n,e=.returned (.float .f64 r)/\fixB r=resV (floatBits .quo .f64 a b)/\w'=w.drewN n:=by
 obtain⟨r,n,hrun,hr⟩:=an1 (P:=Tryz.prog) .quo (by simp) 49 a b w;have HR:Hid (fixB r=resV (floatBits .quo .f64 a b)):=hr;clear hr;go_enter Tryz.func201,Tryz.ntmps201
 go_wp2
 go_ret;exact⟨r,n,rfl,HR.out,rfl⟩
theorem bg5 (a b:Nat) (w:World):Calls Tryz.prog 205 #[.float .f64 a,.float .f64 b] w fun e w'=>∃ r n,e=.returned (.float .f64 r)/\fixB r=yesB (FloatKind.f64.format.order a b == some .lt)/\w'=w.drewN n:=by
 go_enter Tryz.func205,Tryz.ntmps205
 go_wp2_with (go_at_call 215;refine(ad5 _ _).mono ?_;rintro e w' ⟨rfl,rfl⟩)
 go_ret;exact⟨_,0,rfl,ag2 _,rfl⟩
theorem aU2 (a b:Nat) (w:World):Calls Tryz.prog 206 #[.float .f64 a,.float .f64 b] w fun e w'=>∃ r n,e=.returned (.float .f64 r)/\fixB r=yesB (FloatKind.f64.format.order a b == some .lt || FloatKind.f64.format.order a b == some .eq)/\w'=w.drewN n:=by
 go_enter Tryz.func206,Tryz.ntmps206
 go_wp2_with (go_at_call 215;refine(ad5 _ _).mono ?_;rintro e w' ⟨rfl,rfl⟩)
 go_ret;exact⟨_,0,rfl,ag2 _,rfl⟩
theorem b27 (a b:Nat) (w:World):Calls Tryz.prog 207 #[.float .f64 a,.float .f64 b] w fun e w'=>∃ r n,e=.returned (.float .f64 r)/\fixB r=yesB (FloatKind.f64.format.order a b == some .eq)/\w'=w.drewN n:=by
 go_enter Tryz.func207,Tryz.ntmps207
 go_wp2_with (go_at_call 215;refine(ad5 _ _).mono ?_;rintro e w' ⟨rfl,rfl⟩)
 go_ret;exact⟨_,0,rfl,ag2 _,rfl⟩
theorem b99 (a b:Nat) (w:World):Calls Tryz.prog 208 #[.float .f64 a,.float .f64 b] w fun e w'=>∃ r n,e=.returned (.float .f64 r)/\fixB r=yesB (fixB a == fixB b)/\w'=w.drewN n:=by
 go_enter Tryz.func208,Tryz.ntmps208
 go_wp2_with (first | (go_at_call 119;refine(aS6 _ _ _).mono ?_;rintro e w' ⟨rfl,rfl⟩) | (go_at_call 215;refine(ad5 _ _).mono ?_;rintro e w' ⟨rfl,rfl⟩))
 go_ret;exact⟨_,0,rfl,ag2 _,rfl⟩
theorem ahead_any (a b:Nat) (w:World) (ha:a<18446744073709551616) (hb:b<18446744073709551616):Calls Tryz.prog 209 #[.float .f64 a,.float .f64 b] w fun e w'=>∃ r n,e=.returned (.float .f64 r)/\fixB r=yesB (decide (cmpB a b<0))/\w'=w.drewN n:=by
 go_enter Tryz.func209,Tryz.ntmps209
 go_wp2_with (first | (go_at_call 217;refine(ac4 _ _ _ ha hb).mono ?_;rintro e w' ⟨rfl,rfl⟩) | (go_at_call 215;refine(ad5 _ _).mono ?_;rintro e w' ⟨rfl,rfl⟩))
 go_ret;exact⟨_,0,rfl,ag2 _,rfl⟩
theorem aq5 (w:World):Calls Tryz.prog 86 #[] w fun e w'=>e=.returned (.float .f64 9221120237041090560)/\w'=w:=by
 go_enter Tryz.func86,Tryz.ntmps86
 go_wp2
 go_ret;exact⟨rfl,rfl⟩
theorem b60 (a b:Nat) (w:World) (ha:a<18446744073709551616) (hb:b<18446744073709551616):Calls Tryz.prog 203 #[.float .f64 a,.float .f64 b] w fun e w'=>∃ r n,e=.returned (.float .f64 r)/\fixB r=minV a b/\w'=w.drewN n:=by
 have hm:=bf4 a b;unfold minV at hm ⊢
 cases na:nan a
 ·cases nb:nan b
  ·rw[na,nb,if_neg (by simp)]at hm
   simp only[Bool.or_self,Bool.false_eq_true,if_false]
   by_cases hc:cmpB b a<0
   ·rw[if_pos hc]at hm ⊢
    have HM:Hid (fixB b=b):=hm;clear hm;go_enter Tryz.func203,Tryz.ntmps203
    go_wp2_with (first | (go_at_call 85;refine(a90 _ _).mono ?_;rintro e w' ⟨rfl,rfl⟩) | (go_at_call 217;refine(ac4 _ _ _ hb ha).mono ?_;rintro e w' ⟨rfl,rfl⟩))
    go_ret;exact⟨_,0,rfl,HM.out,rfl⟩
   ·rw[if_neg hc]at hm ⊢
    have HM:Hid (fixB a=a):=hm;clear hm;go_enter Tryz.func203,Tryz.ntmps203
    go_wp2_with (first | (go_at_call 85;refine(a90 _ _).mono ?_;rintro e w' ⟨rfl,rfl⟩) | (go_at_call 217;refine(ac4 _ _ _ hb ha).mono ?_;rintro e w' ⟨rfl,rfl⟩))
    go_ret;exact⟨_,0,rfl,HM.out,rfl⟩
  ·clear hm
   simp only[Bool.or_true,if_true];have hn:fixB 9221120237041090560=9221120237041090560:=by decide
   go_enter Tryz.func203,Tryz.ntmps203
   go_wp2_with (first | (go_at_call 85;refine(a90 _ _).mono ?_;rintro e w' ⟨rfl,rfl⟩) | (go_at_call 86;refine(aq5 _).mono ?_;rintro e w' ⟨rfl,rfl⟩))
   go_ret;exact⟨_,0,rfl,hn,rfl⟩
 ·clear hm
  simp only[Bool.true_or,if_true];have hn:fixB 9221120237041090560=9221120237041090560:=by decide
  go_enter Tryz.func203,Tryz.ntmps203
  go_wp2_with (first | (go_at_call 85;refine(a90 _ _).mono ?_;rintro e w' ⟨rfl,rfl⟩) | (go_at_call 86;refine(aq5 _).mono ?_;rintro e w' ⟨rfl,rfl⟩))
  go_ret;exact⟨_,0,rfl,hn,rfl⟩
theorem bF2 (a b:Nat) (ha:a<18446744073709551616) (hb:b<18446744073709551616):(0<cmpB b a->fixB b=maxV a b)/\(¬ 0<cmpB b a->fixB a=maxV a b):=by
 unfold maxV
 cases na:nan a
 ·cases nb:nan b
  ·simp only[Bool.or_self,Bool.false_eq_true,if_false]
   exact⟨fun h=>by rw[if_pos h];exact a36 nb,fun h=>by rw[if_neg h];exact a36 na⟩
  ·simp only[Bool.or_true,if_true]
   exact⟨fun _=>a72 nb,fun h=>absurd (by rw[az2 ha na nb];decide) h⟩
 ·simp only[Bool.true_or,if_true]
  have:=aC6 hb na;have e:=b14 a b;exact⟨fun h=>by omega,fun _=>a72 na⟩
theorem aH7 (a b:Nat) (w:World) (ha:a<18446744073709551616) (hb:b<18446744073709551616):Calls Tryz.prog 204 #[.float .f64 a,.float .f64 b] w fun e w'=>∃ r n,e=.returned (.float .f64 r)/\fixB r=maxV a b/\w'=w.drewN n:=by
 obtain⟨h1,h2⟩:=bF2 a b ha hb
 by_cases hc:0<cmpB b a
 ·have HM:Hid (fixB b=maxV a b):=h1 hc
  clear h1 h2;go_enter Tryz.func204,Tryz.ntmps204
  go_wp2_with (go_at_call 217;refine(ac4 _ _ _ hb ha).mono ?_;rintro e w' ⟨rfl,rfl⟩)
  go_ret;exact⟨_,0,rfl,HM.out,rfl⟩
 ·have HM:Hid (fixB a=maxV a b):=h2 hc
  clear h1 h2;go_enter Tryz.func204,Tryz.ntmps204
  go_wp2_with (go_at_call 217;refine(ac4 _ _ _ hb ha).mono ?_;rintro e w' ⟨rfl,rfl⟩)
  go_ret;exact⟨_,0,rfl,HM.out,rfl⟩
theorem ab9 (b:Nat) (w:World):Calls Tryz.prog 216 #[.float .f64 b] w fun e w'=>e=.returned (.bool (cntB b))/\w'=w:=by
 have k0:=at8;have n0:=an6;have k5:=b56;have n5:=b64
 rcases order_cases b 0 with⟨o,n | n⟩ | ⟨n,_,ho⟩
 ·rw[am8 n]
  clear k0 n0 k5 n5 n;go_enter Tryz.func216,Tryz.ntmps216
  go_wp2
  go_ret;exact⟨rfl,rfl⟩
 ·rw[n0]at n;cases n
 ·by_cases hk:key b<0
  ·have o:FloatKind.f64.format.order b 0=some .lt:=by rcases ho with h | h | h <;> first | exact h.1 | omega
   have e:cntB b=false:=by unfold cntB;rw[zU (by omega:¬ 0<=key b),Bool.and_false,Bool.false_and,Bool.false_and]
   rw[e];clear k0 n0 k5 n5 n ho hk e;go_enter Tryz.func216,Tryz.ntmps216
   go_wp2
   go_ret;exact⟨rfl,rfl⟩
  ·have o:FloatKind.f64.format.order b 0=some .gt∨FloatKind.f64.format.order b 0=some .eq:=by rcases ho with h | h | h <;> first | exact .inl h.1 | exact .inr h.1 | omega
   by_cases hl:key b<4845873199050653696
   ·have o5:FloatKind.f64.format.order b 4845873199050653696=some .lt:=by
     rcases order_cases b 4845873199050653696 with⟨_,g | g⟩ | ⟨_,_,h | h | h⟩
     ·rw[n]at g;cases g
     ·rw[n5]at g;cases g
     ·exact h.1
     ·omega
     ·omega
    have hc:=(b17 (by omega) hl).1;have hu:=fun (w:World)=>run_convert_float_int (P:=Tryz.prog) w 49 52 .f64 .u64 b _ (by rw[Tryz.underlying49];rfl) Tryz.underlying52 hc
    have e:cntB b=(FloatKind.f64.format.order (floatOfInt .f64 (truncN b)) b == some .eq):=by unfold cntB;rw[n,zT (by omega:0<=key b),zT hl];rfl
    rw[e];clear k0 n0 k5 n5 n ho hk e hl hc
    rcases o with o | o
    all_goals
     go_enter Tryz.func216,Tryz.ntmps216
     go_wp2
     go_ret;exact⟨rfl,rfl⟩
   ·have o5:FloatKind.f64.format.order b 4845873199050653696=some .gt∨FloatKind.f64.format.order b 4845873199050653696=some .eq:=by
     rcases order_cases b 4845873199050653696 with⟨_,g | g⟩ | ⟨_,_,h | h | h⟩
     ·rw[n]at g;cases g
     ·rw[n5]at g;cases g
     ·omega
     ·exact .inr h.1
     ·exact .inl h.1
    have e:cntB b=false:=by unfold cntB;rw[zU hl,Bool.and_false,Bool.false_and]
    rw[e];clear k0 n0 k5 n5 n ho hk e hl
    rcases o with o | o <;> rcases o5 with o5 | o5
    all_goals
     go_enter Tryz.func216,Tryz.ntmps216
     go_wp2
     go_ret;exact⟨rfl,rfl⟩
attribute [local go_sem] frombits_run bits_run
theorem bl4 (a b:Nat) (w:World):Calls Tryz.prog 202 #[.float .f64 a,.float .f64 b] w fun e w'=>∃ r n,e=.returned (.float .f64 r)/\fixB r=modV a b/\w'=w.drewN n:=by
 have hn:fixB 9221120237041090560=9221120237041090560:=by decide
 cases ca:cntB a
 ·rw[aw9 ca]
  go_enter Tryz.func202,Tryz.ntmps202
  go_wp2_with (first | (go_at_call 216;refine(ab9 _ _).mono ?_;rintro e w' ⟨rfl,rfl⟩) | (go_at_call 86;refine(aq5 _).mono ?_;rintro e w' ⟨rfl,rfl⟩))
  go_ret;exact⟨_,0,rfl,hn,rfl⟩
 ·cases cb:cntB b
  ·rw[aq4 cb]
   go_enter Tryz.func202,Tryz.ntmps202
   go_wp2_with (first | (go_at_call 216;refine(ab9 _ _).mono ?_;rintro e w' ⟨rfl,rfl⟩) | (go_at_call 86;refine(aq5 _).mono ?_;rintro e w' ⟨rfl,rfl⟩))
   go_ret;exact⟨_,0,rfl,hn,rfl⟩
  ·obtain⟨na,ka,la⟩:=aG8 ca
   obtain⟨nb,kb,lb⟩:=aG8 cb;have k1:=bv3
   rcases order_cases b 4607182418800017408 with⟨_,g | g⟩ | ⟨_,_,h⟩
   ·rw[nb]at g;cases g
   ·rw[bw3]at g;cases g
   ·by_cases hlt:key b<4607182418800017408
    ·have o:FloatKind.f64.format.order b 4607182418800017408=some .lt:=by rcases h with h | h | h <;> first | exact h.1 | omega
     rw[bh9 (by rw[o];rfl)];clear h na ka la nb kb lb k1 hlt;go_enter Tryz.func202,Tryz.ntmps202
     go_wp2_with (first | (go_at_call 216;refine(ab9 _ _).mono ?_;rintro e w' ⟨rfl,rfl⟩) | (go_at_call 86;refine(aq5 _).mono ?_;rintro e w' ⟨rfl,rfl⟩))
     go_ret;exact⟨_,0,rfl,hn,rfl⟩
    ·have o:FloatKind.f64.format.order b 4607182418800017408=some .gt∨FloatKind.f64.format.order b 4607182418800017408=some .eq:=by rcases h with h | h | h <;> first | exact .inl h.1 | exact .inr h.1 | omega
     have hp:=bb7 (b:=b) (by omega);have t1:=aO9 ka la;have t2:=aO9 kb lb;have c1:=(b17 ka la).1;have c2:=(b17 kb lb).1;have u1:=fun (w:World)=>run_convert_float_int (P:=Tryz.prog) w 49 52 .f64 .u64 a _ (by rw[Tryz.underlying49];rfl) Tryz.underlying52 c1
     have u2:=fun (w:World)=>run_convert_float_int (P:=Tryz.prog) w 49 52 .f64 .u64 b _ (by rw[Tryz.underlying49];rfl) Tryz.underlying52 c2
     have HM:Hid (modV a b=fixB (floatOfInt .f64 ((truncN a % truncN b:Nat):Int))):=b63 ca cb (by rcases o with o | o <;> rw[o] <;> rfl);clear h na ka la nb kb lb k1 hlt c1 c2
     generalize truncN a=x at *
     generalize truncN b=y at *
     rcases o with o | o
     all_goals
      go_enter Tryz.func202,Tryz.ntmps202
      go_wp2_with (first | (go_at_call 216;refine(ab9 _ _).mono ?_;rintro e w' ⟨rfl,rfl⟩) | (go_at_call 86;refine(aq5 _).mono ?_;rintro e w' ⟨rfl,rfl⟩))
      go_ret;refine⟨_,0,rfl,?_,rfl⟩;rw[HM.out]
      rfl
theorem aK8 (w:World):Calls Tryz.prog 184 #[] w fun e w'=>e=.returned (.agg #[Value.nilFunc,Value.func (Fn.func 198) #[] #[],Value.func (Fn.func 199) #[] #[],Value.func (Fn.func 200) #[] #[],Value.func (Fn.func 201) #[] #[],Value.func (Fn.func 202) #[] #[],Value.func (Fn.func 203) #[] #[],Value.func (Fn.func 204) #[] #[],Value.func (Fn.func 205) #[] #[],Value.func (Fn.func 206) #[] #[],Value.func (Fn.func 207) #[] #[],Value.func (Fn.func 208) #[] #[],Value.func (Fn.func 209) #[] #[]])/\Grw w w':=by
 go_enter Tryz.func184,Tryz.ntmps184
 go_wp2
 exact bodyPost_ret (v:=.agg #[Value.nilFunc,Value.func (Fn.func 198) #[] #[],Value.func (Fn.func 199) #[] #[],Value.func (Fn.func 200) #[] #[],Value.func (Fn.func 201) #[] #[],Value.func (Fn.func 202) #[] #[],Value.func (Fn.func 203) #[] #[],Value.func (Fn.func 204) #[] #[],Value.func (Fn.func 205) #[] #[],Value.func (Fn.func 206) #[] #[],Value.func (Fn.func 207) #[] #[],Value.func (Fn.func 208) #[] #[],Value.func (Fn.func 209) #[] #[]]) (by simp[results,Tryz.results184,go_sem]) rfl ⟨rfl,by repeat (first | exact Grw.refl _ | apply Grw.drew | apply Grw.alloc)⟩
theorem ab8 (k fid a b v:Nat) (w:World) (h1:1<=k) (h2:k<=12)
  (hS:∀ w1:World,(w1.alloc (.cells #[Value.nilFunc,Value.func (Fn.func 198) #[] #[],Value.func (Fn.func 199) #[] #[],Value.func (Fn.func 200) #[] #[],Value.func (Fn.func 201) #[] #[],Value.func (Fn.func 202) #[] #[],Value.func (Fn.func 203) #[] #[],Value.func (Fn.func 204) #[] #[],Value.func (Fn.func 205) #[] #[],Value.func (Fn.func 206) #[] #[],Value.func (Fn.func 207) #[] #[],Value.func (Fn.func 208) #[] #[],Value.func (Fn.func 209) #[] #[]] 247)).cell? ⟨w1.heap.size,k,none⟩=some (Value.func (Fn.func fid) #[] #[]))
  (hcall:∀ (args:Array Value) (w:World),(callFunc fid args).run Tryz.prog w=.ok (.enter fid args) w)
  (hF:∀ w,Calls Tryz.prog fid #[.float .f64 (fixB a),.float .f64 (fixB b)] w fun e w'=>∃ r n,e=.returned (.float .f64 r)/\fixB r=v/\w'=w.drewN n) :
  Calls Tryz.prog 168 #[.int .i64 k,.float .f64 a,.float .f64 b] w fun e w'=>e=.returned (.tuple #[.float .f64 v,.int .i64 0])/\Grw w w':=by
 have HS:Hid (∀ w1:World,(w1.alloc (.cells #[Value.nilFunc,Value.func (Fn.func 198) #[] #[],Value.func (Fn.func 199) #[] #[],Value.func (Fn.func 200) #[] #[],Value.func (Fn.func 201) #[] #[],Value.func (Fn.func 202) #[] #[],Value.func (Fn.func 203) #[] #[],Value.func (Fn.func 204) #[] #[],Value.func (Fn.func 205) #[] #[],Value.func (Fn.func 206) #[] #[],Value.func (Fn.func 207) #[] #[],Value.func (Fn.func 208) #[] #[],Value.func (Fn.func 209) #[] #[]] 247)).cell? ⟨w1.heap.size,k,none⟩=some (Value.func (Fn.func fid) #[] #[])):=hS;clear hS;have HF:Hid (∀ w,Calls Tryz.prog fid #[.float .f64 (fixB a),.float .f64 (fixB b)] w fun e w'=>∃ r n,e=.returned (.float .f64 r)/\fixB r=v/\w'=w.drewN n):=hF;clear hF;go_enter Tryz.func168,Tryz.ntmps168
 go_wp2_with (go_at_call 184;refine(aK8 _).mono ?_;rintro e w1 ⟨rfl,hg⟩)
 go_region_held (fun w'=>w'.cell? ⟨w1.heap.size,k,none⟩=some (Value.func (Fn.func fid) #[] #[])) (first | exact HS.out _ | go_keep) (first | (go_at_call 75;refine(ae2 _ _).mono ?_;rintro e w2 ⟨rfl,rfl⟩) | (refine(HF.out _).mono ?_;rintro e w2 ⟨r,n,rfl,hr,rfl⟩))
 go_wp2
 go_ret2;exact⟨rfl,aw3 (hg.alloc _ _) _⟩
theorem bN9 (a b:Nat) (w:World) (_ha:a<18446744073709551616) (_hb:b<18446744073709551616):Calls Tryz.prog 168 #[.int .i64 1,.float .f64 a,.float .f64 b] w fun e w'=>e=.returned (.tuple #[.float .f64 (resV (floatBits .add .f64 a b)),.int .i64 0])/\Grw w w' :=
 ab8 1 198 a b _ w (by omega) (by omega) (fun w1=>by simp[go_sem]) (enter_run Tryz.func198 (by kernel_rfl) (by kernel_rfl)) (fun w=>(bA1 _ _ _).mono fun _ _ ⟨r,n,h1,h2,h3⟩=>⟨r,n,h1,h2.trans (congrArg resV (ac1 _ a b)),h3⟩)
theorem bO0 (a b:Nat) (w:World) (_ha:a<18446744073709551616) (_hb:b<18446744073709551616):Calls Tryz.prog 168 #[.int .i64 2,.float .f64 a,.float .f64 b] w fun e w'=>e=.returned (.tuple #[.float .f64 (resV (floatBits .sub .f64 a b)),.int .i64 0])/\Grw w w' :=
 ab8 2 199 a b _ w (by omega) (by omega) (fun w1=>by simp[go_sem]) (enter_run Tryz.func199 (by kernel_rfl) (by kernel_rfl)) (fun w=>(az3 _ _ _).mono fun _ _ ⟨r,n,h1,h2,h3⟩=>⟨r,n,h1,h2.trans (congrArg resV (ac1 _ a b)),h3⟩)
theorem bO1 (a b:Nat) (w:World) (_ha:a<18446744073709551616) (_hb:b<18446744073709551616):Calls Tryz.prog 168 #[.int .i64 3,.float .f64 a,.float .f64 b] w fun e w'=>e=.returned (.tuple #[.float .f64 (resV (floatBits .mul .f64 a b)),.int .i64 0])/\Grw w w' :=
 ab8 3 200 a b _ w (by omega) (by omega) (fun w1=>by simp[go_sem]) (enter_run Tryz.func200 (by kernel_rfl) (by kernel_rfl)) (fun w=>(aN7 _ _ _).mono fun _ _ ⟨r,n,h1,h2,h3⟩=>⟨r,n,h1,h2.trans (congrArg resV (ac1 _ a b)),h3⟩)
theorem bO2 (a b:Nat) (w:World) (_ha:a<18446744073709551616) (_hb:b<18446744073709551616):Calls Tryz.prog 168 #[.int .i64 4,.float .f64 a,.float .f64 b] w fun e w'=>e=.returned (.tuple #[.float .f64 (resV (floatBits .quo .f64 a b)),.int .i64 0])/\Grw w w' :=
 ab8 4 201 a b _ w (by omega) (by omega) (fun w1=>by simp[go_sem]) (enter_run Tryz.func201 (by kernel_rfl) (by kernel_rfl)) (fun w=>(aJ6 _ _ _).mono fun _ _ ⟨r,n,h1,h2,h3⟩=>⟨r,n,h1,h2.trans (congrArg resV (ac1 _ a b)),h3⟩)
theorem bO3 (a b:Nat) (w:World) (_ha:a<18446744073709551616) (_hb:b<18446744073709551616):Calls Tryz.prog 168 #[.int .i64 5,.float .f64 a,.float .f64 b] w fun e w'=>e=.returned (.tuple #[.float .f64 (modV a b),.int .i64 0])/\Grw w w' :=
 ab8 5 202 a b _ w (by omega) (by omega) (fun w1=>by simp[go_sem]) (enter_run Tryz.func202 (by kernel_rfl) (by kernel_rfl)) (fun w=>(bl4 _ _ _).mono fun _ _ ⟨r,n,h1,h2,h3⟩=>⟨r,n,h1,h2.trans (bh8 a b),h3⟩)
theorem bO4 (a b:Nat) (w:World) (ha:a<18446744073709551616) (hb:b<18446744073709551616):Calls Tryz.prog 168 #[.int .i64 6,.float .f64 a,.float .f64 b] w fun e w'=>e=.returned (.tuple #[.float .f64 (minV a b),.int .i64 0])/\Grw w w' :=
 ab8 6 203 a b _ w (by omega) (by omega) (fun w1=>by simp[go_sem]) (enter_run Tryz.func203 (by kernel_rfl) (by kernel_rfl)) (fun w=>(b60 _ _ _ (aa1 ha) (aa1 hb)).mono fun _ _ ⟨r,n,h1,h2,h3⟩=>⟨r,n,h1,h2.trans (bh5 a b),h3⟩)
theorem bO5 (a b:Nat) (w:World) (ha:a<18446744073709551616) (hb:b<18446744073709551616):Calls Tryz.prog 168 #[.int .i64 7,.float .f64 a,.float .f64 b] w fun e w'=>e=.returned (.tuple #[.float .f64 (maxV a b),.int .i64 0])/\Grw w w' :=
 ab8 7 204 a b _ w (by omega) (by omega) (fun w1=>by simp[go_sem]) (enter_run Tryz.func204 (by kernel_rfl) (by kernel_rfl)) (fun w=>(aH7 _ _ _ (aa1 ha) (aa1 hb)).mono fun _ _ ⟨r,n,h1,h2,h3⟩=>⟨r,n,h1,h2.trans (bh2 a b),h3⟩)
theorem bO6 (a b:Nat) (w:World) (_ha:a<18446744073709551616) (_hb:b<18446744073709551616):Calls Tryz.prog 168 #[.int .i64 8,.float .f64 a,.float .f64 b] w fun e w'=>e=.returned (.tuple #[.float .f64 (yesB (FloatKind.f64.format.order a b == some .lt)),.int .i64 0])/\Grw w w' :=
 ab8 8 205 a b _ w (by omega) (by omega) (fun w1=>by simp[go_sem]) (enter_run Tryz.func205 (by kernel_rfl) (by kernel_rfl)) (fun w=>(bg5 _ _ _).mono fun _ _ ⟨r,n,h1,h2,h3⟩=>⟨r,n,h1,h2.trans (by rw[ax3]),h3⟩)
theorem bO7 (a b:Nat) (w:World) (_ha:a<18446744073709551616) (_hb:b<18446744073709551616):Calls Tryz.prog 168 #[.int .i64 9,.float .f64 a,.float .f64 b] w fun e w'=>e=.returned (.tuple #[.float .f64 (yesB (FloatKind.f64.format.order a b == some .lt || FloatKind.f64.format.order a b == some .eq)),.int .i64 0])/\Grw w w' :=
 ab8 9 206 a b _ w (by omega) (by omega) (fun w1=>by simp[go_sem]) (enter_run Tryz.func206 (by kernel_rfl) (by kernel_rfl)) (fun w=>(aU2 _ _ _).mono fun _ _ ⟨r,n,h1,h2,h3⟩=>⟨r,n,h1,h2.trans (by rw[ax3]),h3⟩)
theorem bH6 (a b:Nat) (w:World) (_ha:a<18446744073709551616) (_hb:b<18446744073709551616):Calls Tryz.prog 168 #[.int .i64 10,.float .f64 a,.float .f64 b] w fun e w'=>e=.returned (.tuple #[.float .f64 (yesB (FloatKind.f64.format.order a b == some .eq)),.int .i64 0])/\Grw w w' :=
 ab8 10 207 a b _ w (by omega) (by omega) (fun w1=>by simp[go_sem]) (enter_run Tryz.func207 (by kernel_rfl) (by kernel_rfl)) (fun w=>(b27 _ _ _).mono fun _ _ ⟨r,n,h1,h2,h3⟩=>⟨r,n,h1,h2.trans (by rw[ax3]),h3⟩)
theorem bH7 (a b:Nat) (w:World) (_ha:a<18446744073709551616) (_hb:b<18446744073709551616):Calls Tryz.prog 168 #[.int .i64 11,.float .f64 a,.float .f64 b] w fun e w'=>e=.returned (.tuple #[.float .f64 (yesB (fixB a == fixB b)),.int .i64 0])/\Grw w w' :=
 ab8 11 208 a b _ w (by omega) (by omega) (fun w1=>by simp[go_sem]) (enter_run Tryz.func208 (by kernel_rfl) (by kernel_rfl)) (fun w=>(b99 _ _ _).mono fun _ _ ⟨r,n,h1,h2,h3⟩=>⟨r,n,h1,h2.trans (by rw[av6,av6]),h3⟩)
theorem bH8 (a b:Nat) (w:World) (ha:a<18446744073709551616) (hb:b<18446744073709551616):Calls Tryz.prog 168 #[.int .i64 12,.float .f64 a,.float .f64 b] w fun e w'=>e=.returned (.tuple #[.float .f64 (yesB (decide (cmpB a b<0))),.int .i64 0])/\Grw w w' :=
 ab8 12 209 a b _ w (by omega) (by omega) (fun w1=>by simp[go_sem]) (enter_run Tryz.func209 (by kernel_rfl) (by kernel_rfl)) (fun w=>(ahead_any _ _ _ (aa1 ha) (aa1 hb)).mono fun _ _ ⟨r,n,h1,h2,h3⟩=>⟨r,n,h1,h2.trans (by rw[aC5]),h3⟩)
attribute [local go_sem] frombits_run bits_run
def idxB (b:Nat) (n:Int):Bool:=!nan b && decide (0<=key b) && decide (key b<4890909195324358656) && FloatKind.f64.format.order (floatOfInt .f64 (truncN b)) b == some .eq && decide ((truncN b:Int)<n)
def idxV (b:Nat) (n:Int):Int:=if idxB b n then truncN b else 0
def idxE (b:Nat) (n:Int):Int:=if idxB b n then 0 else 10
theorem aH8 {b:Nat} {n:Int} (h:idxB b n=false):idxV b n=0/\idxE b n=10:=by unfold idxV idxE;rw[h];exact⟨rfl,rfl⟩
theorem bv0 {b:Nat} {n:Int} (h:idxB b n=true):idxV b n=truncN b/\idxE b n=0:=by unfold idxV idxE;rw[h];exact⟨rfl,rfl⟩
theorem b57:key 4890909195324358656=4890909195324358656:=by decide +kernel
theorem b65:nan 4890909195324358656=false:=by decide +kernel
theorem bB0 {b:Nat} (h0:0<=key b) (h1:key b<4890909195324358656):truncN b<9223372036854775808:=by
 have:=aw8 h0;exact aT3 (by omega) bc3
theorem bC3 {b:Nat} (h0:0<=key b) (h1:key b<4890909195324358656):floatToIntVal .f64 b .i64=some ((truncN b:Nat):Int):=by
 have h2:=bB0 h0 h1;have h3:=aw8 h0;have m2:IntKind.i64.max=9223372036854775807:=by decide
 exact aC8 .i64 (by omega) h0 (by decide) (by omega)
theorem ways63 (b:Nat):(nan b=true/\FloatKind.f64.format.order b 0=none)∨(nan b=false/\FloatKind.f64.format.order b 0=some .lt/\key b<0) ∨
  (nan b=false/\0<=key b/\(FloatKind.f64.format.order b 0=some .gt∨FloatKind.f64.format.order b 0=some .eq)/\key b<4890909195324358656/\FloatKind.f64.format.order b 4890909195324358656=some .lt) ∨
  (nan b=false/\(FloatKind.f64.format.order b 0=some .gt∨FloatKind.f64.format.order b 0=some .eq)/\¬ key b<4890909195324358656/\(FloatKind.f64.format.order b 4890909195324358656=some .gt∨FloatKind.f64.format.order b 4890909195324358656=some .eq)):=by
 have k0:=at8;have n0:=an6;have k6:=b57;have n6:=b65
 rcases order_cases b 0 with⟨o,n | n⟩ | ⟨n,_,ho⟩
 ·exact .inl ⟨n,o⟩
 ·rw[n0]at n;cases n
 ·rcases order_cases b 4890909195324358656 with⟨_,g | g⟩ | ⟨_,_,hp⟩
  ·rw[n]at g;cases g
  ·rw[n6]at g;cases g
  ·right
   by_cases hk:key b<0
   ·left;exact⟨n,by rcases ho with h | h | h <;> first | exact h.1 | omega,hk⟩
   ·right
    have o:FloatKind.f64.format.order b 0=some .gt∨FloatKind.f64.format.order b 0=some .eq:=by rcases ho with h | h | h <;> first | exact .inl h.1 | exact .inr h.1 | omega
    by_cases hl:key b<4890909195324358656
    ·left;exact⟨n,by omega,o,hl,by rcases hp with h | h | h <;> first | exact h.1 | omega⟩
    ·right;exact⟨n,o,hl,by rcases hp with h | h | h <;> first | exact .inl h.1 | exact .inr h.1 | omega⟩
theorem aR2 (b:Nat) (n:Int) (w:World) (h:FloatKind.f64.format.order b 0=none∨FloatKind.f64.format.order b 0=some .lt):Calls Tryz.prog 179 #[.float .f64 b,.int .i64 n] w fun e w'=>e=.returned (.tuple #[.int .i64 0,.int .i64 10])/\w'=w:=by
 rcases h with o | o
 all_goals
  go_enter Tryz.func179,Tryz.ntmps179
  go_wp2
  go_ret2;exact⟨rfl,rfl⟩
theorem b52 (b:Nat) (n:Int) (w:World) (o:FloatKind.f64.format.order b 0=some .gt∨FloatKind.f64.format.order b 0=some .eq) (p:FloatKind.f64.format.order b 4890909195324358656=some .gt∨FloatKind.f64.format.order b 4890909195324358656=some .eq):Calls Tryz.prog 179 #[.float .f64 b,.int .i64 n] w fun e w'=>e=.returned (.tuple #[.int .i64 0,.int .i64 10])/\w'=w:=by
 rcases o with o | o <;> rcases p with p | p
 all_goals
  go_enter Tryz.func179,Tryz.ntmps179
  go_wp2
  go_ret2;exact⟨rfl,rfl⟩
theorem aV7 (b t:Nat) (n:Int) (w:World) (o:FloatKind.f64.format.order b 0=some .gt∨FloatKind.f64.format.order b 0=some .eq) (p:FloatKind.f64.format.order b 4890909195324358656=some .lt)
  (u:∀ w:World,(convert 49 2 (.float .f64 b)).run Tryz.prog w=.ok (.int .i64 t) w) (q:(FloatKind.f64.format.order (floatOfInt .f64 t) b == some .eq)=false):Calls Tryz.prog 179 #[.float .f64 b,.int .i64 n] w fun e w'=>e=.returned (.tuple #[.int .i64 0,.int .i64 10])/\w'=w:=by
 have q':(FloatKind.f64.format.order (floatOfInt .f64 t) b != some .eq)=true:=by unfold bne;rw[q];rfl
 rcases o with o | o
 all_goals
  go_enter Tryz.func179,Tryz.ntmps179
  go_wp2
  go_ret2;exact⟨rfl,rfl⟩
theorem aM6 (b t:Nat) (n:Int) (w:World) (o:FloatKind.f64.format.order b 0=some .gt∨FloatKind.f64.format.order b 0=some .eq) (p:FloatKind.f64.format.order b 4890909195324358656=some .lt)
  (u:∀ w:World,(convert 49 2 (.float .f64 b)).run Tryz.prog w=.ok (.int .i64 t) w) (q:(FloatKind.f64.format.order (floatOfInt .f64 t) b == some .eq)=true):Calls Tryz.prog 179 #[.float .f64 b,.int .i64 n] w fun e w'=>e=.returned (.tuple #[.int .i64 (if (t:Int)<n then t else 0),.int .i64 (if (t:Int)<n then 0 else 10)])/\w'=w:=by
 have q':(FloatKind.f64.format.order (floatOfInt .f64 t) b != some .eq)=false:=by unfold bne;rw[q];rfl
 by_cases h:(t:Int)<n
 ·rw[if_pos h,if_pos h]
  rcases o with o | o
  all_goals
   go_enter Tryz.func179,Tryz.ntmps179
   go_wp2
   go_ret2;exact⟨rfl,rfl⟩
 ·rw[if_neg h,if_neg h]
  rcases o with o | o
  all_goals
   go_enter Tryz.func179,Tryz.ntmps179
   go_wp2
   go_ret2;exact⟨rfl,rfl⟩
theorem b51 (b:Nat) (n:Int) (w:World):Calls Tryz.prog 179 #[.float .f64 b,.int .i64 n] w fun e w'=>e=.returned (.tuple #[.int .i64 (idxV b n),.int .i64 (idxE b n)])/\w'=w:=by
 rcases ways63 b with⟨nn,o⟩ | ⟨nn,o,k⟩ | ⟨nn,k,o,l,p⟩ | ⟨nn,o,l,p⟩
 ·obtain⟨e1,e2⟩:=aH8 (b:=b) (n:=n) (by unfold idxB;rw[nn];rfl)
  rw[e1,e2];exact aR2 b n w (.inl o)
 ·obtain⟨e1,e2⟩:=aH8 (b:=b) (n:=n) (by unfold idxB;rw[zU (by omega:¬ 0<=key b),Bool.and_false,Bool.false_and,Bool.false_and,Bool.false_and])
  rw[e1,e2];exact aR2 b n w (.inr o)
 ·have u:=fun (w:World)=>run_convert_float_int (P:=Tryz.prog) w 49 2 .f64 .i64 b _ (by rw[Tryz.underlying49];rfl) Tryz.underlying2 (bC3 k l)
  cases q:(FloatKind.f64.format.order (floatOfInt .f64 (truncN b)) b == some .eq)
  ·obtain⟨e1,e2⟩:=aH8 (b:=b) (n:=n) (by unfold idxB;rw[q,Bool.and_false,Bool.false_and])
   rw[e1,e2];exact aV7 b _ n w o p u q
  ·have h:=aM6 b _ n w o p u q
   by_cases g:(truncN b:Int)<n
   ·obtain⟨e1,e2⟩:=bv0 (b:=b) (n:=n) (by unfold idxB;rw[nn,q,zT k,zT l,zT g];rfl)
    rw[if_pos g,if_pos g]at h;rw[e1,e2];exact h
   ·obtain⟨e1,e2⟩:=aH8 (b:=b) (n:=n) (by unfold idxB;rw[zU g,Bool.and_false])
    rw[if_neg g,if_neg g]at h;rw[e1,e2];exact h
 ·obtain⟨e1,e2⟩:=aH8 (b:=b) (n:=n) (by unfold idxB;rw[zU l,Bool.and_false,Bool.false_and,Bool.false_and])
  rw[e1,e2];exact b52 b n w o p
attribute [local go_sem] frombits_run bits_run
attribute [local go_sem] frombits_run bits_run
end Go.Proofs.YtipakfjpfjehmaaGreatDoor
namespace Go.Proofs.YtipakfjpfjehmaaGreatDoor
open Go.ChangeShapes Go.WideShapes Go.ChangeAt Go.RowKit Num Go.Maps
attribute [local go_sem] a00 frombits_run bits_run
theorem Below.turn {w w':World} (k:Bl w w') (F:List Nat):Turn F F w w':=⟨k.os,k.tape,k.output,k.size,fun i hi _=>k.block i hi,fun _ h=>.inl h⟩
theorem below_alloc (w:World) (x:Obj):Bl w (w.alloc x):=(zF _ _).alloc (zE _) x
theorem aA7 {w w':World} {g:Nat} (h:w.grownBy w' (some g)):Turn [g] [g] w w' :=
 ⟨h.os,h.tape,h.output,h.size,fun k hk hn=>h.block k hk (by simp at hn ⊢;omega),fun k hk=>.inl hk⟩
theorem RowAt.on {E:TypeId} {w w':World} {p:Option Addr} {c:Nat} {xs:List Value} (h:RowAt E w p c xs) (k:Bl w w'):RowAt E w' p c xs:=h.keep (a27 k h.blw)
theorem Turn.wide {F G:List Nat} {w w':World} (k:Turn F F w w') (h:∀ i,i∈F->i∈G):Turn G G w w' :=
 ⟨k.os,k.tape,k.output,k.size,fun i hi hn=>k.block i hi (fun q=>hn (h i q)),fun _ q=>.inl q⟩
structure BufAt (w:World) (b bm:Nat) (p:Option Addr) (c:Nat) (m:Int) (l:Wr):Prop where
 box:w.heap[b]?=some (.cells #[.int .i64 m,.map (some bm),.slice p l.length c] 193 (0,0))
 row:RowAt 3 w p c (i64s (a05 l))
 map:ak4 w bm l
 n1:b∉fpR p
 n2:bm∉fpR p
 n3:b≠bm
 fits:(l.length:Int)<=m
 most:m<=32
 nod:(a05 l).Nodup
 wfs:∀ t∈l,(Lit.int .i64 t.1).wf=true
def Buf (w:World) (b:Nat) (F:List Nat) (m:Int) (l:Wr):Prop:=∃ bm p c,BufAt w b bm p c m l/\F=b::bm::fpR p
section
variable {w w':World} {b bm c:Nat} {p:Option Addr} {m:Int} {l:Wr} {F:List Nat}
theorem BufAt.ltB (h:BufAt w b bm p c m l):b<w.heap.size:=lt_of_block h.box
theorem BufAt.cell0 (h:BufAt w b bm p c m l):w.cell? ⟨b,0,none⟩=some (.int .i64 m):=by rw[zR w b 0 _ _ _ h.box];rfl
theorem BufAt.cell1 (h:BufAt w b bm p c m l):w.cell? ⟨b,1,none⟩=some (.map (some bm)):=by rw[zR w b 1 _ _ _ h.box];rfl
theorem BufAt.cell2 (h:BufAt w b bm p c m l):w.cell? ⟨b,2,none⟩=some (.slice p l.length c):=by rw[zR w b 2 _ _ _ h.box];rfl
theorem BufAt.blw (h:BufAt w b bm p c m l):Blw w (b::bm::fpR p):=fun k hk=>by
 rcases List.mem_cons.1 hk with rfl | q
 ·exact h.ltB
 ·rcases List.mem_cons.1 q with rfl | q
  ·exact h.map.lt
  ·exact h.row.blw k q
theorem BufAt.keep (h:BufAt w b bm p c m l) (k:Kept (b::bm::fpR p) w w'):BufAt w' b bm p c m l :=
 ⟨(k.2 b (by simp)).trans h.box,h.row.keep ⟨k.1,fun i hi=>k.2 i (by simp[hi])⟩,h.map.keep (k.2 bm (by simp)),h.n1,h.n2,h.n3,h.fits,h.most,h.nod,h.wfs⟩
theorem BufAt.same (h:BufAt w b bm p c m l) (k:Same w w'):BufAt w' b bm p c m l:=h.keep (k.kept _)
theorem BufAt.buf (h:BufAt w b bm p c m l):Buf w b (b::bm::fpR p) m l:=⟨bm,p,c,h,rfl⟩
theorem Buf.blw (h:Buf w b F m l):Blw w F:=by obtain⟨bm,p,c,hs,rfl⟩:=h;exact hs.blw
theorem Buf.keep (h:Buf w b F m l) (k:Kept F w w'):Buf w' b F m l:=by
 obtain⟨bm,p,c,hs,rfl⟩:=h;exact⟨bm,p,c,hs.keep k,rfl⟩
theorem Buf.same (h:Buf w b F m l) (k:Same w w'):Buf w' b F m l:=h.keep (k.kept F)
theorem Buf.on (h:Buf w b F m l) (k:Bl w w'):Buf w' b F m l:=h.keep (a27 k h.blw)
theorem Buf.few (h:Buf w b F m l):(l.length:Int)<=m/\m<=32:=by obtain⟨bm,p,c,hs,rfl⟩:=h;exact⟨hs.fits,hs.most⟩
end
def mayP (m:Int) (l:Wr) (c:Int):Bool:=hasC l c || decide ((l.length:Int)<m)
def putL (m:Int) (l:Wr) (c:Int) (x:Nat):Wr:=if mayP m l c then putC l c (fixB x) else l
def putF (m:Int) (l:Wr) (c:Int):Bool:=!hasC l c && decide ((l.length:Int)<m)
def putE (m:Int) (l:Wr) (c:Int):Int:=if mayP m l c then 0 else 70
def mayM (m:Int):Bool:=decide (1<=m) && decide (m<=32)
theorem bB7 {l:Wr} (h:∀ t∈l,(Lit.int .i64 t.1).wf=true) {c:Int} (hc:(Lit.int .i64 c).wf=true) (y:Nat):∀ t∈putC l c y,(Lit.int .i64 t.1).wf=true:=by
 intro t ht;have h1:t.1∈a05 (putC l c y):=List.mem_map.2 ⟨t,ht,rfl⟩;have h2:∀ d,d∈a05 l->(Lit.int .i64 d).wf=true:=fun d hd=>by
  obtain⟨u,hu,rfl⟩:=List.mem_map.1 hd;exact h u hu
 rw[ab0]at h1
 split at h1
 ·exact h2 _ h1
 ·rcases List.mem_append.1 h1 with q | q
  ·exact h2 _ q
  ·simp at q
   rw[q];exact hc
section
variable {w w':World} {b bm c:Nat} {p:Option Addr} {m:Int} {l:Wr} {F:List Nat}
theorem BufAt.laid (h:BufAt w b bm p c m l) {d:Int} (hd:hasC l d=true) {y:Nat} (hm:ak4 w' bm (putC l d y)) (hg:w.grownBy w' (some bm)):BufAt w' b bm p c m (putC l d y)/\Turn (b::bm::fpR p) (b::bm::fpR p) w w':=by
 have hl:(putC l d y).length=l.length:=by rw[aj8,if_pos hd]
 have hcl:a05 (putC l d y)=a05 l:=by rw[ab0,if_pos hd]
 have ht:=aA7 hg;refine⟨⟨?_,?_,hm,h.n1,h.n2,h.n3,by rw[hl];exact h.fits,h.most,by rw[hcl];exact h.nod,?_⟩,ht.wide (by simp)⟩
 ·rw[hl,hg.block b h.ltB (by simp[h.n3])]
  exact h.box
 ·rw[hcl]
  exact h.row.keep (ht.kept (fun k hk q=>h.n2 (by simp at q;rw[<- q];exact hk)) h.row.blw)
 ·intro t ht
  have h1:t.1∈a05 (putC l d y):=List.mem_map.2 ⟨t,ht,rfl⟩;rw[hcl]at h1;obtain⟨u,hu,e⟩:=List.mem_map.1 h1;rw[<- e];exact h.wfs u hu
theorem BufAt.more {w3:World} {v:Value} {d:Int} {o:Obj} (h:BufAt w b bm p c m l) (hown:w3.ownsRow 0 3 1 v (l.length+1) (i64s (a05 l) ++ [.int .i64 d])) (hg:(w.alloc o).grownBy w3 (Value.slice p l.length c).ownBlock) (hat:v.ownBlock=(Value.slice p l.length c).ownBlock∨v.ownBlock=some (w.alloc o).heap.size) (hd:hasC l d=false) (hw:(Lit.int .i64 d).wf=true) (hf:(l.length:Int)<m) (y:Nat) :
  ∃ p' c',v=.slice p' (l.length+1) c'/\w3.cell? ⟨b,1,none⟩=some (.map (some bm))/\w3.cell? ⟨b,2,none⟩=some (.slice p l.length c)/\w3.frozen? ⟨b,2,none⟩=false/\b<w3.heap.size /\
   ∃ w4,(Instr.mapUpdate 191 (.map (some bm)) (.int .i64 d) (.float .f64 y)).run Tryz.prog (w3.setCell ⟨b,2,none⟩ (.slice p' (l.length+1) c')).drew=.ok () w4/\BufAt w4 b bm p' c' m (putC l d y)/\Turn (b::bm::fpR p) (b::bm::fpR p') w w4:=by
 obtain⟨p',c',rfl,hr⟩:=a93 hown;have hl:(i64s (a05 l) ++ [Value.int .i64 d]).length=l.length+1:=by simp[a37,ai2]
 have hl2:(putC l d y).length=l.length+1:=by rw[aj8,hd];rfl
 have hcl:a05 (putC l d y)=a05 l ++ [d]:=by rw[ab0,hd];rfl
 have g:w.grownBy w3 (Value.slice p l.length c).ownBlock:=(World.grownBy_alloc w o _).trans hg;have ho:∀ k,k∈fpR p'->k∈fpR p∨w.heap.size<=k:=ak7 hat (by simp)
 have hbox:w3.heap[b]?=some (.cells #[.int .i64 m,.map (some bm),.slice p l.length c] 193 (0,0)):=(g.block b h.ltB (fun q=>h.n1 (a42.2 q.symm))).trans h.box;have hne:b∉fpR p':=fun q=>(ho b q).elim h.n1 (fun z=>absurd h.ltB (Nat.not_lt.2 z))
 have hne2:bm∉fpR p':=fun q=>(ho bm q).elim h.n2 (fun z=>absurd h.map.lt (Nat.not_lt.2 z))
 rw[hl];refine⟨p',c',rfl,by rw[zR w3 b 1 _ _ _ hbox];rfl,by rw[zR w3 b 2 _ _ _ hbox];rfl,zZ w3 b 2 _ _ hbox,lt_of_block hbox,?_⟩;have hm1:ak4 (w3.setCell ⟨b,2,none⟩ (.slice p' (l.length+1) c')) bm l:=h.map.keep ((zO _ _ _ _ (Ne.symm h.n3)).trans (g.block bm h.map.lt (fun q=>h.n2 (a42.2 q.symm))));have hmost:=h.most;obtain⟨w4,hrun,hm4,hg4⟩:=(hm1.keep (w':=(w3.setCell ⟨b,2,none⟩ (.slice p' (l.length+1) c')).drew) rfl).lay hw y (by unfold maxLen;omega);have ht4:=aA7 hg4;have hr2:RowAt 3 (w3.setCell ⟨b,2,none⟩ (.slice p' (l.length+1) c')) p' c' (i64s (a05 l) ++ [Value.int .i64 d]):=hr.keep ⟨by simp,fun k hk=>zO _ _ _ _ (by rintro rfl;exact hne hk)⟩;refine⟨w4,hrun,⟨?_,?_,hm4,hne,hne2,h.n3,by rw[hl2];omega,h.most,aI4 h.nod,bB7 h.wfs hw y⟩,?_⟩
 ·rw[hg4.block b (by simpa using lt_of_block hbox) (by simp[h.n3]),hl2]
  exact(zS w3 b 2 _ _ _ hbox).trans rfl
 ·rw[hcl,aw6]
  exact(hr2.keep ((Same.drew _).kept _)).keep (ht4.kept (fun k hk q=>hne2 (by simp at q;rw[<- q];exact hk)) hr2.blw)
 ·refine⟨hg4.os.trans g.os,hg4.tape.trans g.tape,hg4.output.trans g.output,zQ g.size (by simpa using hg4.size),fun k hk hn=>?_,fun k hk=>?_⟩
  ·simp only[List.mem_cons,not_or]at hn
   exact(hg4.block k (by simpa using zL hk g.size) (by simp[hn.2.1])).trans ((zO _ _ _ _ (by simpa using hn.1)).trans (g.block k hk (fun q=>hn.2.2 (a42.2 q.symm))))
  ·simp only[List.mem_cons]at hk ⊢
   rcases hk with q | q | q
   ·exact .inl (.inl q)
   ·exact .inl (.inr (.inl q))
   ·exact(ho k q).imp (fun z=>.inr (.inr z)) id
end
theorem new_some {n:Int} (hn:mayM n=true) (w:World):Calls Tryz.prog 102 #[.int .i64 n] w fun e w'=>∃ b F,e=.returned (.tuple #[.pointer (some ⟨b,0,none⟩),.int .i64 0])/\Buf w' b F n []/\Abv w.heap.size F/\Bl w w':=by
 have h0:1<=n/\n<=32:=by unfold mayM at hn;simpa using hn
 have h1:¬ n<1:=by omega
 have h2:¬ 32<n:=by omega
 have HN:=zH h0;have hmm:=@run_makeMap Tryz.prog;clear hn h0;go_enter Tryz.func102,Tryz.ntmps102
 go_wp2
 go_ret2;refine⟨w.heap.size+1,by simp,[w.heap.size+1,w.heap.size],⟨w.heap.size,none,0,⟨?_,⟨World.ownsRow_nil _ _ _ _⟩,?_,by simp[fpR],by simp[fpR],by omega,by have:=HN.out;simp;omega,HN.out.2,by simp[a05],by simp⟩,by simp[fpR]⟩,fun k hk=>by simp at hk;omega,((zF _ _).alloc (zE _) _).alloc (by simp) _⟩
 ·have:=zN (w.alloc (.map #[] 0)) (.cells #[.int .i64 n,.map (some w.heap.size),.slice none 0 0] 193)
  simpa using this
 ·exact(bv7 w).keep (Below.heap_alloc _ _ _ (by simp))
section
variable {w:World} {b:Nat} {F:List Nat} {m:Int} {l:Wr}
theorem b42 (h:Buf w b F m l) {d:Int} (hd:(Lit.int .i64 d).wf=true):Calls Tryz.prog 161 #[.pointer (some ⟨b,0,none⟩),.int .i64 d] w fun e w'=>e=.returned (.tuple #[.float .f64 (getC l d),.bool (hasC l d)])/\w'=w:=by
 obtain⟨bm,p,c,hs,rfl⟩:=h;have h0:=hs.cell1;have hb:=hs.ltB;have hlk:=hs.map.look hd;clear hs hd;go_enter Tryz.func161,Tryz.ntmps161
 go_wp2
 go_ret2;exact⟨rfl,rfl⟩
end
end Go.Proofs.YtipakfjpfjehmaaGreatDoor
namespace Go.Proofs.YtipakfjpfjehmaaGreatDoor
open Go.ChangeShapes Go.WideShapes Go.ChangeAt Go.RowKit
theorem b45:(Tryz.prog.info? 3).map (fun i=>(i.zero,i.size,i.bytes))=some (some (.int .i64 0),1,8):=by kernel_rfl
theorem at7 (r:Int) (w:World):Calls Tryz.prog 104 #[.int .i64 r] w fun e w'=>∃ b,e=.returned (.pointer (some ⟨b,0,none⟩))/\b=w.heap.size/\Stk 197 3 w' b [b] [] (ag9 r)/\Bl w w':=by
 have H0:=zH (fun r0=>ba6 w 197 3 r0);have HB:=zH (fun o=>(zF w.heap.size w).alloc (zE _) o);have HR:=zH (aS4 r)
 by_cases h1:r<0
 ·have e:ag9 r=0:=by simp[ag9,h1]
  rw[e]at HR ⊢;have h1':¬ 0<=r:=by omega
  clear e;go_enter Tryz.func104,Tryz.ntmps104
  go_wp2
  go_ret;exact⟨_,rfl,rfl,H0.out _ HR.out.1 HR.out.2,HB.out _⟩
 ·by_cases h2:65536<r
  ·have e:ag9 r=65536:=by simp[ag9,h1,h2]
   rw[e]at HR ⊢;clear e;go_enter Tryz.func104,Tryz.ntmps104
   go_wp2
   go_ret;exact⟨_,rfl,rfl,H0.out _ HR.out.1 HR.out.2,HB.out _⟩
  ·have e:ag9 r=r:=by simp[ag9,h1,h2]
   rw[e]at HR ⊢;clear e;go_enter Tryz.func104,Tryz.ntmps104
   go_wp2
   go_ret;exact⟨_,rfl,rfl,H0.out _ HR.out.1 HR.out.2,HB.out _⟩
section
variable {w:World} {b:Nat} {F:List Nat} {l:List Int} {r:Int}
theorem bg3 (h:Stk 197 3 w b F (i64s l) r):Calls Tryz.prog 157 #[.pointer (some ⟨b,0,none⟩)] w fun e w'=>e=.returned (.int .i64 l.length)/\w'=w:=by
 obtain⟨p,c,hs,rfl⟩:=h;have h0:=hs.cell0;rw[a37]at h0;have hb:=hs.ltB;clear hs;go_enter Tryz.func157,Tryz.ntmps157
 go_wp2
 go_ret;exact⟨rfl,rfl⟩
theorem b49 (h:Stk 197 3 w b F (i64s l) r):Calls Tryz.prog 158 #[.pointer (some ⟨b,0,none⟩)] w fun e w'=>e=.returned (.int .i64 r)/\w'=w:=by
 obtain⟨p,c,hs,rfl⟩:=h;have h0:=hs.cell1;have hb:=hs.ltB;clear hs;go_enter Tryz.func158,Tryz.ntmps158
 go_wp2
 go_ret;exact⟨rfl,rfl⟩
theorem b48 (h:Stk 197 3 w b F (i64s l) r) (x:Int):Calls Tryz.prog 166 #[.pointer (some ⟨b,0,none⟩),Value.int .i64 x] w fun e w'=>∃ F',e=.returned (.int .i64 (ax6 l r))/\Stk 197 3 w' b F' (i64s (ao5 l r x)) r/\Turn F F' w w':=by
 have HS:=zH h;obtain⟨p,c,hs,rfl⟩:=h;have h0:=hs.cell0;have h1:=hs.cell1;have hb:=hs.ltB;have hf:=hs.free 0;have hm:=hs.most;rw[a37]at h0
 by_cases hlt:(l.length:Int)<r
 ·have e1:ax6 l r=0:=by simp[ax6,hlt]
  have e2:ao5 l r x=l ++ [x]:=by simp[ao5,hlt]
  rw[e1,e2,aw6];clear e1 e2;obtain⟨i0,hi,hz0,hz1,hz2⟩:=info_parts b45;have HZI:=zH (And.intro hi (And.intro hz0 (And.intro hz1 hz2)));have HA:Hid (∀ k,StAt 197 3 (w.drewN k) b p c (i64s l) r):=fun k=>hs.keep ((Same.drewN w k).kept _)
  have HO:Hid (∀ k,(w.drewN k).ownsRow 0 3 1 (.slice p l.length c) l.length (i64s l)):=fun k=>by
   have:=(HA.out k).row.own;rw[a37]at this;exact this
  have HMORE:Hid (∀ k o w3 v,w3.ownsRow 0 3 1 v (l.length+1) (i64s l ++ [Value.int .i64 x])->((w.drewN k).alloc o).grownBy w3 (Value.slice p l.length c).ownBlock->(v.ownBlock=(Value.slice p l.length c).ownBlock∨v.ownBlock=some ((w.drewN k).alloc o).heap.size)->∃ p' c',v=.slice p' (l.length+1) c'/\Stk 197 3 (w3.setCell ⟨b,0,none⟩ (.slice p' (l.length+1) c')) b (b::fpR p') (i64s l ++ [Value.int .i64 x]) r/\Turn (b::fpR p) (b::fpR p') w (w3.setCell ⟨b,0,none⟩ (.slice p' (l.length+1) c'))/\w3.cell? ⟨b,0,none⟩=some (.slice p l.length c)/\w3.frozen? ⟨b,0,none⟩=false/\b<w3.heap.size):=by
   intro k o w3 v ho hg hat;have hne:some b≠(Value.slice p l.length c).ownBlock:=fun q=>hs.ne (a42.2 q.symm)
   have hbk:=hg.block b (by simp;have:=hs.ltB;omega) hne;have e:=(hs.alloc_box k o);have hm3:=(HA.out k).more (w3:=w3) (v:=v) (o:=o) (x:=Value.int .i64 x) (by rw[a37];exact ho) (by rw[a37];exact hg) (by rw[a37];exact hat) (by rw[a37];exact hlt);rw[a37]at hm3;obtain⟨p',c',q1,q2,q3⟩:=hm3;rw[e,a37]at hbk;refine⟨p',c',q1,q2,((Same.drewN w k).turn _).trans q3,?_,zZ w3 b 0 _ _ hbk,lt_of_block hbk⟩;rw[zR w3 b 0 _ _ _ hbk]
   rfl
  have HLT:=zH (And.intro hlt hm);clear hi hz0 hz1 hz2 hs hm;go_enter Tryz.func166,Tryz.ntmps166
  go_wp2
  go_quiet (fail)
  go_wp2_with (at_builtin;refine wpList_append_own_at _ rfl _ _ 29 rfl 0 3 i0 (.int .i64 0) 1 8 Tryz.underlying29 HZI.out.1 HZI.out.2.1 HZI.out.2.2.1 HZI.out.2.2.2 rfl (by decide) _ l.length (i64s l) rfl (World.ownsRow.alloc (HO.out _) _) ⟨w.heap.size,0,none⟩ 1 1 [Value.int .i64 x] rfl rfl (cell_one_new _ _ _) (fun u hu=>by simp at hu;subst hu;rfl) (by have:=HLT.out;unfold maxLen;omega) (by have:=HLT.out;omega) (zV _) ?_;intro v3 w3 hown3 hgrow3 hnil3 hat3;obtain⟨p',c',hv3,q1,q2,q3,q4,q5⟩:=HMORE.out _ _ _ _ hown3 hgrow3 hat3;subst hv3;have HQ:=zH (And.intro q1 q2);clear hown3 hgrow3 hnil3 hat3 q1 q2 HMORE)
  go_ret;exact⟨_,rfl,HQ.out.1,HQ.out.2⟩
 ·have e1:ax6 l r=40:=by simp[ax6,hlt]
  have e2:ao5 l r x=l:=by simp[ao5,hlt]
  rw[e1,e2];clear e1 e2 hs hm;go_enter Tryz.func166,Tryz.ntmps166
  go_wp2
  go_quiet (fail)
  go_wp2
  go_ret;exact⟨_,rfl,HS.out.same (Same.drewN _ _),(Same.drewN _ _).turn _⟩
theorem aV5 (h:Stk 197 3 w b F (i64s l) r) (i:Int) (hi:inB l.length i=false):Calls Tryz.prog 182 #[.pointer (some ⟨b,0,none⟩),.int .i64 i] w fun e w'=>e=.returned (.tuple #[Value.int .i64 0,.int .i64 41])/\w'=w:=by
 obtain⟨p,c,hs,rfl⟩:=h;have h0:=hs.cell0;have hb:=hs.ltB;rw[a37]at h0;have hi:=zM hi;clear hs
 by_cases h1:i<0
 ·clear hi
  go_enter Tryz.func182,Tryz.ntmps182
  go_wp2
  go_ret2;exact⟨rfl,rfl⟩
 ·have h2:(l.length:Int)<=i:=by omega
  clear hi;go_enter Tryz.func182,Tryz.ntmps182
  go_wp2
  go_ret2;exact⟨rfl,rfl⟩
theorem aV4 (h:Stk 197 3 w b F (i64s l) r) (k j:Nat) (hk:j+1+k=l.length) (x:Int) (hx:l[j]?=some x):Calls Tryz.prog 182 #[.pointer (some ⟨b,0,none⟩),.int .i64 k] w fun e w'=>e=.returned (.tuple #[Value.int .i64 x,.int .i64 0])/\∃ q,w'=w.drewN q:=by
 obtain⟨p,c,hs,rfl⟩:=h;have h0:=hs.cell0;have hb:=hs.ltB;obtain⟨g,rfl,hg,_,_,_,_,hc⟩:=hs.some_at (by rw[a37];omega);have hj:w.cell? ⟨g,j,none⟩=some (Value.int .i64 x):=by
  rw[hc j (by rw[a37];omega),bu9 l j _ (by omega)];rw[List.getElem?_eq_getElem (by omega)]at hx;rw[Option.some.inj hx]
 have hm:=hs.most;have hfi:=hs.fits;rw[a37]at h0 hfi;have hn:l.length<=65536:=by omega
 clear hs hc hx hfi hm;obtain⟨n,hnn⟩:∃ n,n=l.length:=⟨_,rfl⟩
 rw[<- hnn]at h0 hk hn;clear hnn;subst hk;have k1:(k:Int)<((j+1+k:Nat):Int):=by omega
 have e1:((j+1+k:Nat):Int) - 1 - (k:Int)=(j:Int):=by omega
 have k2:(j:Int)<((j+1+k:Nat):Int):=by omega
 go_enter Tryz.func182,Tryz.ntmps182
 go_wp2
 go_quiet (fail)
 go_wp2
 go_ret2;exact⟨rfl,_,rfl⟩
theorem aV6 (h:Stk 197 3 w b F (i64s l) r) (k j:Nat) (hk:j+1+k=l.length) (x:Int) (hx:l[j]?=some x):Calls Tryz.prog 182 #[.pointer (some ⟨b,0,none⟩),.int .i64 k] w fun e w'=>e=.returned (.tuple #[Value.int .i64 x,.int .i64 0])/\Same w w' :=
 (aV4 h k j hk x hx).mono fun _ _ ⟨he,_,hq⟩=>⟨he,hq ▸ Same.drewN _ _⟩
theorem b46 (h:Stk 197 3 w b F (i64s []) r):Calls Tryz.prog 164 #[.pointer (some ⟨b,0,none⟩)] w fun e w'=>e=.returned (.tuple #[Value.int .i64 0,.int .i64 41])/\w'=w:=by
 have HS:=zH h;clear h;go_enter Tryz.func164,Tryz.ntmps164
 go_wp2_with (go_at_call 182;refine(aV5 HS.out _ (by decide)).mono ?_;rintro e w1 ⟨rfl,hw⟩;subst w1)
 go_ret2;exact⟨rfl,rfl⟩
theorem bL2:∀ w,(zeroValue 3).run Tryz.prog w=.ok (.int .i64 0) w:=by
 intro w;obtain⟨i0,hi,hz0,_,_⟩:=info_parts b45
 simp[zeroValue,typeInfo,hi,hz0]
theorem bL1 {w:World} {b g c:Nat} {m:List Int} {x:Int} {r:Int} (h:StAt 197 3 w b (some ⟨g,0,none⟩) c (i64s m ++ [Value.int .i64 x]) r):∀ ty,(Builtin.clear_ #[29] ty #[.slice (some ⟨g,m.length,none⟩) 1 (c - m.length)]).run Tryz.prog w=.ok (.tuple #[]) (w.setCell ⟨g,m.length,none⟩ (.int .i64 0)):=by
 intro ty;obtain⟨g',hg',_,hn,_,hc,hf,_⟩:=h.some_at (by simp)
 cases hg'
 have hl:(i64s m ++ [Value.int .i64 x]).length=m.length+1:=by simp[a37]
 exact Lib.run_clear_slice w 29 3 ty (.int .i64 0) Tryz.underlying29 bL2 rfl rfl g m.length 1 (c - m.length) (by decide) (fun j hj=>hc _ (by omega)) (fun j _=>hf _)
theorem b47 {m:List Int} {x:Int} (h:Stk 197 3 w b F (i64s (m ++ [x])) r):Calls Tryz.prog 164 #[.pointer (some ⟨b,0,none⟩)] w fun e w'=>∃ F',e=.returned (.tuple #[Value.int .i64 x,.int .i64 0])/\Stk 197 3 w' b F' (i64s m) r/\Turn F F' w w':=by
 have HS:=zH h;obtain⟨p,c,hs,rfl⟩:=h;obtain⟨g,rfl,hg,hc,hmx,_,hff,_⟩:=hs.some_at (by rw[a37];simp);have hb:=hs.ltB;have hn:m.length+1<=65536:=by
  have h1:=hs.fits;have h2:=hs.most;rw[a37]at h1
  simp at h1
  omega
 have hc':m.length+1<=c:=by rw[a37]at hc;simpa using hc
 have hmx':c<=9223372036854775807:=hmx;have HA:Hid (∀ w1,Same w w1->StAt 197 3 w1 b (some ⟨g,0,none⟩) c (i64s m ++ [Value.int .i64 x]) r):=fun w1 k=>by
  have:=hs.keep (k.kept _);rw[aw6]at this;exact this
 have HP:=zH (aV6 HS.out 0 m.length (by simp) x (by simp));clear hs hc hmx;have HALL:Hid (∀ w1,Same w w1->w1.cell? ⟨b,0,none⟩=some (.slice (some ⟨g,0,none⟩) (m.length+1) c)/\(w1.setCell ⟨g,m.length,none⟩ (.int .i64 0)).cell? ⟨b,0,none⟩=some (.slice (some ⟨g,0,none⟩) (m.length+1) c)/\(w1.setCell ⟨g,m.length,none⟩ (.int .i64 0)).frozen? ⟨b,0,none⟩=false/\b<w1.heap.size/\(∀ ty,(Builtin.clear_ #[29] ty #[.slice (some ⟨g,m.length,none⟩) 1 (c - m.length)]).run Tryz.prog w1=.ok (.tuple #[]) (w1.setCell ⟨g,m.length,none⟩ (.int .i64 0)))/\Stk 197 3 ((w1.setCell ⟨g,m.length,none⟩ (.int .i64 0)).setCell ⟨b,0,none⟩ (.slice (some ⟨g,0,none⟩) m.length c)) b [b,g] (i64s m) r/\Turn [b,g] [b,g] w ((w1.setCell ⟨g,m.length,none⟩ (.int .i64 0)).setCell ⟨b,0,none⟩ (.slice (some ⟨g,0,none⟩) m.length c))):=by
  intro w1 k;have a:=HA.out w1 k;have hl:(i64s m ++ [Value.int .i64 x]).length=m.length+1:=by simp[a37]
  have q:=a.less (.int .i64 0);have q0:=a.cell0;have hne:b≠g:=fun z=>a.ne (by simp[fpR,z])
  have hbx:(w1.setCell ⟨g,m.length,none⟩ (.int .i64 0)).heap[b]?=w1.heap[b]?:=zO _ _ _ _ hne;rw[a37]at q;rw[hl]at q0;exact⟨q0,(World.cell?_of_block (a:=⟨b,0,none⟩) hbx).trans q0,(World.frozen?_of_block (a:=⟨b,0,none⟩) hbx).trans (a.free 0),a.ltB,bL1 a,q.1,(k.turn _).trans q.2⟩
 clear HS;have e1:((m.length+1:Nat):Int) - 1=(m.length:Int):=by omega
 have e2:m.length+1 - m.length=1:=by omega
 have k1:(m.length:Int)<=((m.length+1:Nat):Int):=by omega
 have k2:(m.length:Int)<=(c:Int):=by omega
 go_enter Tryz.func164,Tryz.ntmps164
 go_wp2_with (go_at_call 182;refine HP.out.mono ?_;rintro e w1 ⟨rfl,hw⟩;obtain⟨q0,q1,q2,q3,q4,q5,q6⟩:=HALL.out w1 hw;have HQ:=zH (And.intro q5 q6);clear q5 q6 hw HALL HP)
 go_ret2;exact⟨_,rfl,HQ.out.1,HQ.out.2⟩
end
end Go.Proofs.YtipakfjpfjehmaaGreatDoor
namespace Go.Proofs.YtipakfjpfjehmaaGreatDoor
open Go.ChangeShapes Go.WideShapes Go.ChangeAt Go.RowKit Num
def fls (l:List Nat):List Value:=l.map (Value.float .f64)
theorem a32 (l:List Nat):(fls l).length=l.length:=by unfold fls;rw[List.length_map]
theorem at2 (l:List Nat) (x:Nat):fls (l ++ [x])=fls l ++ [.float .f64 x]:=by simp[fls]
theorem bE6 (l:List Nat) (j:Nat) (h:j<(fls l).length) (h':j<l.length):(fls l)[j]=.float .f64 l[j]:=by simp[fls]
theorem b39 (l:List Nat) (j:Nat) (x:Nat):(fls l).set j (.float .f64 x)=fls (l.set j x):=by simp[fls,List.map_set]
end Go.Proofs.YtipakfjpfjehmaaGreatDoor
namespace Go.Proofs.YtipakfjpfjehmaaGreatDoor
open Go.ChangeShapes Go.WideShapes Go.ChangeAt Go.RowKit
attribute [local go_sem] a00
theorem aH2:(Tryz.prog.info? 49).map (fun i=>(i.zero,i.size,i.bytes))=some (some (.float .f64 0),1,8):=by kernel_rfl
theorem as9 (r:Int) (w:World):Calls Tryz.prog 103 #[.int .i64 r] w fun e w'=>∃ b,e=.returned (.pointer (some ⟨b,0,none⟩))/\b=w.heap.size/\Stk 195 49 w' b [b] [] (ag9 r)/\Bl w w':=by
 have H0:=zH (fun r0=>ba6 w 195 49 r0);have HB:=zH (fun o=>(zF w.heap.size w).alloc (zE _) o);have HR:=zH (aS4 r)
 by_cases h1:r<0
 ·have e:ag9 r=0:=by simp[ag9,h1]
  rw[e]at HR ⊢;have h1':¬ 0<=r:=by omega
  clear e;go_enter Tryz.func103,Tryz.ntmps103
  go_wp2
  go_ret;exact⟨_,rfl,rfl,H0.out _ HR.out.1 HR.out.2,HB.out _⟩
 ·by_cases h2:65536<r
  ·have e:ag9 r=65536:=by simp[ag9,h1,h2]
   rw[e]at HR ⊢;clear e;go_enter Tryz.func103,Tryz.ntmps103
   go_wp2
   go_ret;exact⟨_,rfl,rfl,H0.out _ HR.out.1 HR.out.2,HB.out _⟩
  ·have e:ag9 r=r:=by simp[ag9,h1,h2]
   rw[e]at HR ⊢;clear e;go_enter Tryz.func103,Tryz.ntmps103
   go_wp2
   go_ret;exact⟨_,rfl,rfl,H0.out _ HR.out.1 HR.out.2,HB.out _⟩
section
variable {w:World} {b:Nat} {F:List Nat} {l:List Nat} {r:Int}
theorem be8 (h:Stk 195 49 w b F (fls l) r):Calls Tryz.prog 155 #[.pointer (some ⟨b,0,none⟩)] w fun e w'=>e=.returned (.int .i64 l.length)/\w'=w:=by
 obtain⟨p,c,hs,rfl⟩:=h;have h0:=hs.cell0;rw[a32]at h0;have hb:=hs.ltB;clear hs;go_enter Tryz.func155,Tryz.ntmps155
 go_wp2
 go_ret;exact⟨rfl,rfl⟩
theorem b30 (h:Stk 195 49 w b F (fls l) r):Calls Tryz.prog 156 #[.pointer (some ⟨b,0,none⟩)] w fun e w'=>e=.returned (.int .i64 r)/\w'=w:=by
 obtain⟨p,c,hs,rfl⟩:=h;have h0:=hs.cell1;have hb:=hs.ltB;clear hs;go_enter Tryz.func156,Tryz.ntmps156
 go_wp2
 go_ret;exact⟨rfl,rfl⟩
theorem b29 (h:Stk 195 49 w b F (fls l) r) (x:Nat):Calls Tryz.prog 169 #[.pointer (some ⟨b,0,none⟩),Value.float .f64 x] w fun e w'=>∃ F',e=.returned (.int .i64 (ax6 l r))/\Stk 195 49 w' b F' (fls (ao5 l r x)) r/\Turn F F' w w':=by
 have HS:=zH h;obtain⟨p,c,hs,rfl⟩:=h;have h0:=hs.cell0;have h1:=hs.cell1;have hb:=hs.ltB;have hf:=hs.free 0;have hm:=hs.most;rw[a32]at h0
 by_cases hlt:(l.length:Int)<r
 ·have e1:ax6 l r=0:=by simp[ax6,hlt]
  have e2:ao5 l r x=l ++ [x]:=by simp[ao5,hlt]
  rw[e1,e2,at2];clear e1 e2;obtain⟨i0,hi,hz0,hz1,hz2⟩:=info_parts aH2;have HZI:=zH (And.intro hi (And.intro hz0 (And.intro hz1 hz2)));have HA:Hid (∀ k,StAt 195 49 (w.drewN k) b p c (fls l) r):=fun k=>hs.keep ((Same.drewN w k).kept _)
  have HO:Hid (∀ k,(w.drewN k).ownsRow 0 49 1 (.slice p l.length c) l.length (fls l)):=fun k=>by
   have:=(HA.out k).row.own;rw[a32]at this;exact this
  have HMORE:Hid (∀ k o w3 v,w3.ownsRow 0 49 1 v (l.length+1) (fls l ++ [Value.float .f64 x])->((w.drewN k).alloc o).grownBy w3 (Value.slice p l.length c).ownBlock->(v.ownBlock=(Value.slice p l.length c).ownBlock∨v.ownBlock=some ((w.drewN k).alloc o).heap.size)->∃ p' c',v=.slice p' (l.length+1) c'/\Stk 195 49 (w3.setCell ⟨b,0,none⟩ (.slice p' (l.length+1) c')) b (b::fpR p') (fls l ++ [Value.float .f64 x]) r/\Turn (b::fpR p) (b::fpR p') w (w3.setCell ⟨b,0,none⟩ (.slice p' (l.length+1) c'))/\w3.cell? ⟨b,0,none⟩=some (.slice p l.length c)/\w3.frozen? ⟨b,0,none⟩=false/\b<w3.heap.size):=by
   intro k o w3 v ho hg hat;have hne:some b≠(Value.slice p l.length c).ownBlock:=fun q=>hs.ne (a42.2 q.symm)
   have hbk:=hg.block b (by simp;have:=hs.ltB;omega) hne;have e:=(hs.alloc_box k o);have hm3:=(HA.out k).more (w3:=w3) (v:=v) (o:=o) (x:=Value.float .f64 x) (by rw[a32];exact ho) (by rw[a32];exact hg) (by rw[a32];exact hat) (by rw[a32];exact hlt);rw[a32]at hm3;obtain⟨p',c',q1,q2,q3⟩:=hm3;rw[e,a32]at hbk;refine⟨p',c',q1,q2,((Same.drewN w k).turn _).trans q3,?_,zZ w3 b 0 _ _ hbk,lt_of_block hbk⟩;rw[zR w3 b 0 _ _ _ hbk]
   rfl
  have HLT:=zH (And.intro hlt hm);clear hi hz0 hz1 hz2 hs hm;go_enter Tryz.func169,Tryz.ntmps169
  go_wp2
  go_quiet (fail)
  go_wp2_with (at_builtin;refine wpList_append_own_at _ rfl _ _ 24 rfl 0 49 i0 (.float .f64 0) 1 8 Tryz.underlying24 HZI.out.1 HZI.out.2.1 HZI.out.2.2.1 HZI.out.2.2.2 rfl (by decide) _ l.length (fls l) rfl (World.ownsRow.alloc (HO.out _) _) ⟨w.heap.size,0,none⟩ 1 1 [Value.float .f64 x] rfl rfl (cell_one_new _ _ _) (fun u hu=>by simp at hu;subst hu;rfl) (by have:=HLT.out;unfold maxLen;omega) (by have:=HLT.out;omega) (zV _) ?_;intro v3 w3 hown3 hgrow3 hnil3 hat3;obtain⟨p',c',hv3,q1,q2,q3,q4,q5⟩:=HMORE.out _ _ _ _ hown3 hgrow3 hat3;subst hv3;have HQ:=zH (And.intro q1 q2);clear hown3 hgrow3 hnil3 hat3 q1 q2 HMORE)
  go_ret;exact⟨_,rfl,HQ.out.1,HQ.out.2⟩
 ·have e1:ax6 l r=40:=by simp[ax6,hlt]
  have e2:ao5 l r x=l:=by simp[ao5,hlt]
  rw[e1,e2];clear e1 e2 hs hm;go_enter Tryz.func169,Tryz.ntmps169
  go_wp2
  go_quiet (fail)
  go_wp2
  go_ret;exact⟨_,rfl,HS.out.same (Same.drewN _ _),(Same.drewN _ _).turn _⟩
theorem aA4 (h:Stk 195 49 w b F (fls l) r) (k j:Nat) (hk:j+1+k=l.length) (x:Nat) (hx:l[j]?=some x):Calls Tryz.prog 181 #[.pointer (some ⟨b,0,none⟩),.int .i64 k] w fun e w'=>e=.returned (.tuple #[Value.float .f64 x,.int .i64 0])/\∃ q,w'=w.drewN q:=by
 obtain⟨p,c,hs,rfl⟩:=h;have h0:=hs.cell0;have hb:=hs.ltB;obtain⟨g,rfl,hg,_,_,_,_,hc⟩:=hs.some_at (by rw[a32];omega);have hj:w.cell? ⟨g,j,none⟩=some (Value.float .f64 x):=by
  rw[hc j (by rw[a32];omega),bE6 l j _ (by omega)];rw[List.getElem?_eq_getElem (by omega)]at hx;rw[Option.some.inj hx]
 have hm:=hs.most;have hfi:=hs.fits;rw[a32]at h0 hfi;have hn:l.length<=65536:=by omega
 clear hs hc hx hfi hm;obtain⟨n,hnn⟩:∃ n,n=l.length:=⟨_,rfl⟩
 rw[<- hnn]at h0 hk hn;clear hnn;subst hk;have k1:(k:Int)<((j+1+k:Nat):Int):=by omega
 have e1:((j+1+k:Nat):Int) - 1 - (k:Int)=(j:Int):=by omega
 have k2:(j:Int)<((j+1+k:Nat):Int):=by omega
 go_enter Tryz.func181,Tryz.ntmps181
 go_wp2
 go_quiet (fail)
 go_wp2
 go_ret2;exact⟨rfl,_,rfl⟩
theorem aV2 (h:Stk 195 49 w b F (fls l) r) (k j:Nat) (hk:j+1+k=l.length) (x:Nat) (hx:l[j]?=some x):Calls Tryz.prog 181 #[.pointer (some ⟨b,0,none⟩),.int .i64 k] w fun e w'=>e=.returned (.tuple #[Value.float .f64 x,.int .i64 0])/\Same w w' :=
 (aA4 h k j hk x hx).mono fun _ _ ⟨he,_,hq⟩=>⟨he,hq ▸ Same.drewN _ _⟩
theorem bK7:∀ w,(zeroValue 49).run Tryz.prog w=.ok (.float .f64 0) w:=by
 intro w;obtain⟨i0,hi,hz0,_,_⟩:=info_parts aH2
 simp[zeroValue,typeInfo,hi,hz0]
theorem bK6 {w:World} {b g c:Nat} {m:List Nat} {x:Nat} {r:Int} (h:StAt 195 49 w b (some ⟨g,0,none⟩) c (fls m ++ [Value.float .f64 x]) r):∀ ty,(Builtin.clear_ #[24] ty #[.slice (some ⟨g,m.length,none⟩) 1 (c - m.length)]).run Tryz.prog w=.ok (.tuple #[]) (w.setCell ⟨g,m.length,none⟩ (.float .f64 0)):=by
 intro ty;obtain⟨g',hg',_,hn,_,hc,hf,_⟩:=h.some_at (by simp)
 cases hg'
 have hl:(fls m ++ [Value.float .f64 x]).length=m.length+1:=by simp[a32]
 exact Lib.run_clear_slice w 24 49 ty (.float .f64 0) Tryz.underlying24 bK7 rfl rfl g m.length 1 (c - m.length) (by decide) (fun j hj=>hc _ (by omega)) (fun j _=>hf _)
theorem aH3 {m:List Nat} {x:Nat} (h:Stk 195 49 w b F (fls (m ++ [x])) r):Calls Tryz.prog 180 #[.pointer (some ⟨b,0,none⟩)] w fun e w'=>∃ F',e=.returned (.tuple #[Value.float .f64 x,.int .i64 0])/\Stk 195 49 w' b F' (fls m) r/\Turn F F' w w':=by
 have HS:=zH h;obtain⟨p,c,hs,rfl⟩:=h;obtain⟨g,rfl,hg,hc,hmx,_,hff,_⟩:=hs.some_at (by rw[a32];simp);have hb:=hs.ltB;have hn:m.length+1<=65536:=by
  have h1:=hs.fits;have h2:=hs.most;rw[a32]at h1
  simp at h1
  omega
 have hc':m.length+1<=c:=by rw[a32]at hc;simpa using hc
 have hmx':c<=9223372036854775807:=hmx;have HA:Hid (∀ w1,Same w w1->StAt 195 49 w1 b (some ⟨g,0,none⟩) c (fls m ++ [Value.float .f64 x]) r):=fun w1 k=>by
  have:=hs.keep (k.kept _);rw[at2]at this;exact this
 have HP:=zH (aV2 HS.out 0 m.length (by simp) x (by simp));clear hs hc hmx;have HALL:Hid (∀ w1,Same w w1->w1.cell? ⟨b,0,none⟩=some (.slice (some ⟨g,0,none⟩) (m.length+1) c)/\(w1.setCell ⟨g,m.length,none⟩ (.float .f64 0)).cell? ⟨b,0,none⟩=some (.slice (some ⟨g,0,none⟩) (m.length+1) c)/\(w1.setCell ⟨g,m.length,none⟩ (.float .f64 0)).frozen? ⟨b,0,none⟩=false/\b<w1.heap.size/\(∀ ty,(Builtin.clear_ #[24] ty #[.slice (some ⟨g,m.length,none⟩) 1 (c - m.length)]).run Tryz.prog w1=.ok (.tuple #[]) (w1.setCell ⟨g,m.length,none⟩ (.float .f64 0)))/\Stk 195 49 ((w1.setCell ⟨g,m.length,none⟩ (.float .f64 0)).setCell ⟨b,0,none⟩ (.slice (some ⟨g,0,none⟩) m.length c)) b [b,g] (fls m) r/\Turn [b,g] [b,g] w ((w1.setCell ⟨g,m.length,none⟩ (.float .f64 0)).setCell ⟨b,0,none⟩ (.slice (some ⟨g,0,none⟩) m.length c))):=by
  intro w1 k;have a:=HA.out w1 k;have hl:(fls m ++ [Value.float .f64 x]).length=m.length+1:=by simp[a32]
  have q:=a.less (.float .f64 0);have q0:=a.cell0;have hne:b≠g:=fun z=>a.ne (by simp[fpR,z])
  have hbx:(w1.setCell ⟨g,m.length,none⟩ (.float .f64 0)).heap[b]?=w1.heap[b]?:=zO _ _ _ _ hne;rw[a32]at q;rw[hl]at q0;exact⟨q0,(World.cell?_of_block (a:=⟨b,0,none⟩) hbx).trans q0,(World.frozen?_of_block (a:=⟨b,0,none⟩) hbx).trans (a.free 0),a.ltB,bK6 a,q.1,(k.turn _).trans q.2⟩
 clear HS;have e1:((m.length+1:Nat):Int) - 1=(m.length:Int):=by omega
 have e2:m.length+1 - m.length=1:=by omega
 have k1:(m.length:Int)<=((m.length+1:Nat):Int):=by omega
 have k2:(m.length:Int)<=(c:Int):=by omega
 go_enter Tryz.func180,Tryz.ntmps180
 go_wp2_with (go_at_call 181;refine HP.out.mono ?_;rintro e w1 ⟨rfl,hw⟩;obtain⟨q0,q1,q2,q3,q4,q5,q6⟩:=HALL.out w1 hw;have HQ:=zH (And.intro q5 q6);clear q5 q6 hw HALL HP)
 go_ret2;exact⟨_,rfl,HQ.out.1,HQ.out.2⟩
end
end Go.Proofs.YtipakfjpfjehmaaGreatDoor
namespace Go.Proofs.YtipakfjpfjehmaaGreatDoor
open Go.ChangeShapes Go.WideShapes Go.ChangeAt Go.RowKit Num Go.Maps
attribute [local go_sem] a00 frombits_run bits_run
section
variable {w:World} {b:Nat} {F:List Nat} {m:Int} {l:Wr}
theorem bx8 (h:Buf w b F m l) {d:Int} (hd:(Lit.int .i64 d).wf=true) (hh:hasC l d=true) (x:Nat):Calls Tryz.prog 163 #[.pointer (some ⟨b,0,none⟩),.int .i64 d,.float .f64 x] w fun e w'=>∃ F',e=.returned (.tuple #[.bool false,.int .i64 0])/\Buf w' b F' m (putC l d (fixB x))/\Turn F F' w w':=by
 obtain⟨bm,p,c,hs,rfl⟩:=h;have h0:=hs.cell1;have hb:=hs.ltB;have hlk:=hs.map.look hd;rw[hh]at hlk;have hmost:=hs.most;have hfits:=hs.fits;obtain⟨w1,hrun,hm1,hg1⟩:=(hs.same (Same.drew w)).map.lay hd (fixB x) (by unfold maxLen;omega);have HF:=zH ((hs.same (Same.drew w)).laid hh hm1 hg1);clear hs hd hh hm1 hg1 hmost hfits;go_enter Tryz.func163,Tryz.ntmps163
 go_wp2
 go_region_with (go_at_call 75;refine(ae2 _ _).mono ?_;rintro e w' ⟨rfl,hw⟩;subst w')
 all_goals (try go_wp2)
 all_goals go_ret2
 all_goals exact⟨_,rfl,HF.out.1.buf,((Same.drew _).turn _).trans HF.out.2⟩
theorem bj9 (h:Buf w b F m l) {d:Int} (hd:(Lit.int .i64 d).wf=true) (hh:hasC l d=false) (hf:¬ (l.length:Int)<m) (x:Nat):Calls Tryz.prog 163 #[.pointer (some ⟨b,0,none⟩),.int .i64 d,.float .f64 x] w fun e w'=>e=.returned (.tuple #[.bool false,.int .i64 70])/\Same w w':=by
 obtain⟨bm,p,c,hs,rfl⟩:=h;have h0:=hs.cell1;have h1:=hs.cell0;have h2:=hs.cell2;have hb:=hs.ltB;have hlk:=hs.map.look hd;rw[hh]at hlk;have hfits:=hs.fits;have e:m=(l.length:Int):=by omega
 subst e;clear hs hd hh hf hfits;go_enter Tryz.func163,Tryz.ntmps163
 go_wp2
 go_quiet (fail)
 all_goals (try go_wp2)
 all_goals go_ret2
 all_goals exact⟨rfl,by first | exact Same.refl _ | exact Same.drew _ | exact Same.drewN _ _⟩
theorem bx7 (h:Buf w b F m l) {d:Int} (hd:(Lit.int .i64 d).wf=true) (hh:hasC l d=false) (hf:(l.length:Int)<m) (x:Nat):Calls Tryz.prog 163 #[.pointer (some ⟨b,0,none⟩),.int .i64 d,.float .f64 x] w fun e w'=>∃ F',e=.returned (.tuple #[.bool true,.int .i64 0])/\Buf w' b F' m (putC l d (fixB x))/\Turn F F' w w':=by
 obtain⟨bm,p,c,hs,rfl⟩:=h;have h0:=hs.cell1;have h1:=hs.cell0;have h2:=hs.cell2;have hb:=hs.ltB;have hlk:=hs.map.look hd;rw[hh]at hlk;have hne:¬ (l.length:Int)=m:=by omega
 have HLT:Hid (l.length<32):=by have:=hs.most;show _<_;omega
 have HD:Hid ((∀ k,BufAt (w.drewN k) b bm p c m l)/\hasC l d=false/\(Lit.int .i64 d).wf=true/\(l.length:Int)<m):=⟨fun k=>hs.same (Same.drewN w k),hh,hd,hf⟩;have HO:Hid (∀ u:World,u.heap=w.heap->u.ownsRow 0 3 1 (.slice p l.length c) l.length (i64s (a05 l))):=fun u e=>by
  have:=(hs.row.keep (w':=u) ⟨by rw[e];exact zE _,fun k _=>by rw[e]⟩).own;rw[a37,ai2]at this;exact this
 obtain⟨i0,hi,hz0,hz1,hz2⟩:=info_parts b45;have HZI:=zH (And.intro hi (And.intro hz0 (And.intro hz1 hz2)));clear hi hz0 hz1 hz2 hs hh hd hf;go_enter Tryz.func163,Tryz.ntmps163
 go_wp2
 go_quiet (fail)
 go_wp2_with (at_builtin;refine wpList_append_own_at _ rfl _ _ 29 rfl 0 3 i0 (.int .i64 0) 1 8 Tryz.underlying29 HZI.out.1 HZI.out.2.1 HZI.out.2.2.1 HZI.out.2.2.2 rfl (by decide) _ l.length (i64s (a05 l)) rfl (World.ownsRow.alloc (HO.out _ rfl) _) ⟨w.heap.size,0,none⟩ 1 1 [.int .i64 d] rfl rfl (cell_one_new _ _ _) (fun u hu=>by simp at hu;subst hu;rfl) (by have:=HLT.out;unfold maxLen;omega) (by have:=HLT.out;omega) (zV _) ?_;intro v w3 hown hgrow hnil hloc;obtain⟨p',c',hv,k1,k2,kf,kb,w4,hrun,hs4,ht4⟩:=(HD.out.1 _).more hown hgrow hloc HD.out.2.1 HD.out.2.2.1 HD.out.2.2.2 (fixB x);subst hv;have HS4:=zH (And.intro hs4 ht4);clear hown hgrow hnil hloc hs4 ht4)
 go_region_with (go_at_call 75;refine(ae2 _ _).mono ?_;rintro e w' ⟨rfl,hw⟩;subst w')
 all_goals (try go_wp2)
 all_goals go_ret2
 all_goals exact⟨_,rfl,HS4.out.1.buf,((Same.drewN _ _).turn _).trans HS4.out.2⟩
theorem b83 (h:Buf w b F m l) {d:Int} (hd:(Lit.int .i64 d).wf=true) (x:Nat):Calls Tryz.prog 163 #[.pointer (some ⟨b,0,none⟩),.int .i64 d,.float .f64 x] w fun e w'=>∃ F',e=.returned (.tuple #[.bool (putF m l d),.int .i64 (putE m l d)])/\Buf w' b F' m (putL m l d x)/\Turn F F' w w':=by
 unfold putF putE putL mayP
 cases hh:hasC l d
 ·by_cases hf:(l.length:Int)<m
  ·simp only[hf]
   exact bx7 h hd hh hf x
  ·simp only[hf]
   exact(bj9 h hd hh hf x).mono fun e w' ⟨a1,a2⟩=>⟨_,a1,h.same a2,a2.turn _⟩
 ·exact bx8 h hd hh x
end
attribute [local go_sem] a00 frombits_run bits_run
theorem ba9:(Tryz.prog.info? 51).map (fun i=>(i.zero,i.size,i.bytes))=some (some (.agg #[.int .i64 0,.float .f64 0]),2,16):=by kernel_rfl
def tchC (t:Int × Nat):List Value:=[.int .i64 t.1,.float .f64 t.2]
theorem bb0 (l:Wr):(l.flatMap tchC).length=l.length*2:=by
 induction l with
 | nil=>rfl
 | cons t l ih=>rw[List.flatMap_cons,List.length_append,ih];simp[tchC];omega
theorem bo1 (l:Wr) (k:Nat) (h:k<l.length):(l.take (k+1)).flatMap tchC=(l.take k).flatMap tchC ++ [.int .i64 (l.getD k (0,0)).1,.float .f64 (l.getD k (0,0)).2]:=by
 rw[List.take_succ_eq_append_getElem h,List.flatMap_append,show l.getD k (0,0)=l[k] by simp[h]]
 simp[tchC]
theorem b36 (l:Wr):∀ k (h:k<l.length),(l.flatMap tchC)[k*2]?=some (.int .i64 l[k].1)/\(l.flatMap tchC)[k*2+1]?=some (.float .f64 l[k].2):=by
 induction l with
 | nil=>intro k h;exact absurd h (zI k)
 | cons t l ih =>
  intro k h
  cases k with
  | zero=>simp[tchC]
  | succ k =>
   have:=ih k (by simpa using h);rw[List.flatMap_cons];have e:(k+1)*2=(tchC t).length+k*2:=by simp[tchC];omega
   rw[e,List.getElem?_append_right (by omega),Nat.add_assoc,List.getElem?_append_right (by omega)]
   simpa using this
structure TRow (w:World) (p:Option Addr) (c:Nat) (l:Wr):Prop where
 own:w.ownsRow 0 51 2 (.slice p l.length c) l.length (l.flatMap tchC)
theorem TRow.blw {w:World} {p:Option Addr} {c:Nat} {l:Wr} (h:TRow w p c l):Blw w (fpR p):=fun k hk=>(h.own.lt k (a42.1 hk)).2
theorem TRow.keep {w w':World} {p:Option Addr} {c:Nat} {l:Wr} (h:TRow w p c l) (k:Kept (fpR p) w w'):TRow w' p c l:=by
 refine⟨h.own.1,?_⟩
 rcases h.own.2 with q | ⟨g,cap,cur,hv,hb,hg,rest⟩
 ·exact .inl q
 ·refine .inr ⟨g,cap,cur,hv,hb,?_,rest⟩
  rw[k.2 g (a42.2 (by rw[hv];rfl))];exact hg
theorem TRow.on {w w':World} {p:Option Addr} {c:Nat} {l:Wr} (h:TRow w p c l) (k:Bl w w'):TRow w' p c l:=h.keep (a27 k h.blw)
theorem TRow.at {w:World} {p:Option Addr} {c:Nat} {l:Wr} (h:TRow w p c l) (i:Nat) (hi:i<l.length):∃ g,p=some ⟨g,0,none⟩/\g<w.heap.size/\w.cell? ⟨g,i*2,none⟩=some (.int .i64 l[i].1)/\w.cell? ⟨g,i*2+1,none⟩=some (.float .f64 l[i].2)/\∀ j,w.frozen? ⟨g,j,none⟩=false:=by
 rcases h.own.2 with⟨_,q⟩ | ⟨g,cap',cur,hv,hB,hg,_,_,_,ht⟩
 ·omega
 ·cases hv
  have e:∀ j,j<l.length*2->cur[j]?=(l.flatMap tchC)[j]?:=fun j hj=>by
   have h1:cur.toList[j]?=(cur.toList.take (l.length*2))[j]?:=by
    rw[List.getElem?_take,if_pos (by omega)]
   rw[ht]at h1
   simpa using h1
  have q:=b36 l i hi;refine⟨g,rfl,lt_of_block hg,?_,?_,fun j=>zZ w g j _ _ hg⟩
  ·rw[zR w g _ _ _ _ hg,e _ (by omega)];exact q.1
  ·rw[zR w g _ _ _ _ hg,e _ (by omega)];exact q.2
theorem ad3 {B:Nat} {E:TypeId} {w:World} {v:Value} {n s:Nat} {xs:List Value} (h:w.ownsRow B E s v n xs):∃ p c,v=.slice p n c/\Abv B (fpR p):=by
 rcases h.2 with⟨rfl,h0⟩ | ⟨g,cap,cur,rfl,hB,_⟩
 ·exact⟨none,0,by rw[h0],fun k hk=>by simp[fpR]at hk⟩
 ·exact⟨some ⟨g,0,none⟩,cap,rfl,fun k hk=>by simp[fpR]at hk;omega⟩
theorem aJ1 {B:Nat} {E:TypeId} {w:World} {v:Value} {n s:Nat} {xs:List Value} (h:w.ownsRow B E s v n xs):w.ownsRow 0 E s v n xs :=
 ⟨h.1,h.2.imp id (fun ⟨g,cap,cur,a1,_,a3⟩=>⟨g,cap,cur,a1,zV _,a3⟩)⟩
theorem b70 {B:Nat} {E:TypeId} {s:Nat} {w w':World} {v:Value} {n:Nat} {xs:List Value} (h:w.ownsRow B E s v n xs) (e:w'.heap=w.heap):w'.ownsRow B E s v n xs:=by
 refine⟨h.1,?_⟩
 rcases h.2 with q | ⟨g,cap,cur,hv,hB,hg,rest⟩
 ·exact .inl q
 ·exact .inr ⟨g,cap,cur,hv,hB,by rw[e];exact hg,rest⟩
attribute [local go_sem] a00 frombits_run bits_run
section
variable {w:World} {b:Nat} {F:List Nat} {m:Int} {l:Wr}
theorem bl8 {cur:Array Value} {k n:Nat} {l:Wr} (hs:cur.size=n*2) (ht:cur.toList.take (k*2)=(l.take k).flatMap tchC) (hk:k<n) (hn:l.length=n):((cur.setIfInBounds (k*2) (.int .i64 (l.getD k (0,0)).1)).setIfInBounds (k*2+1) (.float .f64 (l.getD k (0,0)).2)).toList.take ((k+1)*2)=(l.take (k+1)).flatMap tchC:=by
 rw[bo1 l k (by omega),<- ht];rw[Array.toList_setIfInBounds,Array.toList_setIfInBounds];have hl:cur.toList.length=n*2:=by simpa using hs
 generalize cur.toList=t at hl
 apply List.ext_getElem?
 intro j;have e2:(t.take (k*2)).length=k*2:=by simp;omega
 rw[List.getElem?_take]
 by_cases h1:j<k*2
 ·rw[if_pos (by omega),List.getElem?_set_ne (by omega),List.getElem?_set_ne (by omega),List.getElem?_append_left (by omega),List.getElem?_take,if_pos h1]
 ·rw[List.getElem?_append_right (by omega),e2]
  by_cases h2:j=k*2
  ·subst h2
   rw[if_pos (by omega),List.getElem?_set_ne (by omega),List.getElem?_set_self (by omega)]
   simp
  ·by_cases h3:j=k*2+1
   ·subst h3
    rw[if_pos (by omega),List.getElem?_set_self (by simp;omega)]
    simp
   ·rw[if_neg (by omega)]
    symm
    rw[List.getElem?_eq_none (by simp;omega)]
theorem bN7 (n:Nat) (hn:n<=32):∃ cur:Array Value,cur.size=n*2/\∀ w:World,(Instr.makeSlice 44 (.int .i64 (n:Int)) (.int .i64 (n:Int))).run Tryz.prog w=.ok (.slice (some ⟨w.heap.size,0,none⟩) n n) (w.alloc (.cells cur 51)):=by
 obtain⟨i,hi,hz0,hz1,hz2⟩:=info_parts ba9;refine⟨madeCells (Value.agg #[.int .i64 0,.float .f64 0]).cells (n*2),size_madeCells _ _,fun w=>?_⟩;rw[run_make w 44 51 i _ Tryz.underlying44 hi hz0 .i64 .i64 n n (by omega) (zW _) (by rw[hz2];omega) (by omega),hz1,Int.toNat_natCast]
theorem by5 {w:World} {g n k:Nat} {cur:Array Value} {T:TypeId} (h:w.heap[g]?=some (.cells cur T (0,0))) (hs:cur.size=n*2) (hk:k<n):∃ u v,w.cell? ⟨g,k*2,none⟩=some u/\w.cell? ⟨g,k*2+1,none⟩=some v/\w.frozen? ⟨g,k*2,none⟩=false/\w.frozen? ⟨g,k*2+1,none⟩=false:=by
 refine⟨cur[k*2]'(by omega),cur[k*2+1]'(by omega),?_,?_,zZ w g _ _ _ h,zZ w g _ _ _ h⟩
 ·rw[zR w g _ _ _ _ h];simp[show k*2<cur.size by omega]
 ·rw[zR w g _ _ _ _ h];simp[show k*2+1<cur.size by omega]
theorem bd3 (h:Buf w b F m l) {n:Nat} (hn:l.length=n):Calls Tryz.prog 109 #[.pointer (some ⟨b,0,none⟩)] w fun e w'=>e=.returned (.slice (some ⟨w.heap.size,0,none⟩) n n)/\TRow w' (some ⟨w.heap.size,0,none⟩) n l/\Bl w w':=by
 have hn32:n<=32:=by have:=h.few;omega
 obtain⟨cur0,hc0,hmk⟩:=bN7 n hn32;have HB:=zH h;obtain⟨bm,p,c,hs,rfl⟩:=h;have h1:=hs.cell1;have h2:=hs.cell2;rw[hn]at h2;have hb:=hs.ltB;have HC:Hid (∀ wr,Bl w wr->∀ k,k<n->∃ g,p=some ⟨g,0,none⟩/\g<wr.heap.size/\wr.cell? ⟨g,k,none⟩=some (.int .i64 (l.getD k (0,0)).1)/\wr.cell? ⟨b,1,none⟩=some (.map (some bm))/\b<wr.heap.size/\(Instr.lookup 191 (.map (some bm)) (.int .i64 (l.getD k (0,0)).1) false).run Tryz.prog wr=.ok (.float .f64 (l.getD k (0,0)).2) wr):=fun wr hbw k hk=>by
  have hw:=hs.keep (a27 hbw hs.blw);have hkl:k<l.length:=by omega
  have e:l.getD k (0,0)=l[k]:=by simp[hkl]
  rw[e];have ho:=hw.row.own;rw[a37,ai2]at ho
  rcases ho.2 with⟨_,q⟩ | ⟨g,cap,cur,hv,_,hg,_⟩
  ·omega
  ·cases hv
   refine⟨g,rfl,lt_of_block hg,?_,hw.cell1,hw.ltB,?_⟩
   ·rw[ho.cellAt k (by omega)]
    simp[i64s,a05,hkl]
   ·have:=hw.map.look1 (c:=l[k].1) (hw.wfs _ (List.getElem_mem hkl))
    rw[b41 hw.nod hkl]at this;exact this
 have HN:Hid (l.length=n):=hn;clear hs hn;have HC0:=zH hc0;clear hc0;go_enter Tryz.func109,Tryz.ntmps109
 go_wp2
 go_loopw [17] (fun vi wr=>∃ (k:Nat) (cur:Array Value),vi=.int .i64 k/\k<=n/\Hid (wr.heap[w.heap.size]?=some (.cells cur 51 (0,0)))/\Hid (cur.size=n*2)/\Hid (cur.toList.take (k*2)=(l.take k).flatMap tchC)/\Hid (Bl w wr)) (fun vi _=>n - (intOf vi).toNat)
 case atStart=>exact⟨0,cur0,rfl,zV _,zN _ _,HC0,by show _=_;simp,below_alloc _ _⟩
 case round =>
  obtain⟨k,cur,rfl,hk,HG,HS,HT,HBL⟩:=hrel
  by_cases hlt:k<n
  ·have hlt':(k:Int)<(n:Int):=by omega
   obtain⟨g,hpg,hg,hx,hbm,hbw,hlk⟩:=HC.out _ HBL.out k hlt;subst hpg;obtain⟨u,v,k0,k1,f0,f1⟩:=by5 HG.out HS.out hlt;have hgg:w.heap.size<wr.heap.size:=lt_of_block HG.out;have HF:Hid (((cur.setIfInBounds (k*2) (.int .i64 (l.getD k (0,0)).1)).setIfInBounds (k*2+1) (.float .f64 (l.getD k (0,0)).2)).toList.take ((k+1)*2)=(l.take (k+1)).flatMap tchC):=bl8 HS.out HT.out hlt HN.out
   generalize (l.getD k (0,0)).1=x at hx hlk HF
   generalize (l.getD k (0,0)).2=y at hlk HF
   have HG2:Hid (((wr.setCell ⟨w.heap.size,k*2,none⟩ (.int .i64 x)).setCell ⟨w.heap.size,k*2+1,none⟩ (.float .f64 y)).heap[w.heap.size]?=some (.cells ((cur.setIfInBounds (k*2) (.int .i64 x)).setIfInBounds (k*2+1) (.float .f64 y)) 51 (0,0))):=zS _ _ _ _ _ _ (zS _ _ _ _ _ _ HG.out);have HB2:Hid (Bl w ((wr.setCell ⟨w.heap.size,k*2,none⟩ (.int .i64 x)).setCell ⟨w.heap.size,k*2+1,none⟩ (.float .f64 y))):=HBL.out.trans ⟨rfl,rfl,rfl,by simp,fun j hj=>by rw[zO _ _ _ _ (by simp;omega),zO _ _ _ _ (by simp;omega)]⟩;clear HC
   go_wp2
   exact⟨⟨k+1,_,by first | rfl | (congr 1),by omega,HG2,by show _=_;simp;exact HS.out,HF,HB2⟩,by simp[intOf];omega⟩
  ·have hlt':¬ (k:Int)<(n:Int):=by omega
   have e:k=n:=by omega
   subst e;have hT:=HT.out;rw[<- HN.out,List.take_length,HN.out]at hT;have HF:Hid (TRow wr (some ⟨w.heap.size,0,none⟩) k l):=⟨⟨by rw[bb0],.inr ⟨w.heap.size,k,cur,rfl,zV _,HG.out,by rw[HN.out];exact zE _,by unfold maxLen;omega,by rw[HS.out],by rw[HN.out];exact hT⟩⟩⟩;clear hT HC hlt
   go_wp2
   go_ret;exact⟨rfl,HF.out,HBL.out⟩
theorem bs6 (h:Buf w b F m l):Calls Tryz.prog 109 #[.pointer (some ⟨b,0,none⟩)] w fun e w'=>e=.returned (.slice (some ⟨w.heap.size,0,none⟩) l.length l.length)/\TRow w' (some ⟨w.heap.size,0,none⟩) l.length l/\Bl w w':=bd3 h rfl
end
end Go.Proofs.YtipakfjpfjehmaaGreatDoor
namespace Go.Proofs.YtipakfjpfjehmaaGreatDoor
open Go.ChangeShapes Go.WideShapes Go.ChangeAt Go.RowKit Num
def okN (x:Nat):Prop:=fixB x=x/\x<18446744073709551616
theorem b33 (x:Nat):fixB (fixB x)=fixB x:=by
 unfold fixB
 by_cases h:nan x=true
 ·rw[if_pos h,if_pos (by decide)]
 ·rw[if_neg h,if_neg h]
theorem a83 {x:Nat} (h:x<18446744073709551616):okN (fixB x):=⟨b33 x,aa1 h⟩
theorem a92:okN 0:=⟨by decide,by decide⟩
theorem aq6:okN 9221120237041090560:=⟨by decide,by decide⟩
theorem al4 (c:Bool):okN (yesB c):=by cases c <;> exact⟨by decide,by decide⟩
theorem ax2 {o:Option Nat} (h:∀ r,o=some r->r<18446744073709551616):okN (resV o):=by
 cases o with
 | none=>exact aq6
 | some r=>exact a83 (h r rfl)
theorem aY3 {b:Nat} (h:(Lit.float .f64 b).wf=true):b<18446744073709551616:=by simpa[Lit.wf]using h
def oneV (op:Int) (x:Nat):Nat:=([0,fixB (fixB x ^^^ 9223372036854775808),fixB (fixB x &&& 9223372036854775807),ah5 x,aK0 x,yesB (!a95 x),yesB (nan x),ah9 x,fixB (floatOfInt .f64 (bu8 (fixB x)))].getD op.toNat 0)
def twoV (op:Int) (a b:Nat):Nat:=([0,resV (floatBits .add .f64 a b),resV (floatBits .sub .f64 a b),resV (floatBits .mul .f64 a b),resV (floatBits .quo .f64 a b),modV a b,minV a b,maxV a b,yesB (FloatKind.f64.format.order a b == some .lt),yesB (FloatKind.f64.format.order a b == some .lt || FloatKind.f64.format.order a b == some .eq),yesB (FloatKind.f64.format.order a b == some .eq),yesB (fixB a == fixB b),yesB (decide (cmpB a b<0))].getD op.toNat 0)
theorem ad9 {P:Nat->Prop} (d:Nat) (hd:P d):∀ (l:List Nat),(∀ x∈l,P x)->∀ k,P (l.getD k d)
 | [],_,_=>by simpa using hd
 | a::l,h,0=>h a (by simp)
 | a::l,h,k+1=>by
  have:=ad9 d hd l (fun x hx=>h x (by simp[hx])) k
  simpa using this
theorem av9 (n:Int):floatOfInt .f64 n<18446744073709551616:=aY3 (floatOfInt_wf .f64 n)
theorem b68 (x:Nat):okN (ah5 x):=by
 unfold ah5
 split
 ·exact aq6
 ·exact a83 (aY3 (encode_wf .f64 _))
theorem bx0 {x:Nat} (op:Int) (h:okN x):okN (oneV op x):=by
 refine ad9 0 a92 _ (fun y hy=>?_) _;simp only[List.mem_cons,List.not_mem_nil,or_false]at hy
 rcases hy with rfl | rfl | rfl | rfl | rfl | rfl | rfl | rfl | rfl
 ·exact a92
 ·exact a83 (Nat.xor_lt_two_pow (n:=64) (aa1 h.2) (by decide))
 ·exact a83 (Nat.lt_of_le_of_lt Nat.and_le_left (aa1 h.2))
 ·exact b68 x
 ·exact ax2 fun r hr=>FloatKind.f64.format.sqrt_lt hr
 ·exact al4 _
 ·exact al4 _
 ·unfold ah9
  split
  ·exact aq6
  ·split
   ·exact⟨by decide,by decide⟩
   ·split
    ·exact⟨by decide,by decide⟩
    ·exact h
 ·exact a83 (av9 _)
theorem bx1 {x y:Nat} (op:Int) (hx:okN x) (hy:okN y):okN (twoV op x y):=by
 refine ad9 0 a92 _ (fun z hz=>?_) _;simp only[List.mem_cons,List.not_mem_nil,or_false]at hz
 rcases hz with rfl | rfl | rfl | rfl | rfl | rfl | rfl | rfl | rfl | rfl | rfl | rfl | rfl
 ·exact a92
 ·exact ax2 fun r hr=>aY3 (floatBits_wf hr)
 ·exact ax2 fun r hr=>aY3 (floatBits_wf hr)
 ·exact ax2 fun r hr=>aY3 (floatBits_wf hr)
 ·exact ax2 fun r hr=>aY3 (floatBits_wf hr)
 ·unfold modV
  split
  ·exact a83 (av9 _)
  ·exact aq6
 ·unfold minV
  split
  ·exact aq6
  ·split
   ·exact hy
   ·exact hx
 ·unfold maxV
  split
  ·exact aq6
  ·split
   ·exact hy
   ·exact hx
 ·exact al4 _
 ·exact al4 _
 ·exact al4 _
 ·exact al4 _
 ·exact al4 _
structure Mac where
 cells:Int
 fuel:Int
 wmax:Int
 upd:Bool
 code:List Ins
 args:Nat->Nat
 loc:Nat->Nat
 st:List Nat
 calls:List Int
 place:Int
 used:Int
 out:List Nat
 reads:Wr
 buf:Wr
 wait:Int
 how:Int
 cod:Int
 err:Int
structure Ask where
 kind:Int
 cell:Int
 x:Nat
 first:Bool
def ask0:Ask:=⟨0,0,0,false⟩
def a59:Ask:=⟨4,0,0,false⟩
def ab7 (c:Int):Ask:=⟨1,c,0,false⟩
def ah8 (m:Mac) (e:Int):Mac × Ask:=({ m with how:=3,cod:=0,err:=e },a59)
def updF (f:Nat->Nat) (n x:Nat):Nat->Nat:=fun k=>if k=n then x else f k
def aT1 (i:Ins):Int:=(shp i.op.toNat).takes
def bv4 (i:Ins):Int:=(shp i.op.toNat).lays
def b59 (i:Ins):Int:=if i.op=5 then i.n+1 else aT1 i
def as2 (m:Mac) (i:Ins):Bool:=decide (b59 i<=(m.st.length:Int)) && decide ((m.st.length:Int) - aT1 i+bv4 i<=64) && !(decide (i.op=14) && decide (16<=m.calls.length))
def ae6 (m:Mac):Bool:=idxB (m.st.getD 0 0) m.cells
def addrV (m:Mac):Int:=idxV (m.st.getD 0 0) m.cells
def aw4 (m:Mac) (c:Int) (x:Nat):Mac:={ m with reads:=m.reads ++ [(c,x)],st:=x::m.st }
def af3 (m:Mac):Mac × Ask :=
 if ae6 m then
  if hasC m.buf (addrV m) then (aw4 { m with st:=m.st.drop 1 } (addrV m) (getC m.buf (addrV m)),⟨2,addrV m,getC m.buf (addrV m),false⟩)
  else ({ m with st:=m.st.drop 1,wait:=addrV m },ab7 (addrV m))
 else ah8 m 50
def a86 (m:Mac):Mac × Ask :=
 if m.upd then
  if ae6 m then
   if mayP m.wmax m.buf (addrV m) then ({ m with st:=m.st.drop 2,buf:=putC m.buf (addrV m) (m.st.getD 1 0) },⟨3,addrV m,m.st.getD 1 0,!hasC m.buf (addrV m)⟩)
   else ah8 m 70
  else ah8 m 50
 else ah8 m 81
def retM (m:Mac):Mac × Ask:=match m.calls with
 | []=>({ m with how:=1,cod:=0,err:=0 },a59)
 | c::r=>({ m with calls:=r,place:=c },ask0)
def doT:List (Mac->Ins->Mac × Ask):=[
 fun m _=>(m,ask0),
 fun m i=>({ m with st:=fixB i.x::m.st },ask0),
 fun m _=>({ m with st:=m.st.drop 1 },ask0),
 fun m _=>({ m with st:=m.st.getD 0 0::m.st },ask0),
 fun m _=>({ m with st:=m.st.getD 1 0::m.st.getD 0 0::m.st.drop 2 },ask0),
 fun m i=>({ m with st:=m.st.getD i.n.toNat 0::m.st },ask0),
 fun m i=>({ m with st:=m.args i.n.toNat::m.st },ask0),
 fun m i=>({ m with st:=m.loc i.n.toNat::m.st },ask0),
 fun m i=>({ m with loc:=updF m.loc i.n.toNat (m.st.getD 0 0),st:=m.st.drop 1 },ask0),
 fun m i=>({ m with st:=oneV i.n (m.st.getD 0 0)::m.st.drop 1 },ask0),
 fun m i=>({ m with st:=twoV i.n (m.st.getD 1 0) (m.st.getD 0 0)::m.st.drop 2 },ask0),
 fun m i=>({ m with place:=i.n },ask0),
 fun m i=>({ m with place:=if a95 (m.st.getD 0 0) then i.n else m.place,st:=m.st.drop 1 },ask0),
 fun m i=>({ m with place:=if a95 (m.st.getD 0 0) then m.place else i.n,st:=m.st.drop 1 },ask0),
 fun m i=>({ m with calls:=m.place::m.calls,place:=i.n },ask0),
 fun m _=>retM m,
 fun m _=>af3 m,
 fun m _=>a86 m,
 fun m _=>({ m with out:=m.out ++ [m.st.getD 0 0],st:=m.st.drop 1 },ask0),
 fun m i=>({ m with how:=2,cod:=i.n,err:=0 },a59),
 fun m _=>({ m with how:=1,cod:=0,err:=0 },a59)]
def doM (m:Mac) (i:Ins):Mac × Ask:=(doT.getD i.op.toNat (fun m _=>(m,ask0))) m i
def begM (m:Mac):Mac:={ m with used:=m.used+1,place:=m.place+1 }
def insM (m:Mac):Ins:=ci m.code m.place.toNat
def a07 (m:Mac):Mac × Ask :=
 if 0<=m.wait then (m,ab7 m.wait)
 else if m.how=0 then
  if m.used<m.fuel then
   if m.place<(m.code.length:Int) then
    if as2 (begM m) (insM m) then doM (begM m) (insM m) else ah8 (begM m) 82
   else ah8 m 50
  else ah8 m 80
 else (m,a59)
def a65 (m:Mac) (x:Nat):Mac:=if 0<=m.wait then aw4 { m with wait:=-1 } m.wait (fixB x) else m
def giveE (m:Mac):Int:=if 0<=m.wait then 0 else 3
structure Inv (m:Mac):Prop where
 cells:1<=m.cells/\m.cells<=256
 fuel:1<=m.fuel/\m.fuel<=1024
 wmax:1<=m.wmax/\m.wmax<=32
 len:m.code.length<=1024
 may:∀ k,k<m.code.length->mayB (ci m.code k) m.code.length=true/\(ci m.code k).x<18446744073709551616
 args:∀ k,okN (m.args k)
 loc:∀ k,okN (m.loc k)
 st:∀ x∈m.st,okN x
 high:(m.st.length:Int)+(if 0<=m.wait then 1 else 0)<=64
 calls:∀ c∈m.calls,0<=c/\c<=(m.code.length:Int)
 deep:m.calls.length<=16
 place:0<=m.place/\m.place<=(m.code.length:Int)
 used:0<=m.used/\m.used<=m.fuel
 out:(m.out.length:Int)<=m.used
 reads:(m.reads.length:Int)+(if 0<=m.wait then 1 else 0)<=m.used
 buf:∀ t∈m.buf,okN t.2
 few:(m.buf.length:Int)<=m.wmax
 wait:-1<=m.wait/\m.wait<m.cells
 how:0<=m.how/\m.how<=3
 none:m.upd=false->m.buf=[]
 fail:m.how=3 ↔ m.err≠0
 full:m.err=80->m.used=m.fuel
 idle:m.code=[]->m.used=0
def aF7 (L:List (List Nat)):Prop:=∀ i j,i≠j->Sep (L.getD i []) (L.getD j [])
theorem aQ9 {L:List (List Nat)} {i:Nat} (hi:i<L.length) (F:List Nat) (j:Nat):(L.set i F).getD j []=if j=i then F else L.getD j []:=by
 rw[zG,zG,List.getElem?_set]
 by_cases h:i=j
 ·subst h
  simp[hi]
 ·rw[if_neg h,if_neg (fun q=>h q.symm)]
theorem aF7.turn {L:List (List Nat)} {i:Nat} {F:List Nat} {w w':World} (h:aF7 L) (hb:∀ j,Blw w (L.getD j [])) (hi:i<L.length) (k:Turn (L.getD i []) F w w'):aF7 (L.set i F):=by
 intro a b hab;rw[aQ9 hi,aQ9 hi]
 by_cases h1:a=i
 ·by_cases h2:b=i
  ·exact absurd (h1.trans h2.symm) hab
  ·rw[if_pos h1,if_neg h2]
   exact((h b i h2).turn (hb b) k).symm
 ·rw[if_neg h1]
  by_cases h2:b=i
  ·rw[if_pos h2]
   exact(h a i h1).turn (hb a) k
  ·rw[if_neg h2]
   exact h a b hab
theorem aD1 {L:List (List Nat)} {i:Nat} {x:Nat} (h:x∈L.getD i []):x∈L.flatten:=by
 rw[zG]at h
 cases hl:L[i]? with
 | none=>rw[hl]at h;simp at h
 | some l =>
  rw[hl]at h;exact List.mem_flatten.2 ⟨l,List.mem_of_getElem? hl,h⟩
theorem Turn.part {L:List (List Nat)} {i:Nat} {F:List Nat} {w w':World} (k:Turn (L.getD i []) F w w'):Turn L.flatten (L.set i F).flatten w w' :=
 ⟨k.os,k.tape,k.output,k.size,fun x hx hn=>k.block x hx (fun q=>hn (aD1 q)),fun x hx=>by
  obtain⟨l,hl,hxl⟩:=List.mem_flatten.1 hx
  rcases List.mem_or_eq_of_mem_set hl with q | q
  ·exact .inl (List.mem_flatten.2 ⟨l,q,hxl⟩)
  ·subst q
   exact(k.own x hxl).imp aD1 id⟩
theorem a26 (w:World) (b j:Nat) (v:Value):Turn [b] [b] w (w.setCell ⟨b,j,none⟩ v):=⟨rfl,rfl,rfl,by simp,fun k _ hn=>zO _ _ _ _ (by simpa using hn),fun _ h=>.inl h⟩
structure Pt where
 pk:Option Addr
 ck:Nat
 bn:Nat
 bc:Nat
 bw:Nat
 Fn:List Nat
 Fc:List Nat
 Fw:List Nat
 po:Option Addr
 co:Nat
 pr:Option Addr
 cr:Nat
 wt:Int
def Pt.own (p:Pt) (b:Nat):List (List Nat):=[[b],p.Fn,p.Fc,p.Fw,fpR p.po,fpR p.pr]
def Pt.L (p:Pt) (b:Nat):List (List Nat):=[[b],p.Fn,p.Fc,p.Fw,fpR p.po,fpR p.pr,fpR p.pk]
def Pt.F (p:Pt) (b:Nat):List Nat:=(p.own b).flatten
def boxV (m:Mac) (p:Pt):Array Value:=#[.int .i64 m.cells,.int .i64 m.fuel,.bool m.upd,.slice p.pk m.code.length p.ck,
 .float .f64 (m.args 0),.float .f64 (m.args 1),.float .f64 (m.args 2),.float .f64 (m.args 3),.float .f64 (m.args 4),.float .f64 (m.args 5),.float .f64 (m.args 6),.float .f64 (m.args 7),
 .float .f64 (m.loc 0),.float .f64 (m.loc 1),.float .f64 (m.loc 2),.float .f64 (m.loc 3),.float .f64 (m.loc 4),.float .f64 (m.loc 5),.float .f64 (m.loc 6),.float .f64 (m.loc 7),
 .pointer (some ⟨p.bn,0,none⟩),.pointer (some ⟨p.bc,0,none⟩),.int .i64 m.place,.int .i64 m.used,.slice p.po m.out.length p.co,.slice p.pr m.reads.length p.cr,.pointer (some ⟨p.bw,0,none⟩),
 .bool (decide (0<=m.wait)),.int .i64 p.wt,.int .i64 m.how,.int .i64 m.cod,.int .i64 m.err]
abbrev NStk (w:World) (b:Nat) (F:List Nat) (l:List Nat):Prop:=Stk 195 49 w b F (fls l) 64
abbrev CStk (w:World) (b:Nat) (F:List Nat) (l:List Int):Prop:=Stk 197 3 w b F (i64s l) 16
theorem a39.keep {w w':World} {ao:Option Addr} {c:List Ins} (h:a39 w ao c) (k:Kept (fpR ao) w w'):a39 w' ao c:=fun i hi=>by
 obtain⟨b,off,e,hlt,c0,c1,c2⟩:=h i hi;have hb:w'.heap[b]?=w.heap[b]?:=k.2 b (aN1.2 ⟨_,e,rfl⟩);exact⟨b,off,e,zL hlt k.1,(World.cell?_of_block (a:=⟨b,off+i*3,none⟩) hb).trans c0,(World.cell?_of_block (a:=⟨b,off+i*3+1,none⟩) hb).trans c1,(World.cell?_of_block (a:=⟨b,off+i*3+2,none⟩) hb).trans c2⟩
structure MacAt (w:World) (b:Nat) (m:Mac) (p:Pt):Prop where
 box:w.heap[b]?=some (.cells (boxV m p) 184 (0,0))
 num:NStk w p.bn p.Fn m.st.reverse
 cal:CStk w p.bc p.Fc m.calls.reverse
 wri:Buf w p.bw p.Fw m.wmax m.buf
 out:RowAt 49 w p.po p.co (fls m.out)
 rds:TRow w p.pr p.cr m.reads
 cod:a39 w p.pk m.code
 ltk:Blw w (fpR p.pk)
 wt:0<=m.wait->p.wt=m.wait
 apart:aF7 (p.L b)
section
variable {w w':World} {b:Nat} {m:Mac} {p:Pt}
theorem MacAt.ltB (h:MacAt w b m p):b<w.heap.size:=lt_of_block h.box
theorem MacAt.blws (h:MacAt w b m p):∀ j,Blw w ((p.L b).getD j []):=fun j=>by
 match j with
 | 0=>exact fun k hk=>by rw[show k=b by simpa[Pt.L]using hk];exact h.ltB
 | 1=>exact h.num.blw
 | 2=>exact h.cal.blw
 | 3=>exact h.wri.blw
 | 4=>exact h.out.blw
 | 5=>exact h.rds.blw
 | 6=>exact h.ltk
 | n+7=>intro k hk;simp[Pt.L]at hk
theorem aS0 {x j:Nat} (hj:j<6) (h:x∈(p.L b).getD j []):x∈p.F b:=by
 have e:(p.L b).getD j []=(p.own b).getD j []:=by
  match j,hj with
  | 0,_=>rfl
  | 1,_=>rfl
  | 2,_=>rfl
  | 3,_=>rfl
  | 4,_=>rfl
  | 5,_=>rfl
 rw[e]at h;exact aD1 h
theorem bq4 {x:Nat} (h:x∈p.F b):∃ j,j<6/\x∈(p.L b).getD j []:=by
 simp only[Pt.F,Pt.own,List.flatten_cons,List.flatten_nil,List.mem_append,List.append_nil]at h
 rcases h with h | h | h | h | h | h
 ·exact⟨0,by omega,h⟩
 ·exact⟨1,by omega,h⟩
 ·exact⟨2,by omega,h⟩
 ·exact⟨3,by omega,h⟩
 ·exact⟨4,by omega,h⟩
 ·exact⟨5,by omega,h⟩
theorem MacAt.blw (h:MacAt w b m p):Blw w (p.F b):=fun k hk=>by
 obtain⟨j,_,hj⟩:=bq4 hk;exact h.blws j k hj
theorem MacAt.sepK (h:MacAt w b m p):Sep (fpR p.pk) (p.F b):=fun k hk q=>by
 obtain⟨j,hj,hq⟩:=bq4 q;exact h.apart 6 j (by omega) k hk hq
theorem MacAt.keep (h:MacAt w b m p) (k:Kept (p.F b) w w') (k2:Kept (fpR p.pk) w w'):MacAt w' b m p:=by
 have kk:∀ j,j<6->Kept ((p.L b).getD j []) w w':=fun j hj=>⟨k.1,fun i hi=>k.2 i (aS0 hj hi)⟩
 exact⟨((kk 0 (by omega)).2 b (by simp[Pt.L])).trans h.box,h.num.keep (kk 1 (by omega)),h.cal.keep (kk 2 (by omega)),h.wri.keep (kk 3 (by omega)),h.out.keep (kk 4 (by omega)),h.rds.keep (kk 5 (by omega)),h.cod.keep k2,fun x hx=>zL (h.ltk x hx) k2.1,h.wt,h.apart⟩
theorem MacAt.same (h:MacAt w b m p) (k:Same w w'):MacAt w' b m p:=h.keep (k.kept _) (k.kept _)
theorem MacAt.on (h:MacAt w b m p) (k:Bl w w'):MacAt w' b m p:=h.keep (a27 k h.blw) (a27 k h.ltk)
theorem MacAt.others (h:MacAt w b m p) {i:Nat} {F':List Nat} (t:Turn ((p.L b).getD i []) F' w w'):∀ j,j≠i->Kept ((p.L b).getD j []) w w':=fun j hj=>t.kept (h.apart j i hj) (h.blws j)
theorem MacAt.ltk' (h:MacAt w b m p) (k:w.heap.size<=w'.heap.size):Blw w' (fpR p.pk):=fun x hx=>zL (h.ltk x hx) k
theorem MacAt.putN (h:MacAt w b m p) {s:List Nat} {F':List Nat} (hs:NStk w' p.bn F' s.reverse) (t:Turn p.Fn F' w w'):MacAt w' b { m with st:=s } { p with Fn:=F' }/\Turn (p.F b) ({ p with Fn:=F' }.F b) w w':=by
 have kk:=h.others (i:=1) t;exact⟨⟨((kk 0 (by omega)).2 b (by simp[Pt.L])).trans h.box,hs,h.cal.keep (kk 2 (by omega)),h.wri.keep (kk 3 (by omega)),h.out.keep (kk 4 (by omega)),h.rds.keep (kk 5 (by omega)),h.cod.keep (kk 6 (by omega)),h.ltk' t.size,h.wt,h.apart.turn (i:=1) h.blws (by simp[Pt.L]) t⟩,Turn.part (L:=p.own b) (i:=1) t⟩
theorem MacAt.putC (h:MacAt w b m p) {s:List Int} {F':List Nat} (hs:CStk w' p.bc F' s.reverse) (t:Turn p.Fc F' w w'):MacAt w' b { m with calls:=s } { p with Fc:=F' }/\Turn (p.F b) ({ p with Fc:=F' }.F b) w w':=by
 have kk:=h.others (i:=2) t;exact⟨⟨((kk 0 (by omega)).2 b (by simp[Pt.L])).trans h.box,h.num.keep (kk 1 (by omega)),hs,h.wri.keep (kk 3 (by omega)),h.out.keep (kk 4 (by omega)),h.rds.keep (kk 5 (by omega)),h.cod.keep (kk 6 (by omega)),h.ltk' t.size,h.wt,h.apart.turn (i:=2) h.blws (by simp[Pt.L]) t⟩,Turn.part (L:=p.own b) (i:=2) t⟩
theorem MacAt.putW (h:MacAt w b m p) {s:Wr} {F':List Nat} (hs:Buf w' p.bw F' m.wmax s) (t:Turn p.Fw F' w w'):MacAt w' b { m with buf:=s } { p with Fw:=F' }/\Turn (p.F b) ({ p with Fw:=F' }.F b) w w':=by
 have kk:=h.others (i:=3) t;exact⟨⟨((kk 0 (by omega)).2 b (by simp[Pt.L])).trans h.box,h.num.keep (kk 1 (by omega)),h.cal.keep (kk 2 (by omega)),hs,h.out.keep (kk 4 (by omega)),h.rds.keep (kk 5 (by omega)),h.cod.keep (kk 6 (by omega)),h.ltk' t.size,h.wt,h.apart.turn (i:=3) h.blws (by simp[Pt.L]) t⟩,Turn.part (L:=p.own b) (i:=3) t⟩
theorem MacAt.set (h:MacAt w b m p) (j:Nat) (v:Value) (m':Mac) (z:Int) (e:(boxV m p).setIfInBounds j v=boxV m' { p with wt:=z }) (e1:m'.st=m.st/\m'.calls=m.calls/\m'.wmax=m.wmax/\m'.buf=m.buf/\m'.out=m.out/\m'.reads=m.reads/\m'.code=m.code) (hz:0<=m'.wait->z=m'.wait) :
  MacAt (w.setCell ⟨b,j,none⟩ v) b m' { p with wt:=z }/\Turn (p.F b) ({ p with wt:=z }.F b) w (w.setCell ⟨b,j,none⟩ v):=by
 have t:=a26 w b j v;have kk:=h.others (i:=0) t;obtain⟨f1,f2,f3,f4,f5,f6,f7⟩:=e1;refine⟨⟨?_,by rw[f1];exact h.num.keep (kk 1 (by omega)),by rw[f2];exact h.cal.keep (kk 2 (by omega)),by rw[f3,f4];exact h.wri.keep (kk 3 (by omega)),by rw[f5];exact h.out.keep (kk 4 (by omega)),by rw[f6];exact h.rds.keep (kk 5 (by omega)),by rw[f7];exact h.cod.keep (kk 6 (by omega)),h.ltk' t.size,hz,h.apart⟩,Turn.part (L:=p.own b) (i:=0) t⟩;rw[<- e];exact zS w b j _ _ v h.box
theorem MacAt.putO (h:MacAt w b m p) {w3:World} {v:Value} {x:Nat} (hown:w3.ownsRow 0 49 1 v (m.out.length+1) (fls m.out ++ [.float .f64 x])) (hg:w.grownBy w3 (Value.slice p.po m.out.length p.co).ownBlock) (hat:v.ownBlock=(Value.slice p.po m.out.length p.co).ownBlock∨∃ s,v.ownBlock=some s/\w.heap.size<=s) :
  ∃ p' c',v=.slice p' (m.out.length+1) c'/\w3.heap[b]?=some (.cells (boxV m p) 184 (0,0))/\MacAt (w3.setCell ⟨b,24,none⟩ v) b { m with out:=m.out ++ [x] } { p with po:=p',co:=c' }/\Turn (p.F b) ({ p with po:=p',co:=c' }.F b) w (w3.setCell ⟨b,24,none⟩ v):=by
 obtain⟨p',c',rfl,hr⟩:=a93 hown;have hl:(fls m.out ++ [Value.float .f64 x]).length=m.out.length+1:=by simp[a32]
 rw[hl]at hat ⊢;have ho:∀ k,k∈fpR p'->k∈fpR p.po∨w.heap.size<=k:=by
  rcases hat with q | ⟨s,q,hs⟩
  ·exact ak7 (s:=w.heap.size) (.inl q) (zE _)
  ·exact ak7 (n:=m.out.length) (c:=p.co) (.inr q) hs
 have t:Turn (fpR p.po) (fpR p') w w3:=⟨hg.os,hg.tape,hg.output,hg.size,fun k hk hn=>hg.block k hk (fun q=>hn (a42.2 q.symm)),ho⟩;have kk:=h.others (i:=4) t;have hbox:w3.heap[b]?=_:=((kk 0 (by omega)).2 b (by simp[Pt.L])).trans h.box;have ap:aF7 ({ p with po:=p',co:=c' }.L b):=h.apart.turn (i:=4) h.blws (by simp[Pt.L]) t;have t2:=a26 w3 b 24 (.slice p' (m.out.length+1) c');have k2:∀ F,Blw w3 F->Sep F [b]->Kept F w3 (w3.setCell ⟨b,24,none⟩ (.slice p' (m.out.length+1) c')):=fun F hb hs=>t2.kept hs hb
 refine⟨p',c',rfl,hbox,⟨?_,?_,?_,?_,?_,?_,?_,?_,h.wt,ap⟩,(Turn.part (L:=p.own b) (i:=4) t).trans (Turn.part (L:=Pt.own { p with po:=p',co:=c' } b) (i:=0) t2)⟩
 ·refine(zS w3 b 24 _ _ _ hbox).trans ?_
  have:(m.out ++ [x]).length=m.out.length+1:=by simp
  unfold boxV;rw[this]
  rfl
 ·exact(h.num.keep (kk 1 (by omega))).keep (k2 _ (h.num.keep (kk 1 (by omega))).blw (ap 1 0 (by omega)))
 ·exact(h.cal.keep (kk 2 (by omega))).keep (k2 _ (h.cal.keep (kk 2 (by omega))).blw (ap 2 0 (by omega)))
 ·exact(h.wri.keep (kk 3 (by omega))).keep (k2 _ (h.wri.keep (kk 3 (by omega))).blw (ap 3 0 (by omega)))
 ·rw[at2]
  exact hr.keep (k2 _ hr.blw (ap 4 0 (by omega)))
 ·exact(h.rds.keep (kk 5 (by omega))).keep (k2 _ (h.rds.keep (kk 5 (by omega))).blw (ap 5 0 (by omega)))
 ·exact(h.cod.keep (kk 6 (by omega))).keep (k2 _ (h.ltk' t.size) (ap 6 0 (by omega)))
 ·exact h.ltk' (zQ t.size t2.size)
theorem MacAt.putR (h:MacAt w b m p) {w3:World} {v:Value} {d:Int} {x:Nat} (hown:w3.ownsRow 0 51 2 v (m.reads.length+1) (m.reads.flatMap tchC ++ [.int .i64 d,.float .f64 x])) (hg:w.grownBy w3 (Value.slice p.pr m.reads.length p.cr).ownBlock) (hat:v.ownBlock=(Value.slice p.pr m.reads.length p.cr).ownBlock∨∃ s,v.ownBlock=some s/\w.heap.size<=s) :
  ∃ p' c',v=.slice p' (m.reads.length+1) c'/\w3.heap[b]?=some (.cells (boxV m p) 184 (0,0))/\MacAt (w3.setCell ⟨b,25,none⟩ v) b { m with reads:=m.reads ++ [(d,x)] } { p with pr:=p',cr:=c' }/\Turn (p.F b) ({ p with pr:=p',cr:=c' }.F b) w (w3.setCell ⟨b,25,none⟩ v):=by
 obtain⟨p',c',rfl,_⟩:=ad3 hown;have hl:(m.reads ++ [(d,x)]).length=m.reads.length+1:=by simp
 have hr:TRow w3 p' c' (m.reads ++ [(d,x)]):=⟨by rw[hl,List.flatMap_append];simpa[tchC]using hown⟩;have ho:∀ k,k∈fpR p'->k∈fpR p.pr∨w.heap.size<=k:=by
  rcases hat with q | ⟨s,q,hs⟩
  ·exact ak7 (s:=w.heap.size) (.inl q) (zE _)
  ·exact ak7 (n:=m.reads.length) (c:=p.cr) (.inr q) hs
 have t:Turn (fpR p.pr) (fpR p') w w3:=⟨hg.os,hg.tape,hg.output,hg.size,fun k hk hn=>hg.block k hk (fun q=>hn (a42.2 q.symm)),ho⟩;have kk:=h.others (i:=5) t;have hbox:w3.heap[b]?=_:=((kk 0 (by omega)).2 b (by simp[Pt.L])).trans h.box;have ap:aF7 ({ p with pr:=p',cr:=c' }.L b):=h.apart.turn (i:=5) h.blws (by simp[Pt.L]) t;have t2:=a26 w3 b 25 (.slice p' (m.reads.length+1) c');have k2:∀ F,Blw w3 F->Sep F [b]->Kept F w3 (w3.setCell ⟨b,25,none⟩ (.slice p' (m.reads.length+1) c')):=fun F hb hs=>t2.kept hs hb
 refine⟨p',c',rfl,hbox,⟨?_,?_,?_,?_,?_,?_,?_,?_,h.wt,ap⟩,(Turn.part (L:=p.own b) (i:=5) t).trans (Turn.part (L:=Pt.own { p with pr:=p',cr:=c' } b) (i:=0) t2)⟩
 ·refine(zS w3 b 25 _ _ _ hbox).trans ?_
  unfold boxV;rw[hl]
  rfl
 ·exact(h.num.keep (kk 1 (by omega))).keep (k2 _ (h.num.keep (kk 1 (by omega))).blw (ap 1 0 (by omega)))
 ·exact(h.cal.keep (kk 2 (by omega))).keep (k2 _ (h.cal.keep (kk 2 (by omega))).blw (ap 2 0 (by omega)))
 ·exact(h.wri.keep (kk 3 (by omega))).keep (k2 _ (h.wri.keep (kk 3 (by omega))).blw (ap 3 0 (by omega)))
 ·exact(h.out.keep (kk 4 (by omega))).keep (k2 _ (h.out.keep (kk 4 (by omega))).blw (ap 4 0 (by omega)))
 ·exact hr.keep (k2 _ hr.blw (ap 5 0 (by omega)))
 ·exact(h.cod.keep (kk 6 (by omega))).keep (k2 _ (h.ltk' t.size) (ap 6 0 (by omega)))
 ·exact h.ltk' (zQ t.size t2.size)
end
def Mc (w:World) (b:Nat) (F K:List Nat) (m:Mac):Prop:=∃ p,MacAt w b m p/\F=p.F b/\K=fpR p.pk
def Gm (W:World) (F0:List Nat) (b:Nat) (K:List Nat) (w:World) (m:Mac):Prop:=∃ p,MacAt w b m p/\Turn F0 (p.F b) W w/\K=fpR p.pk
section
variable {W w w':World} {b:Nat} {F F0 K:List Nat} {m:Mac}
theorem Mc.gm (h:Mc w b F K m):Gm w F b K w m:=by
 obtain⟨p,h1,rfl,h3⟩:=h;exact⟨p,h1,Turn.refl _ _,h3⟩
theorem Gm.mc (h:Gm W F0 b K w m):∃ F',Mc w b F' K m/\Turn F0 F' W w:=by
 obtain⟨p,h1,h2,h3⟩:=h;exact⟨_,⟨p,h1,rfl,h3⟩,h2⟩
theorem Gm.trans {w0:World} {F1:List Nat} (h:Gm w0 F1 b K w m) (t:Turn F0 F1 W w0):Gm W F0 b K w m:=by
 obtain⟨p,h1,h2,h3⟩:=h;exact⟨p,h1,t.trans h2,h3⟩
theorem Gm.same (h:Gm W F0 b K w m) (k:Same w w'):Gm W F0 b K w' m:=by
 obtain⟨p,h1,h2,h3⟩:=h;exact⟨p,h1.same k,h2.trans (k.turn _),h3⟩
theorem Gm.on (h:Gm W F0 b K w m) (k:Bl w w'):Gm W F0 b K w' m:=by
 obtain⟨p,h1,h2,h3⟩:=h;exact⟨p,h1.on k,h2.trans (Below.turn k _),h3⟩
theorem Gm.alloc (h:Gm W F0 b K w m) (x:Obj):Gm W F0 b K (w.alloc x) m:=h.on (below_alloc _ x)
theorem Gm.set (h:Gm W F0 b K w m) (j:Nat) (v:Value) (m':Mac) (e:∀ p,(0<=m.wait->p.wt=m.wait)->∃ z,(boxV m p).setIfInBounds j v=boxV m' { p with wt:=z }/\(0<=m'.wait->z=m'.wait)) (e1:m'.st=m.st/\m'.calls=m.calls/\m'.wmax=m.wmax/\m'.buf=m.buf/\m'.out=m.out/\m'.reads=m.reads/\m'.code=m.code):Gm W F0 b K (w.setCell ⟨b,j,none⟩ v) m':=by
 obtain⟨p,h1,h2,h3⟩:=h;obtain⟨z,hz,hz2⟩:=e p h1.wt;obtain⟨q1,q2⟩:=h1.set j v m' z hz e1 hz2;exact⟨{ p with wt:=z },q1,h2.trans q2,h3⟩
theorem Mc.blw (h:Mc w b F K m):Blw w F:=by obtain⟨p,h1,rfl,rfl⟩:=h;exact h1.blw
theorem Mc.blwK (h:Mc w b F K m):Blw w K:=by obtain⟨p,h1,rfl,rfl⟩:=h;exact h1.ltk
theorem Mc.sepK (h:Mc w b F K m):Sep K F:=by obtain⟨p,h1,rfl,rfl⟩:=h;exact h1.sepK
theorem Mc.keep (h:Mc w b F K m) (k:Kept F w w') (k2:Kept K w w'):Mc w' b F K m:=by obtain⟨p,h1,rfl,rfl⟩:=h;exact⟨p,h1.keep k k2,rfl,rfl⟩
theorem Mc.on (h:Mc w b F K m) (k:Bl w w'):Mc w' b F K m:=h.keep (a27 k h.blw) (a27 k h.blwK)
theorem Gm.ltB (h:Gm W F0 b K w m):b<w.heap.size:=by obtain⟨p,h1,_⟩:=h;exact h1.ltB
theorem Gm.free (h:Gm W F0 b K w m) (j:Nat):w.frozen? ⟨b,j,none⟩=false:=by obtain⟨p,h1,_⟩:=h;exact zZ w b j _ _ h1.box
end
theorem MacAt.cell {w:World} {b:Nat} {m:Mac} {p:Pt} (h:MacAt w b m p) (j:Nat):w.cell? ⟨b,j,none⟩=(boxV m p)[j]?:=zR w b j _ _ _ h.box
theorem MacAt.free {w:World} {b:Nat} {m:Mac} {p:Pt} (h:MacAt w b m p) (j:Nat):w.frozen? ⟨b,j,none⟩=false:=zZ w b j _ _ h.box
attribute [local go_sem] a00
abbrev ad0 (e:Int):Ending:=.panicked [{ v:=.iface 32 (.int .i64 e),recovered:=false }]
theorem a80 {c:Bool} (hc:c=false) (e:Int) (w:World):Calls Tryz.prog 148 #[.bool c,.int .i64 e] w fun r w'=>r=ad0 e/\w'=w:=by
 subst hc;go_enter Tryz.func148,Tryz.ntmps148
 go_wp2
 exact⟨rfl,rfl,rfl⟩
theorem a45 {c:Bool} (hc:c=true) (e:Int) (w:World):Calls Tryz.prog 148 #[.bool c,.int .i64 e] w fun r w'=>r=.returned (.tuple #[])/\w'=w:=by
 subst hc;go_enter Tryz.func148,Tryz.ntmps148
 go_wp2
 go_end0
 exact⟨rfl,rfl⟩
theorem aa4 {w:World} {o:Obj} {g:Nat} (h:g=w.heap.size):(w.alloc o).heap[g]?=some o:=by rw[h];exact zN _ _
theorem bG3 (l:List Nat) (k:Nat) (h:k<l.length):l.reverse[l.length - 1 - k]?=some (l.getD k 0):=by
 rw[List.getElem?_reverse (by omega),show l.length - 1 - (l.length - 1 - k)=k by omega,zG,List.getElem?_eq_getElem h]
 rfl
section
variable {W w:World} {b:Nat} {F0 K:List Nat} {m:Mac}
theorem a66 (h:Gm W F0 b K w m) {x:Nat} {s:List Nat} (hs:m.st=x::s):Calls Tryz.prog 160 #[.pointer (some ⟨b,0,none⟩)] w fun e w'=>e=.returned (.float .f64 x)/\Gm W F0 b K w' { m with st:=s }:=by
 obtain⟨p,hm,ht,hk⟩:=h;have h20:w.cell? ⟨b,20,none⟩=some (.pointer (some ⟨p.bn,0,none⟩)):=(hm.cell 20).trans rfl;have hb:=hm.ltB;have HP:=zH (aH3 (m:=s.reverse) (x:=x) (by have:=hm.num;rw[hs,List.reverse_cons]at this;exact this));have HD:Hid (∀ F' w',NStk w' p.bn F' s.reverse->Turn p.Fn F' w w'->Gm W F0 b K w' { m with st:=s }):=fun F' w' q1 q2=>by
  obtain⟨a1,a2⟩:=hm.putN q1 q2;exact⟨_,a1,ht.trans a2,hk⟩
 clear hm ht hk;go_enter Tryz.func160,Tryz.ntmps160
 go_wp2_with (go_at_call 180;refine HP.out.mono ?_;rintro e w1 ⟨F',rfl,q1,q2⟩;have HQ:=zH (HD.out _ _ q1 q2);clear q1 q2 HD HP)
 go_ret;exact⟨rfl,HQ.out⟩
theorem ae3 (h:Gm W F0 b K w m) (x:Nat) (hs:m.st.length<64):Calls Tryz.prog 149 #[.pointer (some ⟨b,0,none⟩),.float .f64 x] w fun e w'=>e=.returned (.tuple #[])/\Gm W F0 b K w' { m with st:=x::m.st }:=by
 obtain⟨p,hm,ht,hk⟩:=h;have h20:w.cell? ⟨b,20,none⟩=some (.pointer (some ⟨p.bn,0,none⟩)):=(hm.cell 20).trans rfl;have hb:=hm.ltB;have hlt:((m.st.reverse.length:Nat):Int)<64:=by rw[List.length_reverse];omega
 have HP:=zH (b29 hm.num x);rw[show ao5 m.st.reverse 64 x=(x::m.st).reverse by simp[ao5];omega]at HP;have HD:Hid (∀ F' w',NStk w' p.bn F' (x::m.st).reverse->Turn p.Fn F' w w'->Gm W F0 b K w' { m with st:=x::m.st }):=fun F' w' q1 q2=>by
  obtain⟨a1,a2⟩:=hm.putN q1 q2;exact⟨_,a1,ht.trans a2,hk⟩
 clear hm ht hk hlt;go_enter Tryz.func149,Tryz.ntmps149
 go_wp2_with (go_at_call 169;refine HP.out.mono ?_;rintro e w1 ⟨F',rfl,q1,q2⟩;have HQ:=zH (HD.out _ _ q1 q2);clear q1 q2 HD HP)
 go_end0
 exact⟨rfl,HQ.out⟩
theorem ao2 (h:Gm W F0 b K w m) (k:Nat) (hs:k<m.st.length):Calls Tryz.prog 162 #[.pointer (some ⟨b,0,none⟩),.int .i64 k] w fun e w'=>e=.returned (.float .f64 (m.st.getD k 0))/\∃ q,w'=w.drewN q:=by
 obtain⟨p,hm,ht,hk⟩:=h;have h20:w.cell? ⟨b,20,none⟩=some (.pointer (some ⟨p.bn,0,none⟩)):=(hm.cell 20).trans rfl;have hb:=hm.ltB;have HP:=zH (aA4 hm.num k (m.st.length - 1 - k) (by rw[List.length_reverse];omega) _ (bG3 m.st k hs));clear hm ht hk hs;go_enter Tryz.func162,Tryz.ntmps162
 go_wp2_with (go_at_call 181;refine HP.out.mono ?_;rintro e w1 ⟨rfl,q,hq⟩;subst w1;clear HP)
 go_ret;exact⟨rfl,q,rfl⟩
def askV (a:Ask):Value:=.agg #[.int .i64 a.kind,.int .i64 a.cell,.float .f64 a.x,.bool a.first]
theorem a60 {fn:Func} {p:Tmp} (h:fn.results=#[.cell p 211]) {R:Ending->World->Prop} {a:Act} {w:World} (g:Nat) (k:Ask) (hp:a.tmps.getD p undef=.pointer (some ⟨g,0,none⟩))
  (hg:w.heap[g]?=some (.cells #[.int .i64 k.kind,.int .i64 k.cell,.float .f64 k.x,.bool k.first] 211 (0,0))) (hd:a.defers=[]) (hR:R (.returned (askV k)) w):bodyPost Tryz.prog fn R .ret a w :=
 bodyPost_ret (results_cell_row h _ _ g _ _ _ _ hp hg Tryz.underlying211 rfl (by kernel_rfl)) hd hR
theorem aK9 (h:Gm W F0 b K w m) (hw:0<=m.wait):Calls Tryz.prog 132 #[.pointer (some ⟨b,0,none⟩)] w fun e w'=>e=.returned (askV (ab7 m.wait))/\Bl w w':=by
 obtain⟨p,hm,ht,hk⟩:=h;have h28:w.cell? ⟨b,28,none⟩=some (.int .i64 m.wait):=by rw[<- hm.wt hw];exact(hm.cell 28).trans rfl
 have hb:=hm.ltB;have HB:=zH (fun x=>below_alloc w x);clear hm ht hk hw;go_enter Tryz.func132,Tryz.ntmps132
 go_wp2
 refine a60 rfl w.heap.size (ab7 m.wait) rfl (zN _ _) rfl ⟨rfl,HB.out _⟩
theorem as8 (h:Gm W F0 b K w m) (o c e:Int):Calls Tryz.prog 134 #[.pointer (some ⟨b,0,none⟩),.agg #[.int .i64 o,.int .i64 c,.int .i64 e]] w fun r w'=>r=.returned (askV a59)/\Gm W F0 b K w' { m with how:=o,cod:=c,err:=e }:=by
 have hb:=h.ltB;obtain⟨p,hm,_,_⟩:=id h;have h29:w.cell? ⟨b,29,none⟩=some (.int .i64 m.how):=(hm.cell 29).trans rfl;have h30:w.cell? ⟨b,30,none⟩=some (.int .i64 m.cod):=(hm.cell 30).trans rfl;have h31:w.cell? ⟨b,31,none⟩=some (.int .i64 m.err):=(hm.cell 31).trans rfl;have f29:=hm.free 29;have f30:=hm.free 30;have f31:=hm.free 31;clear hm;have HD:Hid (Gm W F0 b K (((w.setCell ⟨b,29,none⟩ (.int .i64 o)).setCell ⟨b,30,none⟩ (.int .i64 c)).setCell ⟨b,31,none⟩ (.int .i64 e)) { m with how:=o,cod:=c,err:=e }):=by
  have g1:=h.set 29 (.int .i64 o) { m with how:=o } (fun p hp=>⟨p.wt,rfl,hp⟩) ⟨rfl,rfl,rfl,rfl,rfl,rfl,rfl⟩;have g2:=g1.set 30 (.int .i64 c) { m with how:=o,cod:=c } (fun p hp=>⟨p.wt,rfl,hp⟩) ⟨rfl,rfl,rfl,rfl,rfl,rfl,rfl⟩;exact g2.set 31 (.int .i64 e) { m with how:=o,cod:=c,err:=e } (fun p hp=>⟨p.wt,rfl,hp⟩) ⟨rfl,rfl,rfl,rfl,rfl,rfl,rfl⟩
 clear h;go_enter Tryz.func134,Tryz.ntmps134
 go_wp2
 exact a60 rfl (w.heap.size+1) a59 rfl (aa4 (by simp)) rfl ⟨rfl,(HD.out.alloc _).alloc _⟩
end
theorem Gm.far {W w:World} {b:Nat} {F0 K:List Nat} {m:Mac} (h:Gm W F0 b K w m) {g:Nat} (hg:g<W.heap.size) (hn:g∉F0):w.heap[g]?=W.heap[g]?:=by
 obtain⟨p,_,h2,_⟩:=h;exact h2.block g hg hn
section
variable {W w:World} {b:Nat} {F0 K:List Nat} {m:Mac}
theorem ak3 (h:Gm W F0 b K w m):Calls Tryz.prog 98 #[.pointer (some ⟨b,0,none⟩)] w fun e w'=>e=.returned (.slice (some ⟨w.heap.size,0,none⟩) m.buf.length m.buf.length)/\TRow w' (some ⟨w.heap.size,0,none⟩) m.buf.length m.buf/\Bl w w':=by
 obtain⟨p,hm,ht,hk⟩:=h;have h20:w.cell? ⟨b,26,none⟩=some (.pointer (some ⟨p.bw,0,none⟩)):=(hm.cell 26).trans rfl;have hb:=hm.ltB;have HP:=zH (bs6 hm.wri);clear hm ht hk;go_enter Tryz.func98,Tryz.ntmps98
 go_wp2_with (go_at_call 109;refine HP.out.mono ?_;rintro e w1 ⟨rfl,q1,q2⟩;have HQ:=zH (And.intro q1 q2);clear q1 q2 HP)
 go_ret;exact⟨rfl,HQ.out.1,HQ.out.2⟩
def endV (m:Mac):Value:=.agg #[.int .i64 m.how,.int .i64 m.cod,.int .i64 m.err]
theorem end_any (h:Gm W F0 b K w m):Calls Tryz.prog 101 #[.pointer (some ⟨b,0,none⟩)] w fun e w'=>e=.returned (endV m)/\Bl w w':=by
 obtain⟨p,hm,ht,hk⟩:=h;have h29:w.cell? ⟨b,29,none⟩=some (.int .i64 m.how):=(hm.cell 29).trans rfl;have h30:w.cell? ⟨b,30,none⟩=some (.int .i64 m.cod):=(hm.cell 30).trans rfl;have h31:w.cell? ⟨b,31,none⟩=some (.int .i64 m.err):=(hm.cell 31).trans rfl;have hb:=hm.ltB;have HB:=zH (fun x=>below_alloc w x);clear hm ht hk;go_enter Tryz.func101,Tryz.ntmps101
 go_wp2
 exact bodyPost_ret (results_cell_row rfl _ _ w.heap.size _ _ _ _ rfl (zN _ _) Tryz.underlying46 rfl (by kernel_rfl)) rfl ⟨rfl,HB.out _⟩
end
attribute [local go_sem] a00
theorem bb9 (u v:Value) (hu:u.oneCell'=true) (hv:v.oneCell'=true):∀ x∈[u,v],x.oneCell'=true:=by
 intro x hx
 simp at hx
 rcases hx with rfl | rfl
 ·exact hu
 ·exact hv
theorem follows:Tryz.prog.follows .mixedOrders=true:=by kernel_rfl
theorem a34 {id:Nat} {Q:Exit->Act->World->Prop} {a:Act} {w:World} {l:List Oper} (n:Nat) (hB:Region.lexTailB .any l.toArray n=true)
  (h:wpStill Tryz.prog l.toArray w.drew (fun a'=>wpList Tryz.prog l.toArray Q (l.drop n) a' w.drew) (l.take n) a):(Code.region id l.toArray true).wp Tryz.prog Q a w:=wp_region_still_tail n follows hB h
section
variable {W w:World} {b:Nat} {F0 K:List Nat} {m:Mac}
theorem aw5 (h:Gm W F0 b K w m) (d:Int) (x:Nat) (hs:m.st.length<64) (hr:m.reads.length<=1024):Calls Tryz.prog 137 #[.pointer (some ⟨b,0,none⟩),.int .i64 d,.float .f64 x] w fun e w'=>e=.returned (.tuple #[])/\Gm W F0 b K w' (aw4 m d x):=by
 obtain⟨p,hm,ht,hk⟩:=h;have h20:w.cell? ⟨b,25,none⟩=some (.slice p.pr m.reads.length p.cr):=(hm.cell 25).trans rfl;have hb:=hm.ltB;obtain⟨i0,hi,hz0,hz1,hz2⟩:=info_parts ba9;have HZI:=zH (And.intro hi (And.intro hz0 (And.intro hz1 hz2)));have HO:Hid (∀ u:World,u.heap=w.heap->u.ownsRow 0 51 2 (.slice p.pr m.reads.length p.cr) m.reads.length (m.reads.flatMap tchC)):=fun u e=>b70 hm.rds.own e
 have HD:Hid (∀ w3 v o,w3.ownsRow 0 51 2 v (m.reads.length+1) (m.reads.flatMap tchC ++ [.int .i64 d,.float .f64 x])->(w.alloc o).grownBy w3 (Value.slice p.pr m.reads.length p.cr).ownBlock->(v.ownBlock=(Value.slice p.pr m.reads.length p.cr).ownBlock∨v.ownBlock=some (w.alloc o).heap.size) ->
   ∃ p' c',v=.slice p' (m.reads.length+1) c'/\w3.cell? ⟨b,25,none⟩=some (.slice p.pr m.reads.length p.cr)/\w3.frozen? ⟨b,25,none⟩=false/\b<w3.heap.size/\Gm W F0 b K (w3.setCell ⟨b,25,none⟩ v) { m with reads:=m.reads ++ [(d,x)] }):=fun w3 v o q1 q2 q3=>by
  obtain⟨p',c',e1,e2,e3,e4⟩:=hm.putR q1 ((World.grownBy_alloc w o _).trans q2) (q3.imp id (fun z=>⟨_,z,by simp⟩));exact⟨p',c',e1,(zR w3 b 25 _ _ _ e2).trans rfl,zZ w3 b 25 _ _ e2,lt_of_block e2,_,e3,ht.trans e4,hk⟩
 have HS:=zH (And.intro hs hr);clear hm ht hk hi hz0 hz1 hz2 hs hr;go_enter Tryz.func137,Tryz.ntmps137
 go_wp2_with (first
  | (go_at_call 149;refine(ae3 HG.out x HS.out.1).mono ?_;rintro e w1 ⟨rfl,q1⟩;have HQ:=zH q1;clear q1 HG)
  | (at_builtin;refine wpList_append_own_at _ rfl _ _ 44 rfl 0 51 i0 _ 2 16 Tryz.underlying44 HZI.out.1 HZI.out.2.1 HZI.out.2.2.1 HZI.out.2.2.2 rfl (by decide) _ m.reads.length (m.reads.flatMap tchC) rfl (World.ownsRow.alloc (HO.out _ rfl) _) ⟨w.heap.size,0,none⟩ 1 1 [.int .i64 d,.float .f64 x] rfl rfl (World.news_of_block (cs:=#[.int .i64 d,.float .f64 x]) (t:=51) (fr:=(0,0)) (zN _ _)) (bb9 _ _ rfl rfl) (by have:=HS.out;unfold maxLen;omega) (by have:=HS.out;omega) (zV _) ?_;intro v w3 hown hgrow hnil hloc;obtain⟨p',c',hv,k0,kf,kb,hg⟩:=HD.out _ _ _ hown hgrow hloc;subst hv;have HG:=zH hg;clear hown hgrow hnil hloc hg HD))
 go_end0
 exact⟨rfl,HQ.out⟩
theorem aU4 (h:Gm W F0 b K w m) (hf:¬ m.used<m.fuel):Calls Tryz.prog 136 #[.pointer (some ⟨b,0,none⟩)] w fun r w'=>r=ad0 80/\Bl w w':=by
 obtain⟨p,hm,ht,hk⟩:=h;have h1:w.cell? ⟨b,23,none⟩=some (.int .i64 m.used):=(hm.cell 23).trans rfl;have h2:w.cell? ⟨b,1,none⟩=some (.int .i64 m.fuel):=(hm.cell 1).trans rfl;have hb:=hm.ltB;have HB:=zH (fun x=>below_alloc w x);clear hm ht hk;go_enter Tryz.func136,Tryz.ntmps136
 go_wp2
 refine a34 9 (by kernel_rfl) ?_;simp only[List.take_succ_cons,List.take_zero,List.drop_succ_cons,List.drop_zero]
 repeat still_step
 refine wpStill_nil ?_
 go_wp2_with (go_at_call 148;refine(a80 (by simpa using hf) 80 _).mono ?_;rintro e w1 ⟨rfl,hw⟩;subst w1)
 exact⟨rfl,rfl,(HB.out _).trans ((Same.drew _).below _)⟩
theorem b03 (h:Gm W F0 b K w m) (hf:m.used<m.fuel) (hp:¬ m.place<(m.code.length:Int)):Calls Tryz.prog 136 #[.pointer (some ⟨b,0,none⟩)] w fun r w'=>r=ad0 50/\Bl w w':=by
 obtain⟨p,hm,ht,hk⟩:=h;have h1:w.cell? ⟨b,23,none⟩=some (.int .i64 m.used):=(hm.cell 23).trans rfl;have h2:w.cell? ⟨b,1,none⟩=some (.int .i64 m.fuel):=(hm.cell 1).trans rfl;have h3:w.cell? ⟨b,22,none⟩=some (.int .i64 m.place):=(hm.cell 22).trans rfl;have h4:w.cell? ⟨b,3,none⟩=some (.slice p.pk m.code.length p.ck):=(hm.cell 3).trans rfl;have hb:=hm.ltB;have HB:Hid (∀ x n,Bl w ((w.alloc x).drewN n)):=fun x n=>(below_alloc w x).trans ((Same.drewN _ n).below _)
 clear hm ht hk;go_enter Tryz.func136,Tryz.ntmps136
 go_wp2
 refine a34 9 (by kernel_rfl) ?_;simp only[List.take_succ_cons,List.take_zero,List.drop_succ_cons,List.drop_zero]
 repeat still_step
 refine wpStill_nil ?_
 go_wp2_with (go_at_call 148;refine(a45 (by first | rfl | exact zT hf) 80 _).mono ?_;rintro e w1 ⟨rfl,hw⟩;subst w1)
 refine a34 10 (by kernel_rfl) ?_;simp only[List.take_succ_cons,List.take_zero,List.drop_succ_cons,List.drop_zero]
 repeat still_step
 refine wpStill_nil ?_
 go_wp2_with (go_at_call 148;refine(a80 (by simpa using hp) 50 _).mono ?_;rintro e w1 ⟨rfl,hw⟩;subst w1)
 exact⟨rfl,rfl,HB.out _ 2⟩
theorem as5 (h:Gm W F0 b K w m) (hf:m.used<m.fuel) {k:Nat} (hk0:m.place=(k:Int)) (hp:k<m.code.length) (hb1:m.used+1<=9223372036854775807/\-9223372036854775808<=m.used) (hb2:k+1<=9223372036854775807):Calls Tryz.prog 136 #[.pointer (some ⟨b,0,none⟩)] w fun r w'=>r=.returned (insV (ci m.code k))/\Gm W F0 b K w' (begM m):=by
 have HG:=zH h;obtain⟨p,hm,ht,hk⟩:=h;have h1:w.cell? ⟨b,23,none⟩=some (.int .i64 m.used):=(hm.cell 23).trans rfl;have h2:w.cell? ⟨b,1,none⟩=some (.int .i64 m.fuel):=(hm.cell 1).trans rfl;have h3:w.cell? ⟨b,22,none⟩=some (.int .i64 (k:Int)):=by rw[<- hk0];exact(hm.cell 22).trans rfl
 have h4:w.cell? ⟨b,3,none⟩=some (.slice p.pk m.code.length p.ck):=(hm.cell 3).trans rfl;obtain⟨g,off,hpk,hlt,c0,c1,c2⟩:=hm.cod k hp;rw[hpk]at h4;have hb:=hm.ltB;have f1:=hm.free 23;have f2:=hm.free 22;have HD:Hid (Gm W F0 b K ((w.setCell ⟨b,23,none⟩ (.int .i64 (m.used+1))).setCell ⟨b,22,none⟩ (.int .i64 ((k:Int)+1))) (begM m)):=by
  have g1:=HG.out.set 23 (.int .i64 (m.used+1)) { m with used:=m.used+1 } (fun p hp=>⟨p.wt,rfl,hp⟩) ⟨rfl,rfl,rfl,rfl,rfl,rfl,rfl⟩;rw[<- hk0];exact g1.set 22 (.int .i64 (m.place+1)) (begM m) (fun p hp=>⟨p.wt,rfl,hp⟩) ⟨rfl,rfl,rfl,rfl,rfl,rfl,rfl⟩
 have hp1:(k:Int)<(m.code.length:Int):=by omega
 have HP:=zH hp1;clear hm ht hk hpk HG hk0;unfold insV
 generalize (ci m.code k).op=o at *
 generalize (ci m.code k).n=n at *
 generalize (ci m.code k).x=x at *
 go_enter Tryz.func136,Tryz.ntmps136
 go_wp2
 refine a34 9 (by kernel_rfl) ?_;simp only[List.take_succ_cons,List.take_zero,List.drop_succ_cons,List.drop_zero]
 repeat still_step
 refine wpStill_nil ?_
 go_wp2_with (go_at_call 148;refine(a45 (by first | rfl | exact zT hf) 80 _).mono ?_;rintro e w1 ⟨rfl,hw⟩;subst w1)
 refine a34 10 (by kernel_rfl) ?_;simp only[List.take_succ_cons,List.take_zero,List.drop_succ_cons,List.drop_zero]
 repeat still_step
 refine wpStill_nil ?_
 go_wp2_with (go_at_call 148;refine(a45 (by first | rfl | exact zT hp1) 50 _).mono ?_;rintro e w1 ⟨rfl,hw⟩;subst w1)
 go_region
 all_goals (try go_wp2)
 all_goals exact bodyPost_ret (results_cell_row rfl _ _ w.heap.size _ _ _ _ rfl ((heap_alloc_old _ _ (by simp)).trans (aa4 (by simp))) Tryz.underlying124 rfl (by kernel_rfl)) rfl ⟨rfl,((HD.out.alloc _).alloc _).same (Same.drewN _ 3)⟩
theorem Gm.num {W w:World} {b:Nat} {F0 K:List Nat} {m:Mac} (h:Gm W F0 b K w m):∃ bn Fn bc Fc,w.cell? ⟨b,20,none⟩=some (.pointer (some ⟨bn,0,none⟩))/\w.cell? ⟨b,21,none⟩=some (.pointer (some ⟨bc,0,none⟩))/\NStk w bn Fn m.st.reverse/\CStk w bc Fc m.calls.reverse:=by
 obtain⟨p,hm,_,_⟩:=h;exact⟨p.bn,p.Fn,p.bc,p.Fc,(hm.cell 20).trans rfl,(hm.cell 21).trans rfl,hm.num,hm.cal⟩
def a87 (w:World) (F:List Nat):Prop:=Shaped5 w/\1∉F
theorem a87.turn {w w':World} {F F':List Nat} (h:a87 w F) (t:Turn F F' w w'):a87 w' F':=by
 have hlt:1<w.heap.size:=zK w _ (h.1.shp 0 (by omega)).1;have hb:=t.block _ hlt h.2;refine⟨⟨fun k hk=>?_⟩,fun q=>(t.own _ q).elim h.2 (fun z=>absurd hlt (Nat.not_lt.2 z))⟩;obtain⟨c0,c1,c2,c3,c4,c5⟩:=h.1.shp k hk;exact⟨(World.cell?_of_block hb).trans c0,(World.cell?_of_block hb).trans c1,(World.cell?_of_block hb).trans c2,(World.cell?_of_block hb).trans c3,(World.cell?_of_block hb).trans c4,(World.cell?_of_block hb).trans c5⟩
end
section
variable {W w:World} {b:Nat} {F0 K:List Nat} {m:Mac}
theorem bo2:∀ k,k<21->0<=(shp k).takes/\(shp k).takes<=2/\0<=(shp k).lays/\(shp k).lays<=2:=by decide +kernel
structure FitAt (w:World) (b bn bc:Nat) (k:Nat) (n:Int) (x:Nat) (t l:Int) (st:List Nat) (calls:List Int):Prop where
 lt:b<w.heap.size
 bln:(st.length:Int)<=64
 blc:(calls.length:Int)<=16
 tl:0<=t/\t<=2/\0<=l/\l<=2
 eff:Calls Tryz.prog 154 #[.int .i64 k] (w.alloc (.cells #[.int .i64 k,.int .i64 n,.float .f64 x] 124)) fun e w1=>e=.returned (.tuple #[.int .i64 t,.int .i64 l,.int .i64 0])/\w1.cell? ⟨w.heap.size,0,none⟩=some (.int .i64 k)/\w1.cell? ⟨w.heap.size,1,none⟩=some (.int .i64 n)/\w1.cell? ⟨b,20,none⟩=some (.pointer (some ⟨bn,0,none⟩))/\w1.cell? ⟨b,21,none⟩=some (.pointer (some ⟨bc,0,none⟩))/\b<w1.heap.size/\w.heap.size<w1.heap.size /\
  Hid (Bl w w1/\∀ u,Same w1 u->(Calls Tryz.prog 155 #[.pointer (some ⟨bn,0,none⟩)] u fun e u'=>e=.returned (.int .i64 st.length)/\u'=u)/\(Calls Tryz.prog 156 #[.pointer (some ⟨bn,0,none⟩)] u fun e u'=>e=.returned (.int .i64 64)/\u'=u)/\(Calls Tryz.prog 157 #[.pointer (some ⟨bc,0,none⟩)] u fun e u'=>e=.returned (.int .i64 calls.length)/\u'=u)/\(Calls Tryz.prog 158 #[.pointer (some ⟨bc,0,none⟩)] u fun e u'=>e=.returned (.int .i64 16)/\u'=u))
theorem bE5 (h:Gm W F0 b K w m) (hT:Shaped5 w) {k:Nat} (n:Int) (x:Nat) (hk:1<=k/\k<21):∃ bn bc,FitAt w b bn bc k n x (shp k).takes (shp k).lays m.st m.calls:=by
 obtain⟨bn,Fn,bc,Fc,h20,h21,hs,hc⟩:=h.num;have hb:=h.ltB;have hfs:=hs.fits.1;rw[a32,List.length_reverse]at hfs;have hfc:=hc.fits.1;rw[a37,List.length_reverse]at hfc;refine⟨bn,bc,hb,hfs,hfc,bo2 k hk.2,?_⟩;have hbx:=zN w (.cells #[.int .i64 k,.int .i64 n,.float .f64 x] 124);refine(aM0 k _ (hT.on (below_alloc w _)) hk.2 hk.1).mono fun e w1 ⟨he,hsm⟩=>⟨he,?_⟩
 have hB:Bl w w1:=(below_alloc w _).trans (hsm.below _);have hx1:w1.heap[w.heap.size]?=_:=(by rw[hsm.heap]:w1.heap[w.heap.size]?=_).trans hbx;obtain⟨c0,c1,_,c3⟩:=aG4 hx1;refine⟨c0,c1,(hB.cell (p:=⟨b,20,none⟩) hb).trans h20,(hB.cell (p:=⟨b,21,none⟩) hb).trans h21,zL hb hB.size,c3,hB,fun u hu=>?_⟩;have a1:=(hs.on hB).same hu;have a2:=(hc.on hB).same hu;have l1:=be8 a1;have l2:=bg3 a2;rw[List.length_reverse]at l1 l2;exact⟨l1,b30 a1,l2,b49 a2⟩
theorem bK8 {bn bc:Nat} {n:Int} {x:Nat} {t l:Int} {st:List Nat} {calls:List Int} (h:FitAt w b bn bc 5 n x t l st calls) (hn:0<=n/\n<=63) (h1:n+1<=(st.length:Int)) (h2:(st.length:Int) - t+l<=64):Calls Tryz.prog 142 #[.pointer (some ⟨b,0,none⟩),.agg #[.int .i64 5,.int .i64 n,.float .f64 x]] w fun r w'=>r=.returned (.tuple #[])/\Bl w w':=by
 have HE:=zH h.eff;have hb:=h.lt;obtain⟨t0,t2,l0,l2⟩:=h.tl;have s0:=h.bln;have s1:=h.blc;clear h;go_enter Tryz.func142,Tryz.ntmps142
 go_wp2_with (first
  | (go_at_call 148;refine(a45 (by first | rfl | (simp;omega)) 82 _).mono ?_;rintro e u ⟨rfl,hu⟩;subst u)
  | (go_at_call 156;refine(HF.out.2 _ (Same.refl _)).2.1.mono ?_;rintro e u ⟨rfl,hu⟩;subst u)
  | (go_at_call 155;refine(HF.out.2 _ (Same.refl _)).1.mono ?_;rintro e u ⟨rfl,hu⟩;subst u)
  | (go_at_call 154;refine HE.out.mono ?_;rintro e w1 ⟨rfl,c0,c1,c2,c3,c4,c5,HF⟩;clear HE))
 obtain⟨z,hz,hz14⟩:∃ z:Int,((5:Nat):Int)=z/\¬ z=14:=⟨5,rfl,by decide⟩
 rw[hz]at c0;clear hz;refine a34 16 (by kernel_rfl) ?_;simp only[List.take_succ_cons,List.take_zero,List.drop_succ_cons,List.drop_zero]
 repeat (first | still_step | still_call (HF.out.2 _ (Same.drew _)).2.2.1 | still_call (HF.out.2 _ (Same.drew _)).2.2.2)
 refine wpStill_nil ?_
 go_wp2_with (go_at_call 148;refine(a45 (by first | rfl | (simp;omega)) 82 _).mono ?_;rintro e u ⟨rfl,hu⟩;subst u)
 go_end0
 exact⟨rfl,HF.out.1.trans ((Same.drewN _ 1).below _)⟩
theorem bE4 {bn bc:Nat} {n:Int} {x:Nat} {t l:Int} {st:List Nat} {calls:List Int} (h:FitAt w b bn bc 14 n x t l st calls) (h1:t<=(st.length:Int)) (h2:(st.length:Int) - t+l<=64) (h3:(calls.length:Int)<16):Calls Tryz.prog 142 #[.pointer (some ⟨b,0,none⟩),.agg #[.int .i64 14,.int .i64 n,.float .f64 x]] w fun r w'=>r=.returned (.tuple #[])/\Bl w w':=by
 have HE:=zH h.eff;have hb:=h.lt;obtain⟨t0,t2,l0,l2⟩:=h.tl;have s0:=h.bln;have s1:=h.blc;clear h;go_enter Tryz.func142,Tryz.ntmps142
 go_wp2_with (first
  | (go_at_call 148;refine(a45 (by first | rfl | (simp;omega)) 82 _).mono ?_;rintro e u ⟨rfl,hu⟩;subst u)
  | (go_at_call 156;refine(HF.out.2 _ (Same.refl _)).2.1.mono ?_;rintro e u ⟨rfl,hu⟩;subst u)
  | (go_at_call 155;refine(HF.out.2 _ (Same.refl _)).1.mono ?_;rintro e u ⟨rfl,hu⟩;subst u)
  | (go_at_call 154;refine HE.out.mono ?_;rintro e w1 ⟨rfl,c0,c1,c2,c3,c4,c5,HF⟩;clear HE))
 refine a34 16 (by kernel_rfl) ?_;simp only[List.take_succ_cons,List.take_zero,List.drop_succ_cons,List.drop_zero]
 repeat (first | still_step | still_call (HF.out.2 _ (Same.drew _)).2.2.1 | still_call (HF.out.2 _ (Same.drew _)).2.2.2)
 refine wpStill_nil ?_
 go_wp2_with (go_at_call 148;refine(a45 (by first | rfl | (simp;omega)) 82 _).mono ?_;rintro e u ⟨rfl,hu⟩;subst u)
 go_end0
 exact⟨rfl,HF.out.1.trans ((Same.drewN _ 1).below _)⟩
theorem bK9 {bn bc:Nat} {n:Int} {x:Nat} {t l:Int} {st:List Nat} {calls:List Int} {k:Nat} (h:FitAt w b bn bc k n x t l st calls) (k5:¬ (k:Int)=5) (k14:¬ (k:Int)=14) (h1:t<=(st.length:Int)) (h2:(st.length:Int) - t+l<=64):Calls Tryz.prog 142 #[.pointer (some ⟨b,0,none⟩),.agg #[.int .i64 (k:Int),.int .i64 n,.float .f64 x]] w fun r w'=>r=.returned (.tuple #[])/\Bl w w':=by
 have HE:=zH h.eff;have hb:=h.lt;obtain⟨t0,t2,l0,l2⟩:=h.tl;have s0:=h.bln;have s1:=h.blc;clear h;go_enter Tryz.func142,Tryz.ntmps142
 go_wp2_with (first
  | (go_at_call 148;refine(a45 (by first | rfl | (simp;omega)) 82 _).mono ?_;rintro e u ⟨rfl,hu⟩;subst u)
  | (go_at_call 156;refine(HF.out.2 _ (Same.refl _)).2.1.mono ?_;rintro e u ⟨rfl,hu⟩;subst u)
  | (go_at_call 155;refine(HF.out.2 _ (Same.refl _)).1.mono ?_;rintro e u ⟨rfl,hu⟩;subst u)
  | (go_at_call 154;refine HE.out.mono ?_;rintro e w1 ⟨rfl,c0,c1,c2,c3,c4,c5,HF⟩;clear HE))
 refine a34 16 (by kernel_rfl) ?_;simp only[List.take_succ_cons,List.take_zero,List.drop_succ_cons,List.drop_zero]
 repeat (first | still_step | still_call (HF.out.2 _ (Same.drew _)).2.2.1 | still_call (HF.out.2 _ (Same.drew _)).2.2.2)
 refine wpStill_nil ?_
 go_wp2_with (go_at_call 148;refine(a45 (by first | rfl | (simp;omega)) 82 _).mono ?_;rintro e u ⟨rfl,hu⟩;subst u)
 go_end0
 exact⟨rfl,HF.out.1.trans ((Same.drewN _ 1).below _)⟩
theorem be9 {bn bc:Nat} {n:Int} {x:Nat} {t l:Int} {st:List Nat} {calls:List Int} (h:FitAt w b bn bc 14 n x t l st calls) (h1:t<=(st.length:Int)) (h2:(st.length:Int) - t+l<=64) (h3:¬ (calls.length:Int)<16):Calls Tryz.prog 142 #[.pointer (some ⟨b,0,none⟩),.agg #[.int .i64 14,.int .i64 n,.float .f64 x]] w fun r w'=>r=ad0 82/\Bl w w':=by
 have HE:=zH h.eff;have hb:=h.lt;obtain⟨t0,t2,l0,l2⟩:=h.tl;have s0:=h.bln;have s1:=h.blc;clear h;go_enter Tryz.func142,Tryz.ntmps142
 go_wp2_with (first
  | (go_at_call 148;refine(a45 (by first | rfl | (simp;omega)) 82 _).mono ?_;rintro e u ⟨rfl,hu⟩;subst u)
  | (go_at_call 156;refine(HF.out.2 _ (Same.refl _)).2.1.mono ?_;rintro e u ⟨rfl,hu⟩;subst u)
  | (go_at_call 155;refine(HF.out.2 _ (Same.refl _)).1.mono ?_;rintro e u ⟨rfl,hu⟩;subst u)
  | (go_at_call 154;refine HE.out.mono ?_;rintro e w1 ⟨rfl,c0,c1,c2,c3,c4,c5,HF⟩;clear HE))
 refine a34 16 (by kernel_rfl) ?_;simp only[List.take_succ_cons,List.take_zero,List.drop_succ_cons,List.drop_zero]
 repeat (first | still_step | still_call (HF.out.2 _ (Same.drew _)).2.2.1 | still_call (HF.out.2 _ (Same.drew _)).2.2.2)
 refine wpStill_nil ?_
 go_wp2_with (go_at_call 148;refine(a80 (by first | (simp;done) | rfl | (simp;omega)) 82 _).mono ?_;rintro e u ⟨rfl,hu⟩;subst u)
 exact⟨rfl,rfl,HF.out.1.trans ((Same.drewN _ 1).below _)⟩
theorem bu4 {bn bc:Nat} {n:Int} {x:Nat} {t l:Int} {st:List Nat} {calls:List Int} (h:FitAt w b bn bc 5 n x t l st calls) (hn:0<=n/\n<=63) (h1:¬ n+1<=(st.length:Int)):Calls Tryz.prog 142 #[.pointer (some ⟨b,0,none⟩),.agg #[.int .i64 5,.int .i64 n,.float .f64 x]] w fun r w'=>r=ad0 82/\Bl w w':=by
 have HE:=zH h.eff;have hb:=h.lt;obtain⟨t0,t2,l0,l2⟩:=h.tl;have s0:=h.bln;have s1:=h.blc;clear h;go_enter Tryz.func142,Tryz.ntmps142
 go_wp2_with (first
  | (go_at_call 148;refine(a80 (by first | (simp;done) | rfl | (simp;omega)) 82 _).mono ?_;rintro e u ⟨rfl,hu⟩;subst u)
  | (go_at_call 156;refine(HF.out.2 _ (Same.refl _)).2.1.mono ?_;rintro e u ⟨rfl,hu⟩;subst u)
  | (go_at_call 155;refine(HF.out.2 _ (Same.refl _)).1.mono ?_;rintro e u ⟨rfl,hu⟩;subst u)
  | (go_at_call 154;refine HE.out.mono ?_;rintro e w1 ⟨rfl,c0,c1,c2,c3,c4,c5,HF⟩;clear HE))
 exact⟨rfl,rfl,HF.out.1⟩
theorem bf0 {bn bc:Nat} {n:Int} {x:Nat} {t l:Int} {st:List Nat} {calls:List Int} (h:FitAt w b bn bc 5 n x t l st calls) (hn:0<=n/\n<=63) (h1:n+1<=(st.length:Int)) (h2:¬ (st.length:Int) - t+l<=64):Calls Tryz.prog 142 #[.pointer (some ⟨b,0,none⟩),.agg #[.int .i64 5,.int .i64 n,.float .f64 x]] w fun r w'=>r=ad0 82/\Bl w w':=by
 have HE:=zH h.eff;have hb:=h.lt;obtain⟨t0,t2,l0,l2⟩:=h.tl;have s0:=h.bln;have s1:=h.blc;clear h;go_enter Tryz.func142,Tryz.ntmps142
 go_wp2_with (first
  | (go_at_call 148;refine(a80 (by first | (simp;done) | rfl | (simp;omega)) 82 _).mono ?_;rintro e u ⟨rfl,hu⟩;subst u)
  | (go_at_call 156;refine(HF.out.2 _ (Same.refl _)).2.1.mono ?_;rintro e u ⟨rfl,hu⟩;subst u)
  | (go_at_call 155;refine(HF.out.2 _ (Same.refl _)).1.mono ?_;rintro e u ⟨rfl,hu⟩;subst u)
  | (go_at_call 154;refine HE.out.mono ?_;rintro e w1 ⟨rfl,c0,c1,c2,c3,c4,c5,HF⟩;clear HE))
 exact⟨rfl,rfl,HF.out.1⟩
theorem bu5 {bn bc:Nat} {n:Int} {x:Nat} {t l:Int} {st:List Nat} {calls:List Int} {k:Nat} (h:FitAt w b bn bc k n x t l st calls) (k5:¬ (k:Int)=5) (h1:¬ t<=(st.length:Int)):Calls Tryz.prog 142 #[.pointer (some ⟨b,0,none⟩),.agg #[.int .i64 (k:Int),.int .i64 n,.float .f64 x]] w fun r w'=>r=ad0 82/\Bl w w':=by
 have HE:=zH h.eff;have hb:=h.lt;obtain⟨t0,t2,l0,l2⟩:=h.tl;have s0:=h.bln;have s1:=h.blc;clear h;go_enter Tryz.func142,Tryz.ntmps142
 go_wp2_with (first
  | (go_at_call 148;refine(a80 (by first | (simp;done) | rfl | (simp;omega)) 82 _).mono ?_;rintro e u ⟨rfl,hu⟩;subst u)
  | (go_at_call 156;refine(HF.out.2 _ (Same.refl _)).2.1.mono ?_;rintro e u ⟨rfl,hu⟩;subst u)
  | (go_at_call 155;refine(HF.out.2 _ (Same.refl _)).1.mono ?_;rintro e u ⟨rfl,hu⟩;subst u)
  | (go_at_call 154;refine HE.out.mono ?_;rintro e w1 ⟨rfl,c0,c1,c2,c3,c4,c5,HF⟩;clear HE))
 exact⟨rfl,rfl,HF.out.1⟩
theorem bf1 {bn bc:Nat} {n:Int} {x:Nat} {t l:Int} {st:List Nat} {calls:List Int} {k:Nat} (h:FitAt w b bn bc k n x t l st calls) (k5:¬ (k:Int)=5) (h1:t<=(st.length:Int)) (h2:¬ (st.length:Int) - t+l<=64):Calls Tryz.prog 142 #[.pointer (some ⟨b,0,none⟩),.agg #[.int .i64 (k:Int),.int .i64 n,.float .f64 x]] w fun r w'=>r=ad0 82/\Bl w w':=by
 have HE:=zH h.eff;have hb:=h.lt;obtain⟨t0,t2,l0,l2⟩:=h.tl;have s0:=h.bln;have s1:=h.blc;clear h;go_enter Tryz.func142,Tryz.ntmps142
 go_wp2_with (first
  | (go_at_call 148;refine(a80 (by first | (simp;done) | rfl | (simp;omega)) 82 _).mono ?_;rintro e u ⟨rfl,hu⟩;subst u)
  | (go_at_call 156;refine(HF.out.2 _ (Same.refl _)).2.1.mono ?_;rintro e u ⟨rfl,hu⟩;subst u)
  | (go_at_call 155;refine(HF.out.2 _ (Same.refl _)).1.mono ?_;rintro e u ⟨rfl,hu⟩;subst u)
  | (go_at_call 154;refine HE.out.mono ?_;rintro e w1 ⟨rfl,c0,c1,c2,c3,c4,c5,HF⟩;clear HE))
 exact⟨rfl,rfl,HF.out.1⟩
end
attribute [local go_sem] a00
abbrev insO (i:Ins):Obj:=.cells #[.int .i64 i.op,.int .i64 i.n,.float .f64 i.x] 124
section
variable {W w:World} {b:Nat} {F0 K:List Nat} {m:Mac}
theorem b31 (h:Gm W F0 b K w m) (hT:Shaped5 w) {k:Nat} {n:Int} {x:Nat} (hk:1<=k/\k<21) (hn:k=5->0<=n/\n<=63):Calls Tryz.prog 142 #[.pointer (some ⟨b,0,none⟩),.agg #[.int .i64 k,.int .i64 n,.float .f64 x]] w fun r w'=>r=(if as2 m ⟨k,n,x⟩ then .returned (.tuple #[]) else ad0 82)/\Bl w w':=by
 obtain⟨bn,bc,hf⟩:=bE5 h hT n x hk;have hrb:as2 m ⟨k,n,x⟩=(decide ((if k=5 then n+1 else (shp k).takes)<=(m.st.length:Int)) && decide ((m.st.length:Int) - (shp k).takes+(shp k).lays<=64) && !(decide (k=14) && decide (16<=m.calls.length))):=by
  unfold as2 b59 aT1 bv4;have e1:((k:Int)=5)=(k=5):=by apply propext;omega
  have e2:((k:Int)=14)=(k=14):=by apply propext;omega
  simp only[Int.toNat_natCast,e1,e2]
 by_cases h5:k=5
 ·subst h5
  have hn:=hn rfl
  by_cases h1:n+1<=(m.st.length:Int)
  ·by_cases h2:(m.st.length:Int) - (shp 5).takes+(shp 5).lays<=64
   ·rw[hrb,if_pos (by simp[h1,h2])]
    exact bK8 hf hn h1 h2
   ·rw[hrb,if_neg (by simp[h2])]
    exact bf0 hf hn h1 h2
  ·rw[hrb,if_neg (by simp;omega)]
   exact bu4 hf hn h1
 ·have h5':¬ (k:Int)=5:=by omega
  by_cases h1:(shp k).takes<=(m.st.length:Int)
  ·by_cases h2:(m.st.length:Int) - (shp k).takes+(shp k).lays<=64
   ·by_cases h14:k=14
    ·subst h14
     by_cases h3:(m.calls.length:Int)<16
     ·rw[hrb,if_pos (by simp[h1,h2];omega)]
      exact bE4 hf h1 h2 h3
     ·rw[hrb,if_neg (by simp[h1,h2];omega)]
      exact be9 hf h1 h2 h3
    ·rw[hrb,if_pos (by simp[h1,h2,h5,h14])]
     exact bK9 hf h5' (by omega) h1 h2
   ·rw[hrb,if_neg (by simp[h2])]
    exact bf1 hf h5' h1 h2
  ·rw[hrb,if_neg (by simp[h5,h1])]
   exact bu5 hf h5' h1
theorem Gm.enter (h:Gm W F0 b K w m) (o:Obj):∃ F,Gm (w.alloc o) F b K (w.alloc o) m/\∀ w' m',Gm (w.alloc o) F b K w' m'->w'.heap[w.heap.size]?=some o/\w.heap.size<w'.heap.size/\b<w'.heap.size/\Gm W F0 b K w' m':=by
 obtain⟨F,hM,hT⟩:=h.mc;refine⟨F,(hM.on (below_alloc w o)).gm,fun w' m' hg=>?_⟩;have hb:w'.heap[w.heap.size]?=some o:=(hg.far (by simp) (fun q=>absurd (hM.blw _ q) (Nat.lt_irrefl _))).trans (zN w o);refine⟨hb,?_,hg.ltB,hg.trans (hT.trans (Below.turn (below_alloc w o) F))⟩
 rcases Nat.lt_or_ge w.heap.size w'.heap.size with q | q
 ·exact q
 ·rw[Array.getElem?_eq_none q]at hb
  cases hb
theorem Gm.drewN (h:Gm W F0 b K w m) (n:Nat):Gm W F0 b K (w.drewN n) m:=h.same (Same.drewN w n)
theorem a30 {w:World} {g:Nat} {i:Ins} (h:w.heap[g]?=some (insO i)):w.cell? ⟨g,0,none⟩=some (.int .i64 i.op)/\w.cell? ⟨g,1,none⟩=some (.int .i64 i.n)/\w.cell? ⟨g,2,none⟩=some (.float .f64 i.x)/\g<w.heap.size:=aG4 h
theorem au4 (h:Gm W F0 b K w m) (hs:0<m.st.length):Calls Tryz.prog 159 #[.pointer (some ⟨b,0,none⟩)] w fun r w'=>r=(if ae6 m then .returned (.int .i64 (addrV m)) else ad0 50)/\Same w w':=by
 obtain⟨p,hm,_,_⟩:=id h;have h0:w.cell? ⟨b,0,none⟩=some (.int .i64 m.cells):=(hm.cell 0).trans rfl;have hb:=hm.ltB;clear hm;have HP:Hid (∀ n,Calls Tryz.prog 162 #[.pointer (some ⟨b,0,none⟩),.int .i64 0] (w.drewN n) fun e w'=>e=.returned (.float .f64 (m.st.getD 0 0))/\∃ q,w'=w.drewN q):=fun n=>(ao2 (h.drewN n) 0 hs).mono fun e w' ⟨he,q,hq⟩=>⟨he,n+q,by rw[hq,World.drewN_drewN]⟩
 unfold ae6 addrV;have HI:=zH (fun w=>b51 (m.st.getD 0 0) m.cells w);unfold idxV idxE at *;clear h
 generalize m.st.getD 0 0=y at *
 generalize m.cells=z at *
 cases hx:idxB y z
 ·rw[hx]at HI
  go_enter Tryz.func159,Tryz.ntmps159
  go_wp2
  go_quiet (first
   | (go_at_call 162;exact HP.out _)
   | (go_at_call 179;exact Calls.quiet_of_same (HI.out _)))
  go_wp2_with (go_at_call 148;refine(a80 (by first | (simp;done) | rfl) 50 _).mono ?_;rintro e u ⟨rfl,hu⟩;subst u)
  exact⟨rfl,rfl,Same.drewN _ _⟩
 ·rw[hx]at HI
  go_enter Tryz.func159,Tryz.ntmps159
  go_wp2
  go_quiet (first
   | (go_at_call 162;exact HP.out _)
   | (go_at_call 179;exact Calls.quiet_of_same (HI.out _)))
  go_wp2_with (go_at_call 148;refine(a45 (by first | rfl | (simp;done)) 50 _).mono ?_;rintro e u ⟨rfl,hu⟩;subst u)
  go_ret;exact⟨rfl,Same.drewN _ _⟩
end
attribute [local go_sem] a00
theorem bx2 {op:Int} (hop:1<=op/\op<=8) {y:Nat} (hy:okN y) (w:World):Calls Tryz.prog 167 #[.int .i64 op,.float .f64 y] w fun e w'=>e=.returned (.tuple #[.float .f64 (oneV op y),.int .i64 0])/\Bl w w':=by
 obtain⟨k,rfl⟩:∃ k:Nat,op=k:=⟨op.toNat,by omega⟩
 unfold oneV;rw[Int.toNat_natCast]
 match k,hop with
 | 1,_=>simpa only[List.getD_cons_succ,List.getD_cons_zero,Int.cast_ofNat_Int,Grw]using bM4 y w hy.2
 | 2,_=>simpa only[List.getD_cons_succ,List.getD_cons_zero,Int.cast_ofNat_Int,Grw]using bM5 y w hy.2
 | 3,_=>simpa only[List.getD_cons_succ,List.getD_cons_zero,Int.cast_ofNat_Int,Grw]using bM6 y w hy.2
 | 4,_=>simpa only[List.getD_cons_succ,List.getD_cons_zero,Int.cast_ofNat_Int,Grw]using bM7 y w hy.2
 | 5,_=>simpa only[List.getD_cons_succ,List.getD_cons_zero,Int.cast_ofNat_Int,Grw]using bM8 y w hy.2
 | 6,_=>simpa only[List.getD_cons_succ,List.getD_cons_zero,Int.cast_ofNat_Int,Grw]using bM9 y w hy.2
 | 7,_=>simpa only[List.getD_cons_succ,List.getD_cons_zero,Int.cast_ofNat_Int,Grw]using bN0 y w hy.2
 | 8,_=>simpa only[List.getD_cons_succ,List.getD_cons_zero,Int.cast_ofNat_Int,Grw]using bN1 y w hy.2
 | 0,h=>exact absurd h.1 (by decide)
 | n+9,h=>exact absurd h.2 (by omega)
theorem bB1 {op:Int} (hop:1<=op/\op<=12) {y z:Nat} (hy:okN y) (hz:okN z) (w:World):Calls Tryz.prog 168 #[.int .i64 op,.float .f64 y,.float .f64 z] w fun e w'=>e=.returned (.tuple #[.float .f64 (twoV op y z),.int .i64 0])/\Bl w w':=by
 obtain⟨k,rfl⟩:∃ k:Nat,op=k:=⟨op.toNat,by omega⟩
 unfold twoV;rw[Int.toNat_natCast]
 match k,hop with
 | 1,_=>simpa only[List.getD_cons_succ,List.getD_cons_zero,Int.cast_ofNat_Int,Grw]using bN9 y z w hy.2 hz.2
 | 2,_=>simpa only[List.getD_cons_succ,List.getD_cons_zero,Int.cast_ofNat_Int,Grw]using bO0 y z w hy.2 hz.2
 | 3,_=>simpa only[List.getD_cons_succ,List.getD_cons_zero,Int.cast_ofNat_Int,Grw]using bO1 y z w hy.2 hz.2
 | 4,_=>simpa only[List.getD_cons_succ,List.getD_cons_zero,Int.cast_ofNat_Int,Grw]using bO2 y z w hy.2 hz.2
 | 5,_=>simpa only[List.getD_cons_succ,List.getD_cons_zero,Int.cast_ofNat_Int,Grw]using bO3 y z w hy.2 hz.2
 | 6,_=>simpa only[List.getD_cons_succ,List.getD_cons_zero,Int.cast_ofNat_Int,Grw]using bO4 y z w hy.2 hz.2
 | 7,_=>simpa only[List.getD_cons_succ,List.getD_cons_zero,Int.cast_ofNat_Int,Grw]using bO5 y z w hy.2 hz.2
 | 8,_=>simpa only[List.getD_cons_succ,List.getD_cons_zero,Int.cast_ofNat_Int,Grw]using bO6 y z w hy.2 hz.2
 | 9,_=>simpa only[List.getD_cons_succ,List.getD_cons_zero,Int.cast_ofNat_Int,Grw]using bO7 y z w hy.2 hz.2
 | 10,_=>simpa only[List.getD_cons_succ,List.getD_cons_zero,Int.cast_ofNat_Int,Grw]using bH6 y z w hy.2 hz.2
 | 11,_=>simpa only[List.getD_cons_succ,List.getD_cons_zero,Int.cast_ofNat_Int,Grw]using bH7 y z w hy.2 hz.2
 | 12,_=>simpa only[List.getD_cons_succ,List.getD_cons_zero,Int.cast_ofNat_Int,Grw]using bH8 y z w hy.2 hz.2
 | 0,h=>exact absurd h.1 (by decide)
 | n+13,h=>exact absurd h.2 (by omega)
section
variable {W w:World} {b:Nat} {F0 K:List Nat} {m:Mac}
theorem bk5 (h:Gm W F0 b K w m) (n:Int) (x:Nat) (hs:m.st.length<64):Calls Tryz.prog 147 #[.pointer (some ⟨b,0,none⟩),.agg #[.int .i64 1,.int .i64 n,.float .f64 x]] w fun r w'=>r=.returned (.tuple #[])/\Gm W F0 b K w' { m with st:=fixB x::m.st }:=by
 obtain⟨F,h1,hX⟩:=h.enter (insO ⟨1,n,x⟩);have HG:=zH h1;have HX:=zH hX;have HS:=zH hs;clear h h1 hX hs;go_enter Tryz.func147,Tryz.ntmps147
 go_wp2_with (first | (go_at_call 149;refine(ae3 HG.out _ HS.out).mono ?_;rintro e u_G1 ⟨rfl,q⟩;have G1:=zH q;clear q) | (go_at_call 75;refine(ae2 _ _).mono ?_;rintro e u ⟨rfl,hu⟩;subst u))
 go_end0
 exact⟨rfl,(HX.out _ _ G1.out).2.2.2⟩
theorem bk6 (h:Gm W F0 b K w m) (n:Int) (x:Nat) {y:Nat} {s:List Nat} (hs:m.st=y::s):Calls Tryz.prog 147 #[.pointer (some ⟨b,0,none⟩),.agg #[.int .i64 2,.int .i64 n,.float .f64 x]] w fun r w'=>r=.returned (.tuple #[])/\Gm W F0 b K w' { m with st:=s }:=by
 obtain⟨F,h1,hX⟩:=h.enter (insO ⟨2,n,x⟩);have HG:=zH h1;have HX:=zH hX;have HS:=zH hs;clear h h1 hX hs;go_enter Tryz.func147,Tryz.ntmps147
 go_wp2_with (go_at_call 160;refine(a66 HG.out HS.out).mono ?_;rintro e u_G1 ⟨rfl,q⟩;have G1:=zH q;clear q)
 go_end0
 exact⟨rfl,(HX.out _ _ G1.out).2.2.2⟩
theorem bk7 (h:Gm W F0 b K w m) (n:Int) (x:Nat) (h0:0<m.st.length) (hs:m.st.length<64):Calls Tryz.prog 147 #[.pointer (some ⟨b,0,none⟩),.agg #[.int .i64 3,.int .i64 n,.float .f64 x]] w fun r w'=>r=.returned (.tuple #[])/\Gm W F0 b K w' { m with st:=m.st.getD 0 0::m.st }:=by
 obtain⟨F,h1,hX⟩:=h.enter (insO ⟨3,n,x⟩);have HG:=zH h1;have HX:=zH hX;have HS:=zH (And.intro h0 hs);clear h h1 hX hs h0;go_enter Tryz.func147,Tryz.ntmps147
 go_wp2_with (first | (go_at_call 149;refine(ae3 (HG.out.drewN _) _ HS.out.2).mono ?_;rintro e u_G1 ⟨rfl,q⟩;have G1:=zH q;clear q) | (go_at_call 162;refine(ao2 HG.out 0 HS.out.1).mono ?_;rintro e u ⟨rfl,q,hq⟩;subst u))
 go_end0
 exact⟨rfl,(HX.out _ _ G1.out).2.2.2⟩
theorem bk8 (h:Gm W F0 b K w m) (n:Int) (x:Nat) {y z:Nat} {s:List Nat} (hs:m.st=y::z::s) (hl:s.length+2<=64):Calls Tryz.prog 147 #[.pointer (some ⟨b,0,none⟩),.agg #[.int .i64 4,.int .i64 n,.float .f64 x]] w fun r w'=>r=.returned (.tuple #[])/\Gm W F0 b K w' { m with st:=z::y::s }:=by
 obtain⟨F,h1,hX⟩:=h.enter (insO ⟨4,n,x⟩);have HG:=zH h1;have HX:=zH hX;have HS:=zH hs;have HL:=zH hl;clear h h1 hX hs hl;go_enter Tryz.func147,Tryz.ntmps147
 go_wp2_with (first
  | (go_at_call 149;refine(ae3 G3.out _ (by have:=HL.out;simp;omega)).mono ?_;rintro e u_G4 ⟨rfl,q⟩;have G4:=zH q;clear q)
  | (go_at_call 149;refine(ae3 G2.out _ (by have:=HL.out;simp;omega)).mono ?_;rintro e u_G3 ⟨rfl,q⟩;have G3:=zH q;clear q)
  | (go_at_call 160;refine(a66 G1.out rfl).mono ?_;rintro e u_G2 ⟨rfl,q⟩;have G2:=zH q;clear q)
  | (go_at_call 160;refine(a66 HG.out HS.out).mono ?_;rintro e u_G1 ⟨rfl,q⟩;have G1:=zH q;clear q))
 go_end0
 exact⟨rfl,(HX.out _ _ G4.out).2.2.2⟩
theorem bk9 (h:Gm W F0 b K w m) (n:Int) (x:Nat) {k:Nat} (hn:n=(k:Int)) (h0:k<m.st.length) (hs:m.st.length<64):Calls Tryz.prog 147 #[.pointer (some ⟨b,0,none⟩),.agg #[.int .i64 5,.int .i64 n,.float .f64 x]] w fun r w'=>r=.returned (.tuple #[])/\Gm W F0 b K w' { m with st:=m.st.getD k 0::m.st }:=by
 obtain⟨F,h1,hX⟩:=h.enter (insO ⟨5,n,x⟩);have HG:=zH h1;have HX:=zH hX;subst hn;have HS:=zH (And.intro h0 hs);clear h h1 hX hs h0;go_enter Tryz.func147,Tryz.ntmps147
 go_wp2_with (first | (go_at_call 149;refine(ae3 (HG.out.drewN _) _ HS.out.2).mono ?_;rintro e u_G1 ⟨rfl,q⟩;have G1:=zH q;clear q) | (go_at_call 162;refine(ao2 HG.out k HS.out.1).mono ?_;rintro e u ⟨rfl,q,hq⟩;subst u))
 go_end0
 exact⟨rfl,(HX.out _ _ G1.out).2.2.2⟩
theorem aZ8 (h:Gm W F0 b K w m) {k:Nat} (hk:k<8):w.cell? ⟨b,4+k,none⟩=some (.float .f64 (m.args k)):=by
 obtain⟨p,hm,_,_⟩:=h
 match k,hk with
 | 0,_=>exact(hm.cell 4).trans rfl
 | 1,_=>exact(hm.cell 5).trans rfl
 | 2,_=>exact(hm.cell 6).trans rfl
 | 3,_=>exact(hm.cell 7).trans rfl
 | 4,_=>exact(hm.cell 8).trans rfl
 | 5,_=>exact(hm.cell 9).trans rfl
 | 6,_=>exact(hm.cell 10).trans rfl
 | 7,_=>exact(hm.cell 11).trans rfl
theorem bq7 (h:Gm W F0 b K w m) {k:Nat} (hk:k<8):w.cell? ⟨b,12+k,none⟩=some (.float .f64 (m.loc k)):=by
 obtain⟨p,hm,_,_⟩:=h
 match k,hk with
 | 0,_=>exact(hm.cell 12).trans rfl
 | 1,_=>exact(hm.cell 13).trans rfl
 | 2,_=>exact(hm.cell 14).trans rfl
 | 3,_=>exact(hm.cell 15).trans rfl
 | 4,_=>exact(hm.cell 16).trans rfl
 | 5,_=>exact(hm.cell 17).trans rfl
 | 6,_=>exact(hm.cell 18).trans rfl
 | 7,_=>exact(hm.cell 19).trans rfl
theorem bv5 (h:Gm W F0 b K w m) {k:Nat} (hk:k<8) (y:Nat):Gm W F0 b K (w.setCell ⟨b,12+k,none⟩ (.float .f64 y)) { m with loc:=updF m.loc k y }:=by
 refine h.set (12+k) _ _ (fun p hp=>⟨p.wt,?_,hp⟩) ⟨rfl,rfl,rfl,rfl,rfl,rfl,rfl⟩
 match k,hk with
 | 0,_=>rfl
 | 1,_=>rfl
 | 2,_=>rfl
 | 3,_=>rfl
 | 4,_=>rfl
 | 5,_=>rfl
 | 6,_=>rfl
 | 7,_=>rfl
theorem bl0 (h:Gm W F0 b K w m) (n:Int) (x:Nat) {k:Nat} (hn:n=(k:Int)) (h0:k<8) (hs:m.st.length<64):Calls Tryz.prog 147 #[.pointer (some ⟨b,0,none⟩),.agg #[.int .i64 6,.int .i64 n,.float .f64 x]] w fun r w'=>r=.returned (.tuple #[])/\Gm W F0 b K w' { m with st:=m.args k::m.st }:=by
 obtain⟨F,h1,hX⟩:=h.enter (insO ⟨6,n,x⟩);have HG:=zH h1;have HX:=zH hX;subst hn;have HS:=zH hs;have hb:=h.ltB;have hk8:(k:Int)<8:=by omega
 have hc:w.cell? ⟨b,4+k,none⟩=some (.float .f64 (m.args k)):=aZ8 h h0;clear h h1 hX hs h0;go_enter Tryz.func147,Tryz.ntmps147
 go_wp2
 refine a34 8 (by kernel_rfl) ?_;simp only[List.take_succ_cons,List.take_zero,List.drop_succ_cons,List.drop_zero]
 repeat still_step
 refine wpStill_nil ?_
 go_wp2_with (go_at_call 149;refine(ae3 (HG.out.drewN 1) _ HS.out).mono ?_;rintro e u_G1 ⟨rfl,q⟩;have G1:=zH q;clear q)
 go_end0
 exact⟨rfl,(HX.out _ _ G1.out).2.2.2⟩
theorem bl1 (h:Gm W F0 b K w m) (n:Int) (x:Nat) {k:Nat} (hn:n=(k:Int)) (h0:k<8) (hs:m.st.length<64):Calls Tryz.prog 147 #[.pointer (some ⟨b,0,none⟩),.agg #[.int .i64 7,.int .i64 n,.float .f64 x]] w fun r w'=>r=.returned (.tuple #[])/\Gm W F0 b K w' { m with st:=m.loc k::m.st }:=by
 obtain⟨F,h1,hX⟩:=h.enter (insO ⟨7,n,x⟩);have HG:=zH h1;have HX:=zH hX;subst hn;have HS:=zH hs;have hb:=h.ltB;have hk8:(k:Int)<8:=by omega
 have hc:w.cell? ⟨b,12+k,none⟩=some (.float .f64 (m.loc k)):=bq7 h h0;clear h h1 hX hs h0;go_enter Tryz.func147,Tryz.ntmps147
 go_wp2
 refine a34 8 (by kernel_rfl) ?_;simp only[List.take_succ_cons,List.take_zero,List.drop_succ_cons,List.drop_zero]
 repeat still_step
 refine wpStill_nil ?_
 go_wp2_with (go_at_call 149;refine(ae3 (HG.out.drewN 1) _ HS.out).mono ?_;rintro e u_G1 ⟨rfl,q⟩;have G1:=zH q;clear q)
 go_end0
 exact⟨rfl,(HX.out _ _ G1.out).2.2.2⟩
end
attribute [local go_sem] a00
section
variable {W w:World} {b:Nat} {F0 K:List Nat} {m:Mac}
theorem bw1 (h:Gm W F0 b K w m) (n:Int) (x:Nat) :Calls Tryz.prog 146 #[.pointer (some ⟨b,0,none⟩),.agg #[.int .i64 11,.int .i64 n,.float .f64 x]] w fun r w'=>r=.returned (.tuple #[])/\Gm W F0 b K w' { m with place:=n }:=by
 have hb:=h.ltB;have h22:w.cell? ⟨b,22,none⟩=some (.int .i64 m.place):=by obtain⟨p,hm,_,_⟩:=h;exact(hm.cell 22).trans rfl
 have f22:=h.free 22;have HD:=zH (h.set 22 (.int .i64 n) { m with place:=n } (fun p hp=>⟨p.wt,rfl,hp⟩) ⟨rfl,rfl,rfl,rfl,rfl,rfl,rfl⟩);clear h;go_enter Tryz.func146,Tryz.ntmps146
 go_wp2
 go_end0
 exact⟨rfl,HD.out.alloc _⟩
theorem ag7 (h:Gm W F0 b K w m):w.cell? ⟨b,22,none⟩=some (.int .i64 m.place):=by
 obtain⟨p,hm,_,_⟩:=h;exact(hm.cell 22).trans rfl
theorem ao3 (h:Gm W F0 b K w m) (n:Int):Gm W F0 b K (w.setCell ⟨b,22,none⟩ (.int .i64 n)) { m with place:=n } :=
 h.set 22 (.int .i64 n) { m with place:=n } (fun p hp=>⟨p.wt,rfl,hp⟩) ⟨rfl,rfl,rfl,rfl,rfl,rfl,rfl⟩
theorem bi1 (h:Gm W F0 b K w m) (n:Int) (x:Nat) {y:Nat} {s:List Nat} (hs:m.st=y::s) (ht:a95 y=true):Calls Tryz.prog 146 #[.pointer (some ⟨b,0,none⟩),.agg #[.int .i64 12,.int .i64 n,.float .f64 x]] w fun r w'=>r=.returned (.tuple #[])/\Gm W F0 b K w' { m with place:=n,st:=s }:=by
 obtain⟨F,h1,hX⟩:=h.enter (insO ⟨12,n,x⟩);have HG:=zH h1;have HX:=zH hX;have HS:=zH hs;have HT:Hid (∀ w,_):=fun w=>ap2 y w
 rw[ht]at HT;clear h h1 hX hs ht;go_enter Tryz.func146,Tryz.ntmps146
 go_wp2_with (first
  | (go_at_call 165;refine(HT.out _).mono ?_;rintro e u ⟨rfl,hu⟩;subst u)
  | (go_at_call 160;refine(a66 HG.out HS.out).mono ?_;rintro e u1 ⟨rfl,q⟩;obtain⟨r1,r2,r3,r4⟩:=HX.out _ _ q;obtain⟨c0,c1,c2,c3⟩:=a30 r1;have d0:=ag7 q;have d1:=q.free 22;have d2:=q.ltB;have G1:=zH q;clear q r1 r2 r3 r4))
 go_end0
 exact⟨rfl,(HX.out _ _ (ao3 G1.out n)).2.2.2⟩
theorem bi0 (h:Gm W F0 b K w m) (n:Int) (x:Nat) {y:Nat} {s:List Nat} (hs:m.st=y::s) (ht:a95 y=false):Calls Tryz.prog 146 #[.pointer (some ⟨b,0,none⟩),.agg #[.int .i64 12,.int .i64 n,.float .f64 x]] w fun r w'=>r=.returned (.tuple #[])/\Gm W F0 b K w' { m with st:=s }:=by
 obtain⟨F,h1,hX⟩:=h.enter (insO ⟨12,n,x⟩);have HG:=zH h1;have HX:=zH hX;have HS:=zH hs;have HT:Hid (∀ w,_):=fun w=>ap2 y w
 rw[ht]at HT;clear h h1 hX hs ht;go_enter Tryz.func146,Tryz.ntmps146
 go_wp2_with (first
  | (go_at_call 165;refine(HT.out _).mono ?_;rintro e u ⟨rfl,hu⟩;subst u)
  | (go_at_call 160;refine(a66 HG.out HS.out).mono ?_;rintro e u1 ⟨rfl,q⟩;obtain⟨r1,r2,r3,r4⟩:=HX.out _ _ q;obtain⟨c0,c1,c2,c3⟩:=a30 r1;have d0:=ag7 q;have d1:=q.free 22;have d2:=q.ltB;have G1:=zH q;clear q r1 r2 r3 r4))
 go_end0
 exact⟨rfl,(HX.out _ _ G1.out).2.2.2⟩
theorem bi3 (h:Gm W F0 b K w m) (n:Int) (x:Nat) {y:Nat} {s:List Nat} (hs:m.st=y::s) (ht:a95 y=true):Calls Tryz.prog 146 #[.pointer (some ⟨b,0,none⟩),.agg #[.int .i64 13,.int .i64 n,.float .f64 x]] w fun r w'=>r=.returned (.tuple #[])/\Gm W F0 b K w' { m with st:=s }:=by
 obtain⟨F,h1,hX⟩:=h.enter (insO ⟨13,n,x⟩);have HG:=zH h1;have HX:=zH hX;have HS:=zH hs;have HT:Hid (∀ w,_):=fun w=>ap2 y w
 rw[ht]at HT;clear h h1 hX hs ht;go_enter Tryz.func146,Tryz.ntmps146
 go_wp2_with (first
  | (go_at_call 165;refine(HT.out _).mono ?_;rintro e u ⟨rfl,hu⟩;subst u)
  | (go_at_call 160;refine(a66 HG.out HS.out).mono ?_;rintro e u1 ⟨rfl,q⟩;obtain⟨r1,r2,r3,r4⟩:=HX.out _ _ q;obtain⟨c0,c1,c2,c3⟩:=a30 r1;have d0:=ag7 q;have d1:=q.free 22;have d2:=q.ltB;have G1:=zH q;clear q r1 r2 r3 r4))
 go_end0
 exact⟨rfl,(HX.out _ _ G1.out).2.2.2⟩
theorem bi2 (h:Gm W F0 b K w m) (n:Int) (x:Nat) {y:Nat} {s:List Nat} (hs:m.st=y::s) (ht:a95 y=false):Calls Tryz.prog 146 #[.pointer (some ⟨b,0,none⟩),.agg #[.int .i64 13,.int .i64 n,.float .f64 x]] w fun r w'=>r=.returned (.tuple #[])/\Gm W F0 b K w' { m with place:=n,st:=s }:=by
 obtain⟨F,h1,hX⟩:=h.enter (insO ⟨13,n,x⟩);have HG:=zH h1;have HX:=zH hX;have HS:=zH hs;have HT:Hid (∀ w,_):=fun w=>ap2 y w
 rw[ht]at HT;clear h h1 hX hs ht;go_enter Tryz.func146,Tryz.ntmps146
 go_wp2_with (first
  | (go_at_call 165;refine(HT.out _).mono ?_;rintro e u ⟨rfl,hu⟩;subst u)
  | (go_at_call 160;refine(a66 HG.out HS.out).mono ?_;rintro e u1 ⟨rfl,q⟩;obtain⟨r1,r2,r3,r4⟩:=HX.out _ _ q;obtain⟨c0,c1,c2,c3⟩:=a30 r1;have d0:=ag7 q;have d1:=q.free 22;have d2:=q.ltB;have G1:=zH q;clear q r1 r2 r3 r4))
 go_end0
 exact⟨rfl,(HX.out _ _ (ao3 G1.out n)).2.2.2⟩
theorem bw2 (h:Gm W F0 b K w m) (n:Int) (x:Nat) (hc:m.calls.length<16):Calls Tryz.prog 146 #[.pointer (some ⟨b,0,none⟩),.agg #[.int .i64 14,.int .i64 n,.float .f64 x]] w fun r w'=>r=.returned (.tuple #[])/\Gm W F0 b K w' { m with calls:=m.place::m.calls,place:=n }:=by
 obtain⟨F,h1,hX⟩:=h.enter (insO ⟨14,n,x⟩);have HG:=zH h1;have HX:=zH hX;obtain⟨p,hm,ht,hk⟩:=id h1;have h21:(w.alloc (insO ⟨14,n,x⟩)).cell? ⟨b,21,none⟩=some (.pointer (some ⟨p.bc,0,none⟩)):=(hm.cell 21).trans rfl;have h22:=ag7 h1;have hb:=h.ltB;have hp:=hm.cal;have HP:Hid (∀ q,Calls Tryz.prog 166 #[.pointer (some ⟨p.bc,0,none⟩),.int .i64 m.place] ((w.alloc (insO ⟨14,n,x⟩)).drewN q) fun e w'=>e=.returned (.int .i64 0)/\Gm (w.alloc (insO ⟨14,n,x⟩)) F b K w' { m with calls:=m.place::m.calls }):=fun q=>by
  refine(b48 (hp.same (Same.drewN _ q)) m.place).mono fun e w' ⟨F',he,a1,a2⟩=>⟨?_,?_⟩
  ·rw[he]
   simp[ax6]
   omega
  ·rw[show ao5 m.calls.reverse 16 m.place=(m.place::m.calls).reverse by simp[ao5];omega]at a1
   obtain⟨b1,b2⟩:=(hm.same (Same.drewN _ q)).putC a1 a2;exact⟨_,b1,(ht.trans ((Same.drewN _ q).turn _)).trans b2,hk⟩
 clear h h1 hX hm ht hk hp hc;go_enter Tryz.func146,Tryz.ntmps146
 go_wp2
 refine a34 8 (by kernel_rfl) ?_;simp only[List.take_succ_cons,List.take_zero,List.drop_succ_cons,List.drop_zero]
 repeat still_step
 refine wpStill_nil ?_
 go_wp2_with (go_at_call 166;refine(HP.out 1).mono ?_;rintro e u1 ⟨rfl,q⟩;obtain⟨r1,r2,r3,r4⟩:=HX.out _ _ q;obtain⟨c0,c1,c2,c3⟩:=a30 r1;have d0:=ag7 q;have d1:=q.free 22;have d2:=q.ltB;have G1:=zH q;clear q r1 r2 r3 r4 HP)
 go_end0
 exact⟨rfl,(HX.out _ _ (ao3 G1.out n)).2.2.2⟩
end
attribute [local go_sem] a00
section
variable {W w:World} {b:Nat} {F0 K:List Nat} {m:Mac}
theorem bl2 (h:Gm W F0 b K w m) (n:Int) (x:Nat) {k y:Nat} {s:List Nat} (hn:n=(k:Int)) (h0:k<8) (hs:m.st=y::s):Calls Tryz.prog 147 #[.pointer (some ⟨b,0,none⟩),.agg #[.int .i64 8,.int .i64 n,.float .f64 x]] w fun r w'=>r=.returned (.tuple #[])/\Gm W F0 b K w' { m with loc:=updF m.loc k y,st:=s }:=by
 obtain⟨F,h1,hX⟩:=h.enter (insO ⟨8,n,x⟩);have HG:=zH h1;have HX:=zH hX;subst hn;have HS:=zH hs;have H0:=zH h0;have hb:=h.ltB;have hk8:(k:Int)<8:=by omega
 clear h h1 hX hs h0;go_enter Tryz.func147,Tryz.ntmps147
 go_wp2
 go_region_held (fun w'=>w'.cell? ⟨w.heap.size,1,none⟩=some (.int .i64 (k:Int))) (first | go_keep | assumption) (first
  | (go_at_call 160;refine(a66 (HG.out.drewN 1) HS.out).mono ?_;rintro e u1 ⟨rfl,q⟩;obtain⟨r1,r2,r3,r4⟩:=HX.out _ _ q;obtain⟨c0,c1,c2,c3⟩:=a30 r1;have d0:=bq7 q H0.out;have c9:(u1.setCell ⟨b,12+k,none⟩ (.float .f64 y)).cell? ⟨w.heap.size,1,none⟩=some (.int .i64 (k:Int)):=(World.cell?_of_block (a:=⟨w.heap.size,1,none⟩) (zO _ _ _ _ (by simp;omega))).trans c1;have d1:=q.free (12+k);have d2:=q.ltB;have G1:=zH q;clear q r1 r2 r3 r4))
 all_goals (try go_wp2)
 all_goals go_end0
 all_goals exact⟨rfl,(HX.out _ _ (bv5 G1.out H0.out y)).2.2.2⟩
theorem bl3 (h:Gm W F0 b K w m) (n:Int) (x:Nat) {y:Nat} {s:List Nat} (hn:1<=n/\n<=8) (hy:okN y) (hs:m.st=y::s) (hl:s.length<64):Calls Tryz.prog 147 #[.pointer (some ⟨b,0,none⟩),.agg #[.int .i64 9,.int .i64 n,.float .f64 x]] w fun r w'=>r=.returned (.tuple #[])/\Gm W F0 b K w' { m with st:=oneV n y::s }:=by
 obtain⟨F,h1,hX⟩:=h.enter (insO ⟨9,n,x⟩);have HG:=zH h1;have HX:=zH hX;have HS:=zH hs;have HN:=zH (And.intro hn (And.intro hy hl));have hb:=h.ltB;clear h h1 hX hs hn hy hl;go_enter Tryz.func147,Tryz.ntmps147
 go_wp2
 go_region_held (fun w'=>w'.cell? ⟨w.heap.size,1,none⟩=some (.int .i64 n)) (go_keep) (first
  | (go_at_call 167;refine(bx2 HN.out.1 HN.out.2.1 _).mono ?_;rintro e u2 ⟨rfl,q⟩;have q2:=G1.out.on q;obtain⟨r1,r2,r3,r4⟩:=HX.out _ _ q2;obtain⟨e0,e1,e2,e3⟩:=a30 r1;have G2:=zH q2;clear q q2 r1 r2 r3 r4)
  | (go_at_call 160;refine(a66 (HG.out.drewN 1) HS.out).mono ?_;rintro e u1 ⟨rfl,q⟩;obtain⟨r1,r2,r3,r4⟩:=HX.out _ _ q;obtain⟨c0,c1,c2,c3⟩:=a30 r1;have G1:=zH q;clear q r1 r2 r3 r4))
 all_goals go_wp2_with (go_at_call 149;refine(ae3 G2.out _ HN.out.2.2).mono ?_;rintro e u3 ⟨rfl,q⟩;have G3:=zH q;clear q)
 all_goals go_end0
 all_goals exact⟨rfl,(HX.out _ _ G3.out).2.2.2⟩
theorem b89 (h:Gm W F0 b K w m) (n:Int) (x:Nat) {y z:Nat} {s:List Nat} (hn:1<=n/\n<=12) (hy:okN y) (hz:okN z) (hs:m.st=y::z::s) (hl:s.length<64):Calls Tryz.prog 147 #[.pointer (some ⟨b,0,none⟩),.agg #[.int .i64 10,.int .i64 n,.float .f64 x]] w fun r w'=>r=.returned (.tuple #[])/\Gm W F0 b K w' { m with st:=twoV n z y::s }:=by
 obtain⟨F,h1,hX⟩:=h.enter (insO ⟨10,n,x⟩);have HG:=zH h1;have HX:=zH hX;have HS:=zH hs;have HN:=zH (And.intro hn (And.intro hy (And.intro hz hl)));have hb:=h.ltB;clear h h1 hX hs hn hy hz hl;go_enter Tryz.func147,Tryz.ntmps147
 go_wp2_with (first
  | (go_at_call 149;refine(ae3 G3.out _ HN.out.2.2.2).mono ?_;rintro e u4 ⟨rfl,q⟩;have G4:=zH q;clear q)
  | (go_at_call 168;refine(bB1 HN.out.1 HN.out.2.2.1 HN.out.2.1 _).mono ?_;rintro e u3 ⟨rfl,q⟩;have G3:=zH (G2.out.on q);clear q)
  | (go_at_call 160;refine(a66 G1.out rfl).mono ?_;rintro e u2 ⟨rfl,q⟩;obtain⟨r1,r2,r3,r4⟩:=HX.out _ _ q;obtain⟨c0,c1,c2,c3⟩:=a30 r1;have G2:=zH q;clear q r1 r2 r3 r4)
  | (go_at_call 160;refine(a66 HG.out HS.out).mono ?_;rintro e u_G1 ⟨rfl,q⟩;have G1:=zH q;clear q))
 go_end0
 exact⟨rfl,(HX.out _ _ G4.out).2.2.2⟩
end
attribute [local go_sem] a00
theorem bI9 {v:Value} {g n c H B:Nat} (h:v.ownBlock=some g∨g=H) (hB:B<=H):(Value.slice (some ⟨g,0,none⟩) n c).ownBlock=v.ownBlock∨∃ s,(Value.slice (some ⟨g,0,none⟩) n c).ownBlock=some s/\B<=s:=by
 rcases h with h | h
 ·exact .inl h.symm
 ·exact .inr ⟨g,rfl,by omega⟩
section
variable {W w:World} {b:Nat} {F0 K:List Nat} {m:Mac}
theorem bA2 {p:Pt} (hm:MacAt w b m p) {x:Nat} {s:List Nat} (hs:m.st=x::s):Calls Tryz.prog 160 #[.pointer (some ⟨b,0,none⟩)] w fun e w'=>∃ F',e=.returned (.float .f64 x)/\MacAt w' b { m with st:=s } { p with Fn:=F' }/\Turn (p.F b) ({ p with Fn:=F' }.F b) w w':=by
 have h20:w.cell? ⟨b,20,none⟩=some (.pointer (some ⟨p.bn,0,none⟩)):=(hm.cell 20).trans rfl;have hb:=hm.ltB;have HP:=zH (aH3 (m:=s.reverse) (x:=x) (by have:=hm.num;rw[hs,List.reverse_cons]at this;exact this));have HD:Hid (∀ F' w',NStk w' p.bn F' s.reverse->Turn p.Fn F' w w'->MacAt w' b { m with st:=s } { p with Fn:=F' }/\Turn (p.F b) ({ p with Fn:=F' }.F b) w w'):=fun F' w' q1 q2=>hm.putN q1 q2
 clear hm;go_enter Tryz.func160,Tryz.ntmps160
 go_wp2_with (go_at_call 180;refine HP.out.mono ?_;rintro e w1 ⟨F',rfl,q1,q2⟩;have HQ:=zH (HD.out _ _ q1 q2);clear q1 q2 HD HP)
 go_ret;exact⟨F',rfl,HQ.out⟩
theorem b90 (h:Gm W F0 b K w m) (n:Int) (x:Nat) {y:Nat} {s:List Nat} (hs:m.st=y::s) (hl:m.out.length<=1024):Calls Tryz.prog 147 #[.pointer (some ⟨b,0,none⟩),.agg #[.int .i64 18,.int .i64 n,.float .f64 x]] w fun r w'=>r=.returned (.tuple #[])/\Gm W F0 b K w' { m with out:=m.out ++ [y],st:=s }:=by
 obtain⟨F,h1,hX⟩:=h.enter (insO ⟨18,n,x⟩);have HX:=zH hX;obtain⟨p,hm,ht,hk⟩:=h1;have hb:=h.ltB;have h24:w.cell? ⟨b,24,none⟩=some (.slice p.po m.out.length p.co):=((below_alloc w (insO ⟨18,n,x⟩)).cell (p:=⟨b,24,none⟩) hb).symm.trans ((hm.cell 24).trans rfl);have HM:=zH (hm.same (Same.drew _));have HT:Hid (Turn F (p.F b) (w.alloc (insO ⟨18,n,x⟩)) (w.alloc (insO ⟨18,n,x⟩)).drew/\K=fpR p.pk):=⟨ht.trans ((Same.drew _).turn _),hk⟩;have HS:=zH (And.intro hs hl);obtain⟨i0,hi,hz0,hz1,hz2⟩:=info_parts aH2;have HZI:=zH (And.intro hi (And.intro hz0 (And.intro hz1 hz2)));clear h hX hm ht hk hs hl hi hz0 hz1 hz2;go_enter Tryz.func147,Tryz.ntmps147
 go_wp2
 go_region_law (first
  | (go_simp;go_at_call 160;refine(bA2 HM.out HS.out.1).mono ?_;rintro e u1 ⟨F',rfl,q1,q2⟩;have c24:u1.cell? ⟨b,24,none⟩=some (.slice p.po m.out.length p.co):=(q1.cell 24).trans rfl;have f24:=q1.free 24;have l24:=q1.ltB;have HO:Hid ((u1.alloc (.cells #[.float .f64 y] 49)).ownsRow 0 49 1 (.slice p.po m.out.length p.co) m.out.length (fls m.out)):=World.ownsRow.alloc (by have:=q1.out.own;rw[a32]at this;exact this) _;have G1:=zH (And.intro q1 q2);clear q1 q2)
  | (refine step_append_lies _ (by rfl) _ _ _ (by rfl) 0 49 i0 (.float .f64 0) 1 8 Tryz.underlying24 HZI.out.1 HZI.out.2.1 HZI.out.2.2.1 HZI.out.2.2.2 rfl (by omega) _ m.out.length (fls m.out) (by rfl) HO.out ⟨u1.heap.size,0,none⟩ 1 1 [.float .f64 y] (by rfl) (by rfl) (cell_one_new _ _ _) (by simp[Value.oneCell']) (by omega) (by have:=HS.out.2;unfold maxLen;omega) (by have:=HS.out.2;omega) (by omega) (u1.heap.size+1) (by simp) ?_;intro g5 cap5 w5 hown5 hgrow5 hat5 hlt5;obtain⟨p5,c5,e5,b5,k5,t5⟩:=G1.out.1.putO hown5 ((World.grownBy_alloc u1 _ _).trans hgrow5) (bI9 hat5 (by omega));have c25:w5.cell? ⟨b,24,none⟩=some (.slice p.po m.out.length p.co):=(zR w5 b 24 _ _ _ b5).trans rfl;have f25:=zZ w5 b 24 _ _ b5;have l25:=lt_of_block b5;have G5:=zH (And.intro k5 t5);clear e5 b5 k5 t5 hown5 hgrow5 hat5 hlt5))
 all_goals (try go_wp2)
 all_goals go_end0
 all_goals exact⟨rfl,(HX.out _ _ ⟨_,G5.out.1,(HT.out.1.trans G1.out.2).trans G5.out.2,HT.out.2⟩).2.2.2⟩
end
attribute [local go_sem] a00
abbrev askO (k:Ask):Obj:=.cells #[.int .i64 k.kind,.int .i64 k.cell,.float .f64 k.x,.bool k.first] 211
theorem a21 {w:World} {g:Nat} {k:Ask} (h:w.heap[g]?=some (askO k)):(w.cell? ⟨g,0,none⟩=some (.int .i64 k.kind)/\w.cell? ⟨g,1,none⟩=some (.int .i64 k.cell)/\w.cell? ⟨g,2,none⟩=some (.float .f64 k.x)/\w.cell? ⟨g,3,none⟩=some (.bool k.first)/\g<w.heap.size)/\w.frozen? ⟨g,0,none⟩=false/\w.frozen? ⟨g,1,none⟩=false/\w.frozen? ⟨g,2,none⟩=false/\w.frozen? ⟨g,3,none⟩=false :=
 ⟨⟨by rw[zR w g 0 _ _ _ h];rfl,by rw[zR w g 1 _ _ _ h];rfl,by rw[zR w g 2 _ _ _ h];rfl,by rw[zR w g 3 _ _ _ h];rfl,lt_of_block h⟩,zZ w g 0 _ _ h,zZ w g 1 _ _ h,zZ w g 2 _ _ h,zZ w g 3 _ _ h⟩
theorem a49 {w:World} {g:Nat} {k k':Ask} (h:w.heap[g]?=some (askO k)):((((w.setCell ⟨g,0,none⟩ (.int .i64 k'.kind)).setCell ⟨g,1,none⟩ (.int .i64 k'.cell)).setCell ⟨g,2,none⟩ (.float .f64 k'.x)).setCell ⟨g,3,none⟩ (.bool k'.first)).heap[g]?=some (askO k'):=by
 have e1:=zS w g 0 _ _ (.int .i64 k'.kind) h;have e2:=zS _ g 1 _ _ (.int .i64 k'.cell) e1;have e3:=zS _ g 2 _ _ (.float .f64 k'.x) e2;exact(zS _ g 3 _ _ (.bool k'.first) e3).trans rfl
section
variable {W w:World} {b:Nat} {F0 K:List Nat} {m:Mac}
theorem Gm.leave (h:Gm W F0 b K w m) (o:Obj) {g:Nat} (hg:g=w.heap.size):∃ F,Gm (w.alloc o) F b K (w.alloc o) m/\∀ w' m',Gm (w.alloc o) F b K w' m'->w'.heap[g]?=some o/\∀ w'',Turn [g] [g] w' w''->Gm W F0 b K w'' m':=by
 subst hg;obtain⟨F,hM,hT⟩:=h.mc;refine⟨F,(hM.on (below_alloc w o)).gm,fun w' m' hg=>⟨(hg.far (by simp) (fun q=>absurd (hM.blw _ q) (Nat.lt_irrefl _))).trans (zN w o),fun w'' t=>?_⟩⟩;obtain⟨p,h1,h2,h3⟩:=hg;have n1:w.heap.size∉p.F b:=fun q=>(h2.own _ q).elim (fun z=>absurd (hM.blw _ z) (Nat.lt_irrefl _)) (fun z=>by simp at z;omega)
 have n2:w.heap.size∉fpR p.pk:=fun q=>by rw[<- h3]at q;exact absurd (hM.blwK _ q) (Nat.lt_irrefl _)
 have a1:Sep (p.F b) [w.heap.size]:=fun k hk q=>n1 (by simp at q;rw[<- q];exact hk)
 have a2:Sep (fpR p.pk) [w.heap.size]:=fun k hk q=>n2 (by simp at q;rw[<- q];exact hk)
 have hs:w.heap.size<=w'.heap.size:=zQ (by simp) h2.size;refine⟨p,h1.keep (t.kept a1 h1.blw) (t.kept a2 h1.ltk),hT.trans ⟨t.os.trans h2.os,t.tape.trans h2.tape,t.output.trans h2.output,zQ hs t.size,fun k hk hf=>?_,fun k hk=>?_⟩,h3⟩
 ·exact(t.block k (zL hk hs) (by simp;omega)).trans ((h2.block k (by simp;omega) hf).trans (heap_alloc_old w o hk))
 ·exact(h2.own k hk).imp id (fun z=>by simp at z;omega)
theorem af6 (w:World) (g:Nat) (v0 v1 v2 v3:Value):Turn [g] [g] w ((((w.setCell ⟨g,0,none⟩ v0).setCell ⟨g,1,none⟩ v1).setCell ⟨g,2,none⟩ v2).setCell ⟨g,3,none⟩ v3) :=
 (((a26 w g 0 v0).trans (a26 _ g 1 v1)).trans (a26 _ g 2 v2)).trans (a26 _ g 3 v3)
theorem by3 (h:Gm W F0 b K w m) (hc:m.calls=[]):Calls Tryz.prog 145 #[.pointer (some ⟨b,0,none⟩)] w fun r w'=>r=.returned (askV a59)/\Gm W F0 b K w' { m with how:=1,cod:=0,err:=0 }:=by
 obtain⟨F,h1,hX⟩:=h.leave (askO ask0) rfl;obtain⟨p,hm,ht,hk⟩:=id h1;have hb:=h.ltB;have h21:w.cell? ⟨b,21,none⟩=some (.pointer (some ⟨p.bc,0,none⟩)):=((below_alloc w (askO ask0)).cell (p:=⟨b,21,none⟩) hb).symm.trans ((hm.cell 21).trans rfl);have hp:=hm.cal;rw[hc]at hp;have HP:=zH (b46 hp);have HG:=zH h1;have HX:=zH hX;clear h h1 hX hm ht hk hp hc;go_enter Tryz.func145,Tryz.ntmps145
 go_wp2_with (first
  | (go_at_call 134;refine(as8 HG.out 1 0 0).mono ?_;rintro e u1 ⟨rfl,q⟩;obtain⟨r1,r2⟩:=HX.out _ _ q;obtain⟨⟨c0,c1,c2,c3,c4⟩,d0,d1,d2,d3⟩:=a21 r1;have G1:=zH (And.intro r1 r2);clear q r1 r2;unfold askV)
  | (go_at_call 164;refine HP.out.mono ?_;rintro e u ⟨rfl,hu⟩;subst u))
 exact a60 rfl w.heap.size a59 rfl (a49 G1.out.1) rfl ⟨rfl,G1.out.2 _ (af6 _ _ _ _ _ _)⟩
theorem bl5 (h:Gm W F0 b K w m) {c:Int} {r:List Int} (hc:m.calls=c::r):Calls Tryz.prog 145 #[.pointer (some ⟨b,0,none⟩)] w fun e w'=>e=.returned (askV ask0)/\Gm W F0 b K w' { m with calls:=r,place:=c }:=by
 obtain⟨F,h1,hX⟩:=h.leave (askO ask0) rfl;obtain⟨p,hm,ht,hk⟩:=id h1;have hb:=h.ltB;have h21:w.cell? ⟨b,21,none⟩=some (.pointer (some ⟨p.bc,0,none⟩)):=((below_alloc w (askO ask0)).cell (p:=⟨b,21,none⟩) hb).symm.trans ((hm.cell 21).trans rfl);have hp:=hm.cal;rw[hc,List.reverse_cons]at hp;have HP:Hid (Calls Tryz.prog 164 #[.pointer (some ⟨p.bc,0,none⟩)] (w.alloc (askO ask0)) fun e w'=>e=.returned (.tuple #[.int .i64 c,.int .i64 0])/\Gm (w.alloc (askO ask0)) F b K w' { m with calls:=r }):=(b47 hp).mono fun e w' ⟨F',he,a1,a2⟩=>by
  obtain⟨b1,b2⟩:=hm.putC a1 a2;exact⟨he,_,b1,ht.trans b2,hk⟩
 have HX:=zH hX;clear h h1 hX hm ht hk hp hc;go_enter Tryz.func145,Tryz.ntmps145
 go_wp2_with (first
  | (go_at_call 164;refine HP.out.mono ?_;rintro e u1 ⟨rfl,q⟩;have d0:=ag7 q;have d1:=q.free 22;have d2:=q.ltB;have q2:=ao3 q c;obtain⟨r1,r2⟩:=HX.out _ _ q2;obtain⟨⟨c0,c1,c2,c3,c4⟩,e0,e1,e2,e3⟩:=a21 r1;have G1:=zH (And.intro r1 r2);clear q q2 r1 r2 HP))
 exact a60 rfl w.heap.size ask0 rfl (a49 (k':=ask0) G1.out.1) rfl ⟨rfl,G1.out.2 _ (af6 _ _ (.int .i64 0) (.int .i64 0) (.float .f64 0) (.bool false))⟩
end
attribute [local go_sem] a00
def Done (W:World) (F0:List Nat) (b:Nat) (K:List Nat) (m:Mac) (res:Mac × Ask) (r:Ending) (w':World):Prop :=
 (∃ e,res=ah8 m e/\r=ad0 e/\Gm W F0 b K w' m)∨(r=.returned (askV res.2)/\Gm W F0 b K w' res.1)
section
variable {W w:World} {b:Nat} {F0 K:List Nat} {m:Mac}
theorem Gm.buf (h:Gm W F0 b K w m):∃ bw Fw,w.cell? ⟨b,26,none⟩=some (.pointer (some ⟨bw,0,none⟩))/\Buf w bw Fw m.wmax m.buf/\∀ w' l F',Buf w' bw F' m.wmax l->Turn Fw F' w w'->Gm W F0 b K w' { m with buf:=l }:=by
 obtain⟨p,hm,ht,hk⟩:=h;refine⟨p.bw,p.Fw,(hm.cell 26).trans rfl,hm.wri,fun w' l F' h1 h2=>?_⟩;obtain⟨a1,a2⟩:=hm.putW h1 h2;exact⟨_,a1,ht.trans a2,hk⟩
theorem af7 (h:Gm W F0 b K w m) (hs:0<m.st.length) (ha:ae6 m=true):Calls Tryz.prog 159 #[.pointer (some ⟨b,0,none⟩)] w fun r w'=>r=.returned (.int .i64 (addrV m))/\Same w w' :=
 (au4 h hs).mono fun _ _ ⟨a1,a2⟩=>⟨by rw[a1,ha];rfl,a2⟩
theorem az7 (h:Gm W F0 b K w m) (hs:0<m.st.length) (ha:ae6 m=false):Calls Tryz.prog 159 #[.pointer (some ⟨b,0,none⟩)] w fun r w'=>r=ad0 50/\Same w w' :=
 (au4 h hs).mono fun _ _ ⟨a1,a2⟩=>⟨by rw[a1,ha];rfl,a2⟩
theorem Gm.waits (h:Gm W F0 b K w m) (c:Int) (hc:0<=c):Gm W F0 b K ((w.setCell ⟨b,27,none⟩ (.bool true)).setCell ⟨b,28,none⟩ (.int .i64 c)) { m with wait:=c }:=by
 obtain⟨p,h1,h2,h3⟩:=h;have t:=(a26 w b 27 (.bool true)).trans (a26 _ b 28 (.int .i64 c));have kk:=h1.others (i:=0) t;refine⟨{ p with wt:=c },⟨?_,h1.num.keep (kk 1 (by omega)),h1.cal.keep (kk 2 (by omega)),h1.wri.keep (kk 3 (by omega)),h1.out.keep (kk 4 (by omega)),h1.rds.keep (kk 5 (by omega)),h1.cod.keep (kk 6 (by omega)),h1.ltk' t.size,fun _=>rfl,h1.apart⟩,h2.trans (Turn.part (L:=p.own b) (i:=0) t),h3⟩;have e1:=zS w b 27 _ _ (.bool true) h1.box;refine(zS _ b 28 _ _ (.int .i64 c) e1).trans ?_;unfold boxV;rw[zT hc]
 rfl
theorem ar5 (y:Nat) {n:Int} (hn:n<=256) (h:idxB y n=true):0<=idxV y n/\idxV y n<n/\(Lit.int .i64 (idxV y n)).wf=true:=by
 have h2:(truncN y:Int)<n:=by
  unfold idxB at h;simp only[Bool.and_eq_true,decide_eq_true_eq]at h;exact h.2
 unfold idxV;rw[if_pos h];refine⟨by omega,h2,?_⟩;have m1:IntKind.i64.min=-9223372036854775808:=by decide
 have m2:IntKind.i64.max=9223372036854775807:=by decide
 simp[Lit.wf]
 omega
theorem by1 (h:Gm W F0 b K w m) (hs:0<m.st.length) (ha:ae6 m=false):Calls Tryz.prog 143 #[.pointer (some ⟨b,0,none⟩)] w fun r w'=>r=ad0 50/\Gm W F0 b K w' m:=by
 have HG:=zH (h.alloc (askO ask0));have HA:=zH (az7 (h.alloc (askO ask0)) hs ha);clear h hs ha;go_enter Tryz.func143,Tryz.ntmps143
 go_wp2_with (go_at_call 159;refine HA.out.mono ?_;rintro e u ⟨rfl,q⟩;have HQ:=zH (HG.out.same q);clear q)
 exact⟨rfl,rfl,HQ.out⟩
theorem ar2 (h:Gm W F0 b K w m):w.cell? ⟨b,27,none⟩=some (.bool (decide (0<=m.wait)))/\∃ z,w.cell? ⟨b,28,none⟩=some (.int .i64 z):=by
 obtain⟨p,hm,_,_⟩:=h;exact⟨(hm.cell 27).trans rfl,p.wt,(hm.cell 28).trans rfl⟩
theorem aT6 (h:Gm W F0 b K w m):w.cell? ⟨b,2,none⟩=some (.bool m.upd):=by
 obtain⟨p,hm,_,_⟩:=h;exact(hm.cell 2).trans rfl
theorem bk3 (h:Gm W F0 b K w m) {y:Nat} {s:List Nat} (hs:m.st=y::s) (hl:s.length<64) (hr:m.reads.length<=1024) (hcl:m.cells<=256) (ha:ae6 m=true) (hh:hasC m.buf (addrV m)=true):Calls Tryz.prog 143 #[.pointer (some ⟨b,0,none⟩)] w fun r w'=>r=.returned (askV (af3 m).2)/\Gm W F0 b K w' (af3 m).1:=by
 have e:af3 m=(aw4 { m with st:=s } (addrV m) (getC m.buf (addrV m)),⟨2,addrV m,getC m.buf (addrV m),false⟩):=by unfold af3;rw[ha,hh,hs];rfl
 rw[e];obtain⟨F,h1,hX⟩:=h.leave (askO ask0) rfl;have HG:=zH h1;have HX:=zH hX;have HA:=zH (af7 h1 (by rw[hs];simp) ha);have HW:Hid ((Lit.int .i64 (addrV m)).wf=true):=(ar5 _ hcl ha).2.2;have HS:=zH (And.intro hs (And.intro hl hr));clear h h1 hX hs hl hr e hcl ha
 generalize addrV m=c at *
 go_enter Tryz.func143,Tryz.ntmps143
 go_wp2_with (first
  | (go_at_call 137;refine(aw5 G1.out c _ HS.out.2.1 HS.out.2.2).mono ?_;rintro e u3 ⟨rfl,q⟩;obtain⟨r1,r2⟩:=HX.out _ _ q;obtain⟨⟨c0,c1,c2,c3,c4⟩,e0,e1,e2,e3⟩:=a21 r1;have G3:=zH (And.intro r1 r2);clear q r1 r2)
  | (go_at_call 161;refine(b42 HBU.out HW.out).mono ?_;rw[hh];rintro e u ⟨rfl,hu⟩;subst u)
  | (go_at_call 160;refine(a66 G0.out HS.out.1).mono ?_;rintro e u1 ⟨rfl,q⟩;have d1:=q.ltB;obtain⟨bw,Fw,d0,hbu,_⟩:=q.buf;have HBU:=zH hbu;have G1:=zH q;clear q hbu)
  | (go_at_call 159;refine HA.out.mono ?_;rintro e u0 ⟨rfl,q⟩;have G0:=zH (HG.out.same q);clear q))
 exact a60 rfl w.heap.size ⟨2,c,getC m.buf c,false⟩ rfl (a49 (k':=⟨2,c,getC m.buf c,false⟩) G3.out.1) rfl (⟨rfl,G3.out.2 _ (af6 _ _ (.int .i64 2) (.int .i64 c) (.float .f64 (getC m.buf c)) (.bool false))⟩)
theorem b87 (h:Gm W F0 b K w m) {y:Nat} {s:List Nat} (hs:m.st=y::s) (hcl:m.cells<=256) (ha:ae6 m=true) (hh:hasC m.buf (addrV m)=false):Calls Tryz.prog 143 #[.pointer (some ⟨b,0,none⟩)] w fun r w'=>r=.returned (askV (af3 m).2)/\Gm W F0 b K w' (af3 m).1:=by
 have e:af3 m=({ m with st:=s,wait:=addrV m },ab7 (addrV m)):=by unfold af3;rw[ha,hh,hs];rfl
 rw[e];obtain⟨F,h1,hX⟩:=h.leave (askO ask0) rfl;have HG:=zH h1;have HX:=zH hX;have HA:=zH (af7 h1 (by rw[hs];simp) ha);have HW:=zH (ar5 _ hcl ha)
 change Hid (0<=addrV m/\addrV m<m.cells/\(Lit.int .i64 (addrV m)).wf=true) at HW
 have HS:=zH hs;clear h h1 hX hs e hcl ha
 generalize addrV m=c at *
 go_enter Tryz.func143,Tryz.ntmps143
 go_wp2_with (first
  | (go_at_call 132;refine(aK9 G2.out HW.out.1).mono ?_;rintro e u3 ⟨rfl,q⟩;obtain⟨r1,r2⟩:=HX.out _ _ (G2.out.on q);obtain⟨⟨c0,c1,c2,c3,c4⟩,e0,e1,e2,e3⟩:=a21 r1;have G3:=zH (And.intro r1 r2);clear q r1 r2;unfold askV ab7)
  | (go_at_call 161;refine(b42 HBU.out HW.out.2.2).mono ?_;rw[hh];rintro e u ⟨rfl,hu⟩;subst u)
  | (go_at_call 160;refine(a66 G0.out HS.out).mono ?_;rintro e u1 ⟨rfl,q⟩;have d1:=q.ltB;obtain⟨bw,Fw,d0,hbu,_⟩:=q.buf;have HBU:=zH hbu;obtain⟨d3,d4⟩:=ar2 q;have d5:=q.free 27;have d6:=q.free 28;have G2:=zH (q.waits c HW.out.1);obtain⟨zw,d7⟩:=d4;clear q hbu)
  | (go_at_call 159;refine HA.out.mono ?_;rintro e u0 ⟨rfl,q⟩;have G0:=zH (HG.out.same q);clear q))
 exact a60 rfl w.heap.size (ab7 c) rfl (a49 (k':=ab7 c) G3.out.1) rfl (⟨rfl,G3.out.2 _ (af6 _ _ (.int .i64 1) (.int .i64 c) (.float .f64 0) (.bool false))⟩)
theorem bp1 (h:Gm W F0 b K w m) (hu:m.upd=false):Calls Tryz.prog 144 #[.pointer (some ⟨b,0,none⟩)] w fun r w'=>r=ad0 81/\Gm W F0 b K w' m:=by
 have h2:=aT6 h;rw[hu]at h2;have hb:=h.ltB;have HG:=zH (h.alloc (askO ask0));clear h hu;go_enter Tryz.func144,Tryz.ntmps144
 go_wp2_with (go_at_call 148;refine(a80 rfl 81 _).mono ?_;rintro e u ⟨rfl,hu⟩;subst u)
 exact⟨rfl,rfl,HG.out⟩
theorem bo9 (h:Gm W F0 b K w m) (hs:0<m.st.length) (hu:m.upd=true) (ha:ae6 m=false):Calls Tryz.prog 144 #[.pointer (some ⟨b,0,none⟩)] w fun r w'=>r=ad0 50/\Gm W F0 b K w' m:=by
 have h2:=aT6 h;rw[hu]at h2;have hb:=h.ltB;have HG:=zH (h.alloc (askO ask0));have HA:=zH (az7 (h.alloc (askO ask0)) hs ha);clear h hu hs ha;go_enter Tryz.func144,Tryz.ntmps144
 go_wp2_with (first
  | (go_at_call 159;refine HA.out.mono ?_;rintro e u ⟨rfl,q⟩;have HQ:=zH (HG.out.same q);clear q)
  | (go_at_call 148;refine(a45 rfl 81 _).mono ?_;rintro e u ⟨rfl,hu⟩;subst u))
 exact⟨rfl,rfl,HQ.out⟩
theorem aZ0 (h:Gm W F0 b K w m) {y z:Nat} {s:List Nat} (hs:m.st=y::z::s) (_hz:okN z) (hcl:m.cells<=256) (hu:m.upd=true) (ha:ae6 m=true) (hp:mayP m.wmax m.buf (addrV m)=false):Calls Tryz.prog 144 #[.pointer (some ⟨b,0,none⟩)] w fun r w'=>r=ad0 70/\Gm W F0 b K w' m:=by
 have h2:=aT6 h;rw[hu]at h2;have hb:=h.ltB;obtain⟨F,h1,hX⟩:=h.leave (askO ask0) rfl;have HG:=zH h1;have HX:=zH hX;have HA:=zH (af7 h1 (by rw[hs];simp) ha);have HW:=zH (ar5 _ hcl ha)
 change Hid (0<=addrV m/\addrV m<m.cells/\(Lit.int .i64 (addrV m)).wf=true) at HW
 have HS:=zH hs;have HK:Hid (∀ u,Gm (w.alloc (askO ask0)) F b K u m->Calls Tryz.prog 162 #[.pointer (some ⟨b,0,none⟩),.int .i64 1] u fun e u'=>e=.returned (.float .f64 z)/\∃ q,u'=u.drewN q):=fun u hg=>by
  have:=ao2 hg 1 (by rw[hs];simp);rw[hs]at this;exact this
 have HE:Hid (putE m.wmax m.buf (addrV m)=70/\putL m.wmax m.buf (addrV m) z=m.buf):=by unfold putE putL;rw[hp];exact⟨rfl,rfl⟩
 clear h h1 hX hs hcl ha hu hp
 generalize addrV m=c at *
 go_enter Tryz.func144,Tryz.ntmps144
 go_wp2_with (first
  | (have t3:=G3.out;clear t3;go_at_call 148;refine(a80 (by first | (simp;done) | rfl) 70 _).mono ?_;rintro e u ⟨rfl,hu⟩;subst u)
  | (go_at_call 163;refine(b83 HBU.out HW.out.2.2 z).mono ?_;rw[HE.out.1,HE.out.2];rintro e u3 ⟨F',rfl,a1,a2⟩;have G3:=zH (HBT.out _ _ _ a1 a2);clear a1 a2)
  | (go_at_call 162;refine(HK.out _ G0.out).mono ?_;rintro e u1 ⟨rfl,q,hq⟩;subst u1;have q1:=G0.out.drewN q;have d1:=q1.ltB;obtain⟨bw,Fw,d0,hbu,hbt⟩:=q1.buf;have HBU:=zH hbu;have HBT:=zH hbt;clear q1 hbu hbt)
  | (go_at_call 159;refine HA.out.mono ?_;rintro e u0 ⟨rfl,q⟩;have G0:=zH (HG.out.same q);clear q)
  | (go_at_call 148;refine(a45 rfl 81 _).mono ?_;rintro e u ⟨rfl,hu⟩;subst u;have T1:=zH True.intro))
 exact⟨rfl,rfl,(HX.out _ _ G3.out).2 _ (Turn.refl _ _)⟩
theorem bp0 (h:Gm W F0 b K w m) {y z:Nat} {s:List Nat} (hs:m.st=y::z::s) (hz:okN z) (hcl:m.cells<=256) (hu:m.upd=true) (ha:ae6 m=true) (hp:mayP m.wmax m.buf (addrV m)=true):Calls Tryz.prog 144 #[.pointer (some ⟨b,0,none⟩)] w fun r w'=>r=.returned (askV (a86 m).2)/\Gm W F0 b K w' (a86 m).1:=by
 have e:a86 m=({ m with st:=s,buf:=putC m.buf (addrV m) z },⟨3,addrV m,z,!hasC m.buf (addrV m)⟩):=by unfold a86;rw[hu,ha,hp,hs];rfl
 rw[e];have h2:=aT6 h;rw[hu]at h2;have hb:=h.ltB;obtain⟨F,h1,hX⟩:=h.leave (askO ask0) rfl;have HG:=zH h1;have HX:=zH hX;have HA:=zH (af7 h1 (by rw[hs];simp) ha);have HW:=zH (ar5 _ hcl ha)
 change Hid (0<=addrV m/\addrV m<m.cells/\(Lit.int .i64 (addrV m)).wf=true) at HW
 have HS:=zH hs;have HK:Hid (∀ u,Gm (w.alloc (askO ask0)) F b K u m->Calls Tryz.prog 162 #[.pointer (some ⟨b,0,none⟩),.int .i64 1] u fun e u'=>e=.returned (.float .f64 z)/\∃ q,u'=u.drewN q):=fun u hg=>by
  have:=ao2 hg 1 (by rw[hs];simp);rw[hs]at this;exact this
 have HE:Hid (putE m.wmax m.buf (addrV m)=0/\putF m.wmax m.buf (addrV m)=(!hasC m.buf (addrV m))/\putL m.wmax m.buf (addrV m) z=putC m.buf (addrV m) z):=by
  unfold putE putF putL;rw[hp,hz.1];refine⟨rfl,?_,rfl⟩;unfold mayP at hp
  cases hc:hasC m.buf (addrV m)
  ·rw[hc]at hp
   simpa using hp
  ·rfl
 clear h h1 hX hs e hcl ha hu hp hz
 generalize addrV m=c at *
 go_enter Tryz.func144,Tryz.ntmps144
 go_wp2_with (first
  | (go_at_call 160;refine(a66 G4.out rfl).mono ?_;rintro e u5 ⟨rfl,q⟩;obtain⟨r1,r2⟩:=HX.out _ _ q;obtain⟨⟨c0,c1,c2,c3,c4⟩,e0,e1,e2,e3⟩:=a21 r1;have G5:=zH (And.intro r1 r2);clear q r1 r2)
  | (go_at_call 160;refine(a66 G3.out HS.out).mono ?_;rintro e u4 ⟨rfl,q⟩;have G4:=zH q;clear q)
  | (have t3:=G3.out;clear t3;go_at_call 148;refine(a45 (by first | rfl | (simp;done)) 0 _).mono ?_;rintro e u ⟨rfl,hu⟩;subst u)
  | (go_at_call 163;refine(b83 HBU.out HW.out.2.2 z).mono ?_;rw[HE.out.1,HE.out.2.1,HE.out.2.2];rintro e u3 ⟨F',rfl,a1,a2⟩;have G3:=zH (HBT.out _ _ _ a1 a2);clear a1 a2)
  | (go_at_call 162;refine(HK.out _ G0.out).mono ?_;rintro e u1 ⟨rfl,q,hq⟩;subst u1;have q1:=G0.out.drewN q;have d1:=q1.ltB;obtain⟨bw,Fw,d0,hbu,hbt⟩:=q1.buf;have HBU:=zH hbu;have HBT:=zH hbt;clear q1 hbu hbt)
  | (go_at_call 159;refine HA.out.mono ?_;rintro e u0 ⟨rfl,q⟩;have G0:=zH (HG.out.same q);clear q)
  | (go_at_call 148;refine(a45 rfl 81 _).mono ?_;rintro e u ⟨rfl,hu⟩;subst u;have T1:=zH True.intro))
 exact a60 rfl w.heap.size ⟨3,c,z,!hasC m.buf c⟩ rfl (a49 (k':=⟨3,c,z,!hasC m.buf c⟩) G5.out.1) rfl (⟨rfl,G5.out.2 _ (af6 _ _ (.int .i64 3) (.int .i64 c) (.float .f64 z) (.bool (!hasC m.buf c)))⟩)
end
end Go.Proofs.YtipakfjpfjehmaaGreatDoor
namespace Go.Proofs.YtipakfjpfjehmaaGreatDoor
open Go.ChangeShapes Go.WideShapes Go.ChangeAt Go.RowKit
def u64s (ws:List Int):List Value:=ws.map (Value.int .u64)
structure MemAt (T:TypeId) (w:World) (b g:Nat) (ws:List Int) (o:Bool) (c:Int):Prop where
 box:w.heap[b]?=some (.cells #[.slice (some ⟨g,0,none⟩) ws.length ws.length,.bool o,.int .i64 c] T (0,0))
 row:w.heap[g]?=some (.cells (u64s ws).toArray 52 (0,0))
 ne:b≠g
 some':1<=ws.length
 many:ws.length<=4096
structure Chg (b g:Nat) (w w':World):Prop where
 os:w'.os=w.os
 tape:w'.tape=w.tape
 output:w'.output=w.output
 size:w.heap.size<=w'.heap.size
 block:∀ k,k<w.heap.size->k≠b->k≠g->w'.heap[k]?=w.heap[k]?
theorem Chg.refl (b g:Nat) (w:World):Chg b g w w:=⟨rfl,rfl,rfl,zE _,fun _ _ _ _=>rfl⟩
theorem Chg.trans {b g:Nat} {a w c:World} (h:Chg b g a w) (k:Chg b g w c):Chg b g a c :=
 ⟨k.os.trans h.os,k.tape.trans h.tape,k.output.trans h.output,zQ h.size k.size,fun i hi h1 h2=>(k.block i (zL hi h.size) h1 h2).trans (h.block i hi h1 h2)⟩
theorem Chg.alloc {b g:Nat} {a w:World} (h:Chg b g a w) (o:Obj):Chg b g a (w.alloc o) :=
 h.trans ⟨rfl,rfl,rfl,by simp,fun k hk _ _=>Below.heap_alloc _ _ _ hk⟩
theorem Chg.drew {b g:Nat} {a w:World} (h:Chg b g a w):Chg b g a w.drew:=⟨h.os,h.tape,h.output,h.size,h.block⟩
theorem Chg.setB {b g:Nat} {a w:World} (h:Chg b g a w) (j:Nat) (u:Value):Chg b g a (w.setCell ⟨b,j,none⟩ u) :=
 h.trans ⟨rfl,rfl,rfl,by simp,fun k _ h1 _=>zO _ _ _ _ h1⟩
theorem Chg.setG {b g:Nat} {a w:World} (h:Chg b g a w) (j:Nat) (u:Value):Chg b g a (w.setCell ⟨g,j,none⟩ u) :=
 h.trans ⟨rfl,rfl,rfl,by simp,fun k _ _ h2=>zO _ _ _ _ h2⟩
theorem Chg.setN {b g:Nat} {a w:World} (h:Chg b g a w) {n:Nat} (hn:a.heap.size<=n) (j:Nat) (u:Value):Chg b g a (w.setCell ⟨n,j,none⟩ u) :=
 ⟨h.os,h.tape,h.output,by simpa using h.size,fun k hk h1 h2=>(zO w ⟨n,j,none⟩ k u (by show k≠n;omega)).trans (h.block k hk h1 h2)⟩
section
variable {T:TypeId} {w:World} {b g:Nat} {ws:List Int} {o:Bool} {c:Int}
theorem MemAt.ltB (h:MemAt T w b g ws o c):b<w.heap.size:=lt_of_block h.box
theorem MemAt.ltG (h:MemAt T w b g ws o c):g<w.heap.size:=lt_of_block h.row
theorem MemAt.cell0 (h:MemAt T w b g ws o c):w.cell? ⟨b,0,none⟩=some (.slice (some ⟨g,0,none⟩) ws.length ws.length):=by rw[zR w b 0 _ _ _ h.box];rfl
theorem MemAt.cell1 (h:MemAt T w b g ws o c):w.cell? ⟨b,1,none⟩=some (.bool o):=by rw[zR w b 1 _ _ _ h.box];rfl
theorem MemAt.cell2 (h:MemAt T w b g ws o c):w.cell? ⟨b,2,none⟩=some (.int .i64 c):=by rw[zR w b 2 _ _ _ h.box];rfl
theorem MemAt.freeB (h:MemAt T w b g ws o c) (j:Nat):w.frozen? ⟨b,j,none⟩=false:=zZ w b j _ _ h.box
theorem MemAt.freeG (h:MemAt T w b g ws o c) (j:Nat):w.frozen? ⟨g,j,none⟩=false:=zZ w g j _ _ h.row
theorem MemAt.word (h:MemAt T w b g ws o c) {i:Nat} (hi:i<ws.length):w.cell? ⟨g,i,none⟩=some (.int .u64 ws[i]):=by
 rw[zR w g i _ _ _ h.row]
 simp[u64s,hi]
theorem MemAt.keep {w':World} (h:MemAt T w b g ws o c) (hb:w'.heap[b]?=w.heap[b]?) (hg:w'.heap[g]?=w.heap[g]?):MemAt T w' b g ws o c:=⟨hb.trans h.box,hg.trans h.row,h.ne,h.some',h.many⟩
theorem MemAt.alloc (h:MemAt T w b g ws o c) (x:Obj):MemAt T (w.alloc x) b g ws o c:=h.keep (Below.heap_alloc _ _ _ h.ltB) (Below.heap_alloc _ _ _ h.ltG)
theorem MemAt.drew (h:MemAt T w b g ws o c):MemAt T w.drew b g ws o c:=⟨h.box,h.row,h.ne,h.some',h.many⟩
theorem MemAt.other (h:MemAt T w b g ws o c) {n:Nat} (h1:b≠n) (h2:g≠n) (j:Nat) (u:Value):MemAt T (w.setCell ⟨n,j,none⟩ u) b g ws o c :=
 h.keep (zO _ _ _ _ h1) (zO _ _ _ _ h2)
theorem MemAt.setO (h:MemAt T w b g ws o c) (o':Bool):MemAt T (w.setCell ⟨b,1,none⟩ (.bool o')) b g ws o' c :=
 ⟨(zS w b 1 _ T _ h.box).trans rfl,(zO _ _ _ _ (Ne.symm h.ne)).trans h.row,h.ne,h.some',h.many⟩
theorem MemAt.setC (h:MemAt T w b g ws o c) (c':Int):MemAt T (w.setCell ⟨b,2,none⟩ (.int .i64 c')) b g ws o c' :=
 ⟨(zS w b 2 _ T _ h.box).trans rfl,(zO _ _ _ _ (Ne.symm h.ne)).trans h.row,h.ne,h.some',h.many⟩
theorem aT4 (ws:List Int) (i:Nat) (v:Int):(u64s ws).set i (.int .u64 v)=u64s (ws.set i v):=by
 unfold u64s;rw[List.map_set]
theorem MemAt.setW (h:MemAt T w b g ws o c) (i:Nat) (v:Int):MemAt T (w.setCell ⟨g,i,none⟩ (.int .u64 v)) b g (ws.set i v) o c:=by
 refine⟨?_,?_,h.ne,by rw[List.length_set];exact h.some',by rw[List.length_set];exact h.many⟩
 ·rw[List.length_set,zO _ _ _ _ h.ne];exact h.box
 ·rw[zS w g i _ _ _ h.row,<- aT4,zA]
theorem MemAt.on {w':World} (h:MemAt T w b g ws o c) (k:Bl w w'):MemAt T w' b g ws o c :=
 h.keep (k.block b h.ltB) (k.block g h.ltG)
end
def hasB (ws:List Int) (i:Int):Bool:=decide (0<=i/\i<(ws.length:Int))
def errA (ws:List Int) (o:Bool) (i:Int):Int:=if hasB ws i then (if o then 0 else 31) else 30
def errP (ws:List Int) (i:Int):Int:=if hasB ws i then 0 else 30
def wordAt (ws:List Int) (i:Int):Int:=ws.getD i.toNat 0
def addV (x n:Int):Int:=IntKind.u64.wrap (x+n)
def up (c:Int):Int:=wrap64 (c+1)
theorem an3 {ws:List Int} {i:Int} (h:hasB ws i=true):∃ k:Nat,i=k/\k<ws.length:=by
 have:=zP h;exact⟨i.toNat,by omega,by omega⟩
end Go.Proofs.YtipakfjpfjehmaaGreatDoor
namespace Go.Proofs.YtipakfjpfjehmaaGreatDoor.Md
open Go.ChangeShapes Go.WideShapes Go.ChangeAt Go.RowKit
theorem aB6 (n g:Int) (w:World):Calls Tryz.prog 52 #[.int .i64 n,.int .i64 g] w fun e w'=>e=.returned (.bool (decide (1<=n) && decide (n<=g)))/\w'=w:=by
 by_cases h1:1<=n <;> by_cases h2:n<=g
 all_goals
  go_enter Tryz.func52,Tryz.ntmps52
  go_wp2
  go_ret;exact⟨by simp[h1,h2],rfl⟩
section
variable {w:World} {b g:Nat} {ws:List Int} {o:Bool} {c:Int}
theorem aa2 (h:MemAt 106 w b g ws o c) (i:Int):Calls Tryz.prog 74 #[.pointer (some ⟨b,0,none⟩),.int .i64 i] w fun e w'=>e=.returned (.bool (hasB ws i))/\w'=w:=by
 have h0:=h.cell0;have hb:=h.ltB;unfold hasB
 by_cases h1:0<=i <;> by_cases h2:i<(ws.length:Int)
 all_goals
  go_enter Tryz.func74,Tryz.ntmps74
  go_wp2
  go_ret;exact⟨by simp[h1,h2],rfl⟩
theorem len_any (h:MemAt 106 w b g ws o c):Calls Tryz.prog 247 #[.pointer (some ⟨b,0,none⟩)] w fun e w'=>e=.returned (.int .i64 ws.length)/\w'=w:=by
 have h0:=h.cell0;have hb:=h.ltB;go_enter Tryz.func247,Tryz.ntmps247
 go_wp2
 go_ret;exact⟨rfl,rfl⟩
theorem open_any (h:MemAt 106 w b g ws o c):Calls Tryz.prog 245 #[.pointer (some ⟨b,0,none⟩)] w fun e w'=>e=.returned (.tuple #[])/\MemAt 106 w' b g ws true c/\Chg b g w w':=by
 have h0:=h.cell1;have hb:=h.ltB;have hf:=h.freeB 1;go_enter Tryz.func245,Tryz.ntmps245
 go_wp2
 go_end0
 exact⟨rfl,h.setO true,(Chg.refl _ _ _).setB _ _⟩
theorem peek_any (h:MemAt 106 w b g ws o c) (i:Int):Calls Tryz.prog 67 #[.pointer (some ⟨b,0,none⟩),.int .i64 i] w fun e w'=>e=.returned (.tuple #[.int .u64 (if hasB ws i then wordAt ws i else 0),.int .i64 (errP ws i)])/\w'=w:=by
 have h0:=h.cell0;have hb:=h.ltB;have hg:=h.ltG;unfold errP
 cases hh:hasB ws i
 ·go_enter Tryz.func67,Tryz.ntmps67
  go_wp2_with (go_at_call 74;refine(aa2 h _).mono ?_;rw[hh];rintro e w' ⟨rfl,hw⟩;subst w')
  go_ret2;exact⟨rfl,rfl⟩
 ·obtain⟨k,rfl,hk⟩:=an3 hh
  have hx:=h.word hk;have hk2:(k:Int)<(ws.length:Int):=by omega
  have hv:wordAt ws k=ws[k]:=by simp[wordAt,hk]
  rw[hv]
  generalize ws[k]=x at *
  clear hv;go_enter Tryz.func67,Tryz.ntmps67
  go_wp2_with (go_at_call 74;refine(aa2 h _).mono ?_;rw[hh];rintro e w' ⟨rfl,hw⟩;subst w')
  go_ret2;exact⟨rfl,rfl⟩
end
def inB (n g:Int):Bool:=decide (1<=n) && decide (n<=g)
def cfgB (a b c e:Int):Bool:=inB a 256 && inB b 8 && inB c 1024 && inB e 32
theorem bv1 {n g:Int}:inB n g=true ↔ 1<=n/\n<=g:=by simp[inB]
theorem cfgB_iff {a b c e:Int}:cfgB a b c e=true ↔ (1<=a/\a<=256)/\(1<=b/\b<=8)/\(1<=c/\c<=1024)/\(1<=e/\e<=32):=by
 simp only[cfgB,Bool.and_eq_true,bv1]
 constructor
 ·rintro⟨⟨⟨h1,h2⟩,h3⟩,h4⟩;exact⟨h1,h2,h3,h4⟩
 ·rintro⟨h1,h2,h3,h4⟩;exact⟨⟨⟨h1,h2⟩,h3⟩,h4⟩
theorem a82 {n g:Int} {x:Bool} (h:inB n g=x) (w:World):Calls Tryz.prog 52 #[.int .i64 n,.int .i64 g] w fun e w'=>e=.returned (.bool x)/\w'=w:=by
 subst h;exact aB6 n g w
theorem a91 (a b c e:Int) (w:World):Calls Tryz.prog 51 #[.agg #[.int .i64 a,.int .i64 b,.int .i64 c,.int .i64 e]] w fun r w'=>r=.returned (.bool (cfgB a b c e))/\w'=w.alloc (.cells #[.int .i64 a,.int .i64 b,.int .i64 c,.int .i64 e] 23):=by
 unfold cfgB
 cases h1:inB a 256
 ·go_enter Tryz.func51,Tryz.ntmps51
  go_wp2_with ((go_at_call 52;refine(a82 h1 _).mono ?_;rintro r w' ⟨rfl,hw⟩;subst w';clear h1))
  go_ret;exact⟨rfl,rfl⟩
 cases h2:inB b 8
 ·go_enter Tryz.func51,Tryz.ntmps51
  go_wp2_with (first | (go_at_call 52;refine(a82 h1 _).mono ?_;rintro r w' ⟨rfl,hw⟩;subst w';clear h1) | (go_at_call 52;refine(a82 h2 _).mono ?_;rintro r w' ⟨rfl,hw⟩;subst w';clear h2))
  go_ret;exact⟨rfl,rfl⟩
 cases h3:inB c 1024
 ·go_enter Tryz.func51,Tryz.ntmps51
  go_wp2_with (first | (go_at_call 52;refine(a82 h1 _).mono ?_;rintro r w' ⟨rfl,hw⟩;subst w';clear h1) | (go_at_call 52;refine(a82 h2 _).mono ?_;rintro r w' ⟨rfl,hw⟩;subst w';clear h2) | (go_at_call 52;refine(a82 h3 _).mono ?_;rintro r w' ⟨rfl,hw⟩;subst w';clear h3))
  go_ret;exact⟨rfl,rfl⟩
 cases h4:inB e 32
 all_goals
  go_enter Tryz.func51,Tryz.ntmps51
  go_wp2_with (first | (go_at_call 52;refine(a82 h1 _).mono ?_;rintro r w' ⟨rfl,hw⟩;subst w';clear h1) | (go_at_call 52;refine(a82 h2 _).mono ?_;rintro r w' ⟨rfl,hw⟩;subst w';clear h2) | (go_at_call 52;refine(a82 h3 _).mono ?_;rintro r w' ⟨rfl,hw⟩;subst w';clear h3) | (go_at_call 52;refine(a82 h4 _).mono ?_;rintro r w' ⟨rfl,hw⟩;subst w';clear h4))
  go_ret;exact⟨rfl,rfl⟩
theorem ar6 (a b c e:Int) (w:World):Calls Tryz.prog 61 #[.agg #[.int .i64 a,.int .i64 b,.int .i64 c,.int .i64 e]] w fun r w'=>r=.returned (.bool (cfgB a b c e))/\w'=w.alloc (.cells #[.int .i64 a,.int .i64 b,.int .i64 c,.int .i64 e] 23):=by
 have H:Hid (cfgB a b c e=(decide (1<=a) && decide (a<=256) && decide (1<=b) && decide (b<=8) && decide (1<=c) && decide (c<=1024) && decide (1<=e) && decide (e<=32))):=by
  show _=_
  simp only[cfgB,inB,Bool.and_assoc]
 go_enter Tryz.func61,Tryz.ntmps61
 go_wp2
 all_goals go_ret
 all_goals refine⟨?_,rfl⟩
 all_goals rw[H.out]
 all_goals refine congrArg (fun x=>Ending.returned (Value.bool x)) ?_
 all_goals rw[Bool.eq_iff_iff]
 all_goals simp
 all_goals omega
theorem place_any (a b c e:Int) (w:World):Calls Tryz.prog 27 #[.agg #[.int .i64 a,.int .i64 b,.int .i64 c,.int .i64 e]] w fun r w'=>r=.returned (if cfgB a b c e then .tuple #[.agg #[.int .i64 0,.int .i64 1,.int .i64 2,.int .i64 3,.int .i64 (3+b),.int .i64 (3+b+3*a)],.int .i64 0] else .tuple #[.agg #[.int .i64 0,.int .i64 0,.int .i64 0,.int .i64 0,.int .i64 0,.int .i64 0],.int .i64 1])/\Bl w w':=by
 cases hc:cfgB a b c e
 ·have HM:=fun W=>a91 a b c e W
  rw[hc]at HM;replace HM:=zH HM;clear hc;rw[if_neg Bool.false_ne_true];go_enter Tryz.func27,Tryz.ntmps27
  go_wp2_with (go_at_call 51;refine(HM.out _).mono ?_;rintro r w1 ⟨rfl,hb⟩;subst w1)
  exact bodyPost_ret (v:=.tuple #[.agg #[.int .i64 0,.int .i64 0,.int .i64 0,.int .i64 0,.int .i64 0,.int .i64 0],.int .i64 1]) (by simp[results,Tryz.results27,go_sem]) rfl ⟨rfl,(((zF _ _).alloc (zE _) _).alloc (by simp) _).alloc (by simp;omega) _⟩
 ·obtain⟨⟨a1,a2⟩,⟨b1,b2⟩,_,_⟩:=cfgB_iff.1 hc
  have HM:=fun W=>a91 a b c e W
  rw[hc]at HM;replace HM:=zH HM;clear hc;rw[if_pos rfl];go_enter Tryz.func27,Tryz.ntmps27
  go_wp2_with (go_at_call 51;refine(HM.out _).mono ?_;rintro r w1 ⟨rfl,hb⟩;subst w1)
  exact bodyPost_ret (v:=.tuple #[.agg #[.int .i64 0,.int .i64 1,.int .i64 2,.int .i64 3,.int .i64 (3+b),.int .i64 (3+b+3*a)],.int .i64 0]) (by simp[results,Tryz.results27,go_sem]) rfl ⟨rfl,(((zF _ _).alloc (zE _) _).alloc (by simp) _).alloc (by simp;omega) _⟩
theorem refPlace_any (a b c e:Int) (w:World):Calls Tryz.prog 34 #[.agg #[.int .i64 a,.int .i64 b,.int .i64 c,.int .i64 e]] w fun r w'=>r=.returned (if cfgB a b c e then .tuple #[.agg #[.int .i64 0,.int .i64 1,.int .i64 2,.int .i64 3,.int .i64 (3+b),.int .i64 (3+b+3*a)],.int .i64 0] else .tuple #[.agg #[.int .i64 0,.int .i64 0,.int .i64 0,.int .i64 0,.int .i64 0,.int .i64 0],.int .i64 1])/\Bl w w':=by
 cases hc:cfgB a b c e
 ·have HM:=fun W=>ar6 a b c e W
  rw[hc]at HM;replace HM:=zH HM;clear hc;rw[if_neg Bool.false_ne_true];go_enter Tryz.func34,Tryz.ntmps34
  go_wp2_with (go_at_call 61;refine(HM.out _).mono ?_;rintro r w1 ⟨rfl,hb⟩;subst w1)
  exact bodyPost_ret (v:=.tuple #[.agg #[.int .i64 0,.int .i64 0,.int .i64 0,.int .i64 0,.int .i64 0,.int .i64 0],.int .i64 1]) (by simp[results,Tryz.results34,go_sem]) rfl ⟨rfl,(((zF _ _).alloc (zE _) _).alloc (by simp) _).alloc (by simp;omega) _⟩
 ·obtain⟨⟨a1,a2⟩,⟨b1,b2⟩,_,_⟩:=cfgB_iff.1 hc
  have HM:=fun W=>ar6 a b c e W
  rw[hc]at HM;replace HM:=zH HM;clear hc;rw[if_pos rfl];go_enter Tryz.func34,Tryz.ntmps34
  go_wp2_with (go_at_call 61;refine(HM.out _).mono ?_;rintro r w1 ⟨rfl,hb⟩;subst w1)
  exact bodyPost_ret (v:=.tuple #[.agg #[.int .i64 0,.int .i64 1,.int .i64 2,.int .i64 3,.int .i64 (3+b),.int .i64 (3+b+3*a)],.int .i64 0]) (by simp[results,Tryz.results34,go_sem]) rfl ⟨rfl,(((zF _ _).alloc (zE _) _).alloc (by simp) _).alloc (by simp;omega) _⟩
theorem cells4 {w:World} {x:Nat} {v0 v1 v2 v3:Value} {T:TypeId} (h:w.heap[x]?=some (.cells #[v0,v1,v2,v3] T (0,0))) :
  w.cell? ⟨x,0,none⟩=some v0/\w.cell? ⟨x,1,none⟩=some v1/\w.cell? ⟨x,2,none⟩=some v2/\w.cell? ⟨x,3,none⟩=some v3/\x<w.heap.size :=
 ⟨by rw[zR w x 0 _ _ _ h];rfl,by rw[zR w x 1 _ _ _ h];rfl,by rw[zR w x 2 _ _ _ h];rfl,by rw[zR w x 3 _ _ _ h];rfl,lt_of_block h⟩
end Go.Proofs.YtipakfjpfjehmaaGreatDoor.Md
