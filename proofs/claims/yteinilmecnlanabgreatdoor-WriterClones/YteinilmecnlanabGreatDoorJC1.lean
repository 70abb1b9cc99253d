import Derived.Test.YteinilmecnlanabGreatDoorS1
import Derived.Test.YteinilmecnlanabGreatDoorWalkB
import Derived.Deep.RegionHeld
import Derived.Deep.AppendLies
import Derived.Maps.OwnSet
import Derived.Lib.IndexMore
import Derived.Test.YteinilmecnlanabGreatDoorC0
import Derived.Test.YteinilmecnlanabGreatDoorGr
import Derived.Test.YteinilmecnlanabGreatDoorWalkA
import Derived.WalkKit
import Derived.ProofKit
import Derived.OpenShut
import Derived.WalkLawsBesides
import Derived.Laws.EntriesVeiled
import Derived.Test.YteinilmecnlanabGreatDoorNum2
import Derived.Deep.RegionLaw
import Derived.Shelf.SlMaps.Clone
import Derived.Laws.FloatArith
import Derived.Laws.FloatBits
import Derived.StillTailTactics
import Derived.Test.YteinilmecnlanabGreatDoorM2
import Derived.Laws.StructEq
set_option maxRecDepth 100000
set_option maxHeartbeats 8000000
namespace Go.Proofs.YteinilmecnlanabGreatDoor
open Go.ChangeShapes Go.WideShapes Go.ChangeAt Go.RowKit Num Go.Maps
open Go.ChangeMaps Go.MapKept
theorem run_store_float (a:Addr) (m:Mode) (k:FloatKind) (b:Nat) (w:World):(store a (.float k b) m).run Tryz.prog w=stored Tryz.prog w a (.float k b) m:=run_store Tryz.prog w a _ m rfl
abbrev Wr:=List (Int × Nat)
def cellsOfL (l:Wr):List Int:=l.map (·.1)
theorem cells_len (l:Wr):(cellsOfL l).length=l.length:=by unfold cellsOfL;rw [List.length_map]
def idx (l:Wr) (c:Int):Nat:=l.findIdx (fun t=>t.1 == c)
def hasC (l:Wr) (c:Int):Bool:=decide (idx l c<l.length)
def getC (l:Wr) (c:Int):Nat:=(l.getD (idx l c) (0,0)).2
def putC (l:Wr) (c:Int) (y:Nat):Wr:=if hasC l c then l.set (idx l c) (c,y) else l ++ [(c,y)]
theorem idx_le (l:Wr) (c:Int):idx l c≤l.length:=List.findIdx_le_length
theorem idx_at {l:Wr} {c:Int} (h:idx l c<l.length):l[idx l c].1=c:=by
 have:=List.findIdx_getElem (p:=fun t:Int × Nat=>t.1 == c) (xs:=l) (w:=h)
 exact eq_of_beq this
theorem idx_not {l:Wr} {c:Int} {i:Nat} (h:i<idx l c) (h2:i<l.length):l[i].1≠c:=by
 have:=List.not_of_lt_findIdx (p:=fun t:Int × Nat=>t.1 == c) (xs:=l) h
 simpa using this
theorem idx_nil (c:Int):idx [] c=0:=rfl
theorem idx_cons (t:Int × Nat) (l:Wr) (c:Int):idx (t::l) c=if t.1=c then 0 else idx l c+1:=by
 unfold idx
 rw [List.findIdx_cons]
 by_cases h:t.1=c
 ·simp [h]
 ·rw [if_neg h,beq_false_of_ne h]
  rfl
theorem hasC_cons (t:Int × Nat) (l:Wr) (c:Int):hasC (t::l) c=(decide (t.1=c) || hasC l c):=by
 unfold hasC
 rw [idx_cons]
 by_cases h:t.1=c <;> simp [h]
theorem getC_cons (t:Int × Nat) (l:Wr) (c:Int):getC (t::l) c=if t.1=c then t.2 else getC l c:=by
 unfold getC
 rw [idx_cons]
 by_cases h:t.1=c <;> simp [h]
theorem putC_cons (t:Int × Nat) (l:Wr) (c:Int) (y:Nat):putC (t::l) c y=if t.1=c then (c,y)::l else t::putC l c y:=by
 unfold putC
 rw [hasC_cons,idx_cons]
 by_cases h:t.1=c
 ·simp [h]
 ·cases h2:hasC l c <;> simp [h]
theorem hasC_put (l:Wr) (c:Int) (y:Nat) (d:Int):hasC (putC l c y) d=(decide (c=d) || hasC l d):=by
 induction l with
 | nil=>by_cases h:c=d <;> simp [putC,hasC,idx_nil,idx_cons,h]
 | cons t l ih =>
  rw [putC_cons]
  by_cases h:t.1=c
  ·rw [if_pos h,hasC_cons,hasC_cons,h];cases decide (c=d) <;> simp
  ·rw [if_neg h,hasC_cons,hasC_cons,ih];cases decide (c=d) <;> simp
theorem getC_put (l:Wr) (c:Int) (y:Nat) (d:Int):getC (putC l c y) d=if c=d then y else getC l d:=by
 induction l with
 | nil=>by_cases h:c=d <;> simp [putC,hasC,getC,idx_nil,idx_cons,h]
 | cons t l ih =>
  rw [putC_cons]
  by_cases h:t.1=c
  ·rw [if_pos h,getC_cons,getC_cons,h];by_cases h2:c=d <;> simp [h2]
  ·rw [if_neg h,getC_cons,getC_cons,ih]
   by_cases h2:t.1=d
   ·rw [if_pos h2,if_pos h2,if_neg (fun q=>h (h2.trans q.symm))]
   ·rw [if_neg h2,if_neg h2]
theorem putC_len (l:Wr) (c:Int) (y:Nat):(putC l c y).length=if hasC l c then l.length else l.length+1:=by
 unfold putC
 split <;> simp
theorem cells_put (l:Wr) (c:Int) (y:Nat):cellsOfL (putC l c y)=if hasC l c then cellsOfL l else cellsOfL l ++ [c]:=by
 unfold putC
 split
 ·rename_i h
  have hi:idx l c<l.length:=by simpa [hasC] using h
  unfold cellsOfL
  rw [List.map_set]
  have e:=idx_at hi
  apply List.ext_getElem?
  intro j
  rw [List.getElem?_set]
  split
  ·rename_i q
   subst q
   simp [hi,e]
  ·rfl
 ·simp [cellsOfL]
theorem hasC_mem {l:Wr} {c:Int}:hasC l c=true ↔ c∈cellsOfL l:=by
 induction l with
 | nil=>simp [hasC,idx_nil,cellsOfL]
 | cons t l ih =>
  rw [hasC_cons]
  have e:cellsOfL (t::l)=t.1::cellsOfL l:=rfl
  rw [e,List.mem_cons,← ih,Bool.or_eq_true,decide_eq_true_eq,eq_comm (a:=c)]
theorem nodup_put {l:Wr} {c:Int} {y:Nat} (h:(cellsOfL l).Nodup):(cellsOfL (putC l c y)).Nodup:=by
 rw [cells_put]
 split
 ·exact h
 ·rename_i q
  rw [List.nodup_append]
  refine ⟨h,by simp,fun a ha b hb e=>q (hasC_mem.2 ?_)⟩
  simp at hb
  rw [← hb,← e]
  exact ha
theorem idx_of {l:Wr} (h:(cellsOfL l).Nodup) {i:Nat} (hi:i<l.length):idx l l[i].1=i:=by
 have h0:hasC l l[i].1=true:=hasC_mem.2 (by unfold cellsOfL;exact List.mem_map.2 ⟨l[i],List.getElem_mem hi,rfl⟩)
 have h1:idx l l[i].1<l.length:=by simpa [hasC] using h0
 have h2:=idx_at h1
 have:=(List.getElem_inj (i:=idx l l[i].1) (j:=i) (h₀:=by rw [cells_len];exact h1) (h₁:=by rw [cells_len];exact hi) h).1 (by simp [cellsOfL,h2])
 exact this
theorem getC_of {l:Wr} (h:(cellsOfL l).Nodup) {i:Nat} (hi:i<l.length):getC l l[i].1=l[i].2:=by
 unfold getC
 rw [idx_of h hi]
 simp [hi]
def fd (x:Nat):DataW Unit:=.lit (.float .f64 x)
def fElem:Value→Option (DataW Unit × List MemPlace)
 | .float .f64 x=>some (fd x,[])
 | _=>none
theorem fElem_inv {v:Value} {x:Nat} {ps:List MemPlace} (h:fElem v=some (fd x,ps)):v=.float .f64 x:=by
 unfold fElem at h
 split at h
 ·simp [fd] at h
  rw [h.1]
 ·cases h
theorem keysI:Keyed Tryz.prog 3:=int_keyed Tryz.underlying3
theorem zeroF (w:World):(zeroValue 64).run Tryz.prog w=.ok (.float .f64 0) w:=by kernel_rfl
theorem size_is {k:TypeId} {R:Value→Option (DataW Unit × List MemPlace)} {w:World} {b n:Nat} {D:DataW Unit} (h:w.ownsMap Tryz.prog k R b n D):w.ownsMap Tryz.prog k R b (Maps.size D) D:=by
 obtain ⟨es,clock,hb,F,_,rfl⟩:=h
 exact ⟨es,clock,hb,F,by simp [Maps.size,length_sorted],rfl⟩
def MapAt (w:World) (b:Nat) (l:Wr):Prop :=
 ∃ D:DataW Unit,w.ownsMap Tryz.prog 3 fElem b l.length D∧Maps.size D=l.length∧∀ c,(Lit.int .i64 c).wf=true→Maps.has D (.int .i64 c)=hasC l c∧D.atKey (.int .i64 c) (fd 0)=fd (getC l c)
section
variable {w w':World} {b:Nat} {l:Wr}
theorem MapAt.lt (h:MapAt w b l):b<w.heap.size:=by obtain ⟨D,h1,_⟩:=h;exact h1.lt
theorem MapAt.keep (h:MapAt w b l) (k:w'.heap[b]?=w.heap[b]?):MapAt w' b l:=by
 obtain ⟨D,⟨es,clock,hb,r⟩,h2⟩:=h
 exact ⟨D,⟨es,clock,k.trans hb,r⟩,h2⟩
theorem map_new (w:World):MapAt (w.alloc (.map #[] 0)) w.heap.size [] :=
 ⟨.map [],World.ownsMap_made w _ _ _,rfl,fun _ _=>⟨rfl,rfl⟩⟩
theorem MapAt.look (h:MapAt w b l) {c:Int} (hc:(Lit.int .i64 c).wf=true):(Instr.lookup 156 (.map (some b)) (.int .i64 c) true).run Tryz.prog w=.ok (.tuple #[.float .f64 (getC l c),.bool (hasC l c)]) w:=by
 obtain ⟨D,h1,_,h3⟩:=h
 obtain ⟨v,ps,hrun,hv⟩:=h1.look_ok keysI Tryz.underlying156 (zeroF w) (zd:=fd 0) (zp:=[]) rfl (keyOf_int_mk Tryz.underlying3 hc)
 rw [(h3 c hc).2] at hv
 rw [hrun,fElem_inv hv,(h3 c hc).1]
theorem MapAt.look1 (h:MapAt w b l) {c:Int} (hc:(Lit.int .i64 c).wf=true):(Instr.lookup 156 (.map (some b)) (.int .i64 c) false).run Tryz.prog w=.ok (.float .f64 (getC l c)) w:=by
 obtain ⟨D,h1,_,h3⟩:=h
 obtain ⟨v,ps,hrun,hv⟩:=h1.lookup keysI Tryz.underlying156 (zeroF w) (zd:=fd 0) (zp:=[]) rfl (keyOf_int_mk Tryz.underlying3 hc)
 rw [(h3 c hc).2] at hv
 rw [hrun,fElem_inv hv]
theorem lit_ne {c d:Int} (h:c≠d):(Lit.int .i64 d)≠(Lit.int .i64 c):=fun e=>h (by injection e with _ e2;exact e2.symm)
theorem MapAt.lay (h:MapAt w b l) {c:Int} (hc:(Lit.int .i64 c).wf=true) (y:Nat) (hn:l.length<maxLen):∃ w',(Instr.mapUpdate 156 (.map (some b)) (.int .i64 c) (.float .f64 y)).run Tryz.prog w=.ok () w'∧MapAt w' b (putC l c y)∧w.grownBy w' (some b):=by
 obtain ⟨D,h1,h2,h3⟩:=h
 have hk:=keyOf_int_mk Tryz.underlying3 hc
 obtain ⟨w',hrun,ho,hg⟩:=h1.update keysI Tryz.underlying156 hn hk (val:=.float .f64 y) (d:=fd y) (ps:=[]) rfl
 have hs:Maps.size (D.put (.int .i64 c) (fd y))=(putC l c y).length:=by
  rw [size_put (h1.tidy keysI),(h3 c hc).1,h2,putC_len]
 have ho2:=size_is ho
 rw [hs] at ho2
 refine ⟨w',hrun,⟨_,ho2,hs,fun d hd=>?_⟩,hg⟩
 by_cases e:c=d
 ·subst e
  rw [has_put_same h1.isMap (keysI.key hk),atKey_put_same h1.isMap (keysI.key hk),hasC_put,getC_put]
  simp
 ·rw [has_put_other (lit_ne e),atKey_put_other (lit_ne e),hasC_put,getC_put,if_neg e]
  refine ⟨?_,(h3 d hd).2⟩
  rw [(h3 d hd).1]
  simp [e]
theorem MapAt.copy (h:MapAt w b l) (t:TypeId):∃ w',(Extern.MapsClone.clone #[.iface t (.map (some b))]).run Tryz.prog w=.ok (.iface t (.map (some w.heap.size))) w'∧MapAt w' w.heap.size l∧Below w.heap.size w w'∧w'.heap.size=w.heap.size+1:=by
 obtain ⟨D,⟨es,clock,hb,r⟩,h2⟩:=h
 refine ⟨w.alloc (.map es clock),?_,⟨D,⟨es,clock,heap_alloc_new _ _,r⟩,h2⟩,(Below.refl _ _).alloc (Nat.le_refl _) _,by simp⟩
 obtain ⟨f,e,hf⟩:∃ f,Extern.MapsClone.clone #[.iface t (.map (some b))]=(getObj b >>= f)∧∀ x y,f (.map x y)=(newObj (.map x y) >>= fun n=>pure (.iface t (.map (some n)))):=⟨_,rfl,fun _ _=>rfl⟩
 rw [e]
 simp [MapKept.run_getObj_map hb,hf,Result.andThen,go_sem]
end
end Go.Proofs.YteinilmecnlanabGreatDoor
namespace Go.Proofs.YteinilmecnlanabGreatDoor
open Go.ChangeShapes Go.WideShapes Go.ChangeAt Go.RowKit Num
structure Shp where
 word:List UInt8
 kind:Nat
 lo:Int
 hi:Int
 takes:Int
 lays:Int
def shpT:List Shp:=[
 ⟨[],0,0,0,0,0⟩,
 ⟨[112,117,115,104],1,0,0,0,1⟩,
 ⟨[100,114,111,112],0,0,0,1,0⟩,
 ⟨[100,117,112],0,0,0,1,2⟩,
 ⟨[115,119,97,112],0,0,0,2,2⟩,
 ⟨[112,105,99,107],2,0,63,0,1⟩,
 ⟨[97,114,103],2,0,7,0,1⟩,
 ⟨[103,101,116],2,0,7,0,1⟩,
 ⟨[115,101,116],2,0,7,1,0⟩,
 ⟨[],4,1,8,1,1⟩,
 ⟨[],5,1,12,2,1⟩,
 ⟨[106,117,109,112],3,0,1023,0,0⟩,
 ⟨[105,102],3,0,1023,1,0⟩,
 ⟨[117,110,108,101,115,115],3,0,1023,1,0⟩,
 ⟨[99,97,108,108],3,0,1023,0,0⟩,
 ⟨[114,101,116],0,0,0,0,0⟩,
 ⟨[114,101,97,100],0,0,0,1,1⟩,
 ⟨[119,114,105,116,101],0,0,0,2,0⟩,
 ⟨[101,109,105,116],0,0,0,1,0⟩,
 ⟨[97,98,111,114,116],2,0,99,0,0⟩,
 ⟨[104,97,108,116],0,0,0,0,0⟩]
def shp (k:Nat):Shp:=shpT.getD k ⟨[],0,0,0,0,0⟩
structure Ins where
 op:Int
 n:Int
 x:Nat
def ci (c:List Ins) (k:Nat):Ins:=c.getD k ⟨0,0,0⟩
theorem ci_lt {c:List Ins} {k:Nat} (h:k<c.length):c[k]?=some (ci c k):=by
 unfold ci
 rw [List.getD_eq_getElem?_getD,List.getElem?_eq_getElem h]
 rfl
theorem all_range {n:Nat} {p:Nat→Bool}:(List.range n).all p=true ↔ ∀ i,i<n→p i=true:=by
 rw [List.all_eq_true]
 exact ⟨fun h i hi=>h i (List.mem_range.2 hi),fun h i hi=>h i (List.mem_range.1 hi)⟩
def knownB (op:Int):Bool:=decide (0<op) && decide (op≤20)
def fitsB (op:Nat) (n:Int):Bool:=decide ((shp op).lo≤n) && decide (n≤(shp op).hi)
def outB (op:Nat) (n:Int) (many:Nat):Bool:=decide ((shp op).kind=3) && decide ((many:Int)≤n)
def mayB (i:Ins) (many:Nat):Bool:=knownB i.op && fitsB i.op.toNat i.n && !outB i.op.toNat i.n many && (decide (i.op=1) || fixB i.x == 0)
def checkB (tag:Int) (c:List Ins):Bool:=(decide (tag=1) || decide (tag=2)) && decide (1≤c.length) && decide (c.length≤1024) && (List.range c.length).all fun k=>mayB (ci c k) c.length
def checkE (tag:Int) (c:List Ins):Int:=if checkB tag c then 0 else 50
theorem kind_3:∀ k,k<21→(shp k).kind=3→k≠1∧(shp k).lo=0∧(shp k).hi=1023:=by decide +kernel
theorem check_parts {t:Int} {c:List Ins}:checkB t c=true ↔ (t=1∨t=2)∧1≤c.length∧c.length≤1024∧∀ k,k<c.length→mayB (ci c k) c.length=true:=by
 unfold checkB
 simp only [Bool.and_eq_true,Bool.or_eq_true,decide_eq_true_eq,all_range]
 exact ⟨fun ⟨⟨⟨a,b⟩,c⟩,d⟩=>⟨a,b,c,d⟩,fun ⟨a,b,c,d⟩=>⟨⟨⟨a,b⟩,c⟩,d⟩⟩
end Go.Proofs.YteinilmecnlanabGreatDoor
namespace Go.Proofs.YteinilmecnlanabGreatDoor
open Go.ChangeShapes Go.WideShapes Go.ChangeAt Go.RowKit Num
def strB (l:List UInt8):Value:=.string ⟨l.toArray⟩
structure Shaped5 (w:World):Prop where
 shp:∀ k,k<21→w.cell? ⟨1,k*6,none⟩=some (strB (shp k).word)∧w.cell? ⟨1,k*6+1,none⟩=some (.int .i64 (shp k).kind)∧w.cell? ⟨1,k*6+2,none⟩=some (.int .i64 (shp k).lo) ∧
  w.cell? ⟨1,k*6+3,none⟩=some (.int .i64 (shp k).hi)∧w.cell? ⟨1,k*6+4,none⟩=some (.int .i64 (shp k).takes)∧w.cell? ⟨1,k*6+5,none⟩=some (.int .i64 (shp k).lays)
theorem Shaped5.on {w w':World} (h:Shaped5 w) (hb:Below w.heap.size w w'):Shaped5 w':=by
 have on:∀ {a:Addr} {v:Value},w.cell? a=some v→w'.cell? a=some v:=fun {a v} h=>by
  rw [hb.cell (World.block_lt_of_cell? w a h)]
  exact h
 refine ⟨fun k hk=>?_⟩
 obtain ⟨c0,c1,c2,c3,c4,c5⟩:=h.shp k hk
 exact ⟨on c0,on c1,on c2,on c3,on c4,on c5⟩
theorem known_any (op:Int) (w:World):Calls Tryz.prog 100 #[.int .i64 op] w fun e w'=>e=.returned (.bool (knownB op))∧w'=w:=by
 by_cases h:0<op
 ·by_cases h2:op≤20
  ·have e:knownB op=true:=by unfold knownB;simp [h,h2]
   rw [e]
   go_enter Tryz.func100,Tryz.ntmps100
   go_wp2
   go_ret
   exact ⟨rfl,rfl⟩
  ·have e:knownB op=false:=by unfold knownB;simp;omega
   rw [e]
   have h2':20<op:=by omega
   go_enter Tryz.func100,Tryz.ntmps100
   go_wp2
   go_ret
   exact ⟨rfl,rfl⟩
 ·have h':op≤0:=by omega
  have e:knownB op=false:=by unfold knownB;simp;omega
  rw [e]
  go_enter Tryz.func100,Tryz.ntmps100
  go_wp2
  go_ret
  exact ⟨rfl,rfl⟩
theorem effect_some (k:Nat) (w:World) (hT:Shaped5 w) (hk:k<21) (h1:1≤k):Calls Tryz.prog 161 #[.int .i64 k] w fun e w'=>e=.returned (.tuple #[.int .i64 (shp k).takes,.int .i64 (shp k).lays,.int .i64 0])∧Same w w':=by
 obtain ⟨c0,c1,c2,c3,c4,c5⟩:=hT.shp k hk
 have hkn:knownB (k:Int)=true:=by unfold knownB;simp;omega
 have hk':(k:Int)<21:=by omega
 clear hT c0 c1 c2 c3
 generalize (shp k).takes=t at *
 generalize (shp k).lays=l at *
 go_enter Tryz.func161,Tryz.ntmps161
 go_wp2_with (first
  | (go_at_call 100;refine (known_any _ _).mono ?_;rintro e w' ⟨rfl,hw⟩;subst w'))
 go_quiet (fail)
 go_wp2
 go_ret3
 exact ⟨rfl,Same.drewN _ _⟩
theorem fits_any (k:Nat) (n:Int) (w:World) (hT:Shaped5 w) (hk:k<21):Calls Tryz.prog 101 #[.int .i64 k,.int .i64 n] w fun e w'=>e=.returned (.bool (fitsB k n))∧w'=w:=by
 obtain ⟨c0,c1,c2,c3,c4,c5⟩:=hT.shp k hk
 have hk':(k:Int)<21:=by omega
 have HE:Hid (fitsB k n=(decide ((shp k).lo≤n) && decide (n≤(shp k).hi))):=rfl
 clear hT c0 c1 c4 c5
 generalize (shp k).lo=t at *
 generalize (shp k).hi=l at *
 by_cases h:t≤n
 ·by_cases h2:n≤l
  ·have e:fitsB k n=true:=by rw [HE.out];simp [h,h2]
   rw [e]
   go_enter Tryz.func101,Tryz.ntmps101
   go_wp2
   go_ret
   exact ⟨rfl,rfl⟩
  ·have e:fitsB k n=false:=by rw [HE.out];simp;omega
   rw [e]
   have h2':l<n:=by omega
   go_enter Tryz.func101,Tryz.ntmps101
   go_wp2
   go_ret
   exact ⟨rfl,rfl⟩
 ·have h':n<t:=by omega
  have e:fitsB k n=false:=by rw [HE.out];simp;omega
  rw [e]
  go_enter Tryz.func101,Tryz.ntmps101
  go_wp2
  go_ret
  exact ⟨rfl,rfl⟩
theorem outside_any (k:Nat) (n:Int) (x many:Nat) (w:World) (hT:Shaped5 w) (hk:k<21):Calls Tryz.prog 102 #[.agg #[.int .i64 k,.int .i64 n,.float .f64 x],.int .i64 many] w fun e w'=>e=.returned (.bool (outB k n many))∧w'=w.alloc (.cells #[.int .i64 k,.int .i64 n,.float .f64 x] 66):=by
 obtain ⟨c0,c1,c2,c3,c4,c5⟩:=hT.shp k hk
 have hk':(k:Int)<21:=by omega
 have HE:Hid (outB k n many=(decide ((shp k).kind=3) && decide ((many:Int)≤n))):=rfl
 have h0:1<w.heap.size:=World.block_lt_of_cell? w _ c1
 clear hT c0 c2 c3 c4 c5
 by_cases h:(shp k).kind=3
 ·rw [h] at c1
  by_cases h2:(many:Int)≤n
  ·have e:outB k n many=true:=by rw [HE.out];simp [h,h2]
   rw [e]
   go_enter Tryz.func102,Tryz.ntmps102
   go_wp2
   go_ret
   exact ⟨rfl,rfl⟩
  ·have h2':n<(many:Int):=by omega
   have e:outB k n many=false:=by rw [HE.out];simp [h,h2]
   rw [e]
   go_enter Tryz.func102,Tryz.ntmps102
   go_wp2
   go_ret
   exact ⟨rfl,rfl⟩
 ·have e:outB k n many=false:=by rw [HE.out];simp [h]
  rw [e]
  have h':(((shp k).kind:Nat):Int)≠3:=by omega
  generalize (shp k).kind=t at *
  go_enter Tryz.func102,Tryz.ntmps102
  go_wp2
  go_ret
  exact ⟨rfl,rfl⟩
end Go.Proofs.YteinilmecnlanabGreatDoor
namespace Go.Proofs.YteinilmecnlanabGreatDoor
open Go.ChangeShapes Go.WideShapes Go.ChangeAt Go.RowKit Num
theorem chain5 {a b c:World} (h:Below a.heap.size a b) (k:Below b.heap.size b c):Below a.heap.size a c:=h.trans (k.mono h.size)
theorem box5 (w:World) (x:Obj):Below w.heap.size w (w.alloc x):=(Below.refl _ _).alloc (Nat.le_refl _) x
theorem bl_alloc {w w':World} (x:Obj) (h:Below w.heap.size w w'):Below w.heap.size w (w'.alloc x):=chain5 h (box5 _ _)
theorem bl_drewN {w w':World} (n:Nat) (h:Below w.heap.size w w'):Below w.heap.size w (w'.drewN n):=h.trans ((Same.drewN _ n).below _)
def insV (i:Ins):Value:=.agg #[.int .i64 i.op,.int .i64 i.n,.float .f64 i.x]
theorem mayBe_any (i:Ins) (many:Nat) (w:World) (hT:Shaped5 w):Calls Tryz.prog 82 #[insV i,.int .i64 many] w fun e w'=>e=.returned (.bool (mayB i many))∧Below w.heap.size w w':=by
 obtain ⟨op,n,x⟩:=i
 unfold insV
 simp only
 have HT:=Lib.hid hT
 clear hT
 cases hk:knownB op with
 | false =>
  have e:mayB ⟨op,n,x⟩ many=false:=by unfold mayB;simp [hk]
  rw [e]
  go_enter Tryz.func82,Tryz.ntmps82
  go_wp2_with (first
   | (go_at_call 100;refine (known_any _ _).mono ?_;rintro e w' ⟨rfl,hw⟩;subst w'))
  go_ret
  exact ⟨rfl,box5 _ _⟩
 | true =>
  have hop:0<op∧op≤20:=by unfold knownB at hk;simpa using hk
  obtain ⟨k,rfl⟩:∃ k:Nat,op=k:=⟨op.toNat,by omega⟩
  have hk21:k<21:=by omega
  have HE:Hid (mayB ⟨k,n,x⟩ many=(true && fitsB k n && !outB k n many && (decide ((k:Int)=1) || fixB x == 0))):=by
   show mayB _ _=_
   unfold mayB
   rw [hk]
   rfl
  cases hf:fitsB k n with
  | false =>
   have e:mayB ⟨k,n,x⟩ many=false:=by rw [HE.out,hf];rfl
   rw [e]
   go_enter Tryz.func82,Tryz.ntmps82
   go_wp2_with (first
    | (go_at_call 100;refine (known_any _ _).mono ?_;rintro e w' ⟨rfl,hw⟩;subst w')
    | (go_at_call 101;refine (fits_any k n _ (HT.out.on (box5 _ _)) hk21).mono ?_;rintro e w' ⟨rfl,hw⟩;subst w'))
   go_ret
   exact ⟨rfl,box5 _ _⟩
  | true =>
   cases ho:outB k n many with
   | true =>
    have e:mayB ⟨k,n,x⟩ many=false:=by rw [HE.out,hf,ho];rfl
    rw [e]
    go_enter Tryz.func82,Tryz.ntmps82
    go_wp2_with (first
     | (go_at_call 100;refine (known_any _ _).mono ?_;rintro e w' ⟨rfl,hw⟩;subst w')
     | (go_at_call 101;refine (fits_any k n _ (HT.out.on (box5 _ _)) hk21).mono ?_;rintro e w' ⟨rfl,hw⟩;subst w')
     | (go_at_call 102;refine (outside_any k n x many _ (HT.out.on (box5 _ _)) hk21).mono ?_;rintro e w' ⟨rfl,hw⟩;subst w'))
    go_ret
    exact ⟨rfl,chain5 (box5 _ _) (box5 _ _)⟩
   | false =>
    by_cases h1:(k:Int)=1
    ·obtain rfl:k=1:=by omega
     have e:mayB ⟨(1:Nat),n,x⟩ many=true:=by rw [HE.out,hf,ho];simp
     rw [e]
     have HK1:Hid (∀ w,Calls Tryz.prog 100 #[.int .i64 1] w fun e w'=>e=.returned (.bool true)∧w'=w):=fun w=>by
      have:=known_any ((1:Nat):Int) w
      rw [hk] at this
      exact this
     have HF1:Hid (∀ w,Shaped5 w→Calls Tryz.prog 101 #[.int .i64 1,.int .i64 n] w fun e w'=>e=.returned (.bool true)∧w'=w):=fun w h=>by
      have:=fits_any 1 n w h hk21
      rw [hf] at this
      exact this
     have HO1:Hid (∀ w,Shaped5 w→Calls Tryz.prog 102 #[.agg #[.int .i64 1,.int .i64 n,.float .f64 x],.int .i64 many] w fun e w'=>e=.returned (.bool false)∧w'=w.alloc (.cells #[.int .i64 1,.int .i64 n,.float .f64 x] 66)):=fun w h=>by
      have:=outside_any 1 n x many w h hk21
      rw [ho] at this
      exact this
     clear hk hf ho HE e h1 hop
     go_enter Tryz.func82,Tryz.ntmps82
     go_wp2_with (first
      | (go_at_call 100;refine (HK1.out _).mono ?_;rintro e w' ⟨rfl,hw⟩;subst w')
      | (go_at_call 101;refine (HF1.out _ (HT.out.on (box5 _ _))).mono ?_;rintro e w' ⟨rfl,hw⟩;subst w')
      | (go_at_call 102;refine (HO1.out _ (HT.out.on (box5 _ _))).mono ?_;rintro e w' ⟨rfl,hw⟩;subst w'))
     go_ret
     exact ⟨by simp,chain5 (box5 _ _) (box5 _ _)⟩
    ·have e:mayB ⟨k,n,x⟩ many=(fixB x == fixB 0):=by rw [HE.out,hf,ho,decide_eq_false h1,fixB_num nan_zero];rfl
     rw [e]
     go_enter Tryz.func82,Tryz.ntmps82
     go_wp2_with (first
      | (go_at_call 100;refine (known_any _ _).mono ?_;rintro e w' ⟨rfl,hw⟩;subst w')
      | (go_at_call 101;refine (fits_any k n _ (HT.out.on (box5 _ _)) hk21).mono ?_;rintro e w' ⟨rfl,hw⟩;subst w')
      | (go_at_call 102;refine (outside_any k n x many _ (HT.out.on (box5 _ _)) hk21).mono ?_;rintro e w' ⟨rfl,hw⟩;subst w')
      | (go_at_call 103;refine (same_any _ _ _).mono ?_;rintro e w' ⟨rfl,hw⟩;subst w'))
     go_ret
     exact ⟨by simp;intro h;exact absurd h h1,chain5 (box5 _ _) (box5 _ _)⟩
end Go.Proofs.YteinilmecnlanabGreatDoor
namespace Go.Proofs.YteinilmecnlanabGreatDoor
open Go.ChangeShapes Go.WideShapes Go.ChangeAt Go.RowKit Num
attribute [local go_sem] run_store_float
def CodeAt (w:World) (ao:Option Addr) (c:List Ins):Prop :=
 ∀ k,k<c.length→∃ b off,ao=some ⟨b,off,none⟩∧b<w.heap.size∧w.cell? ⟨b,off+k*3,none⟩=some (.int .i64 (ci c k).op)∧w.cell? ⟨b,off+k*3+1,none⟩=some (.int .i64 (ci c k).n)∧w.cell? ⟨b,off+k*3+2,none⟩=some (.float .f64 (ci c k).x)
theorem CodeAt.on {w w':World} {ao:Option Addr} {c:List Ins} (h:CodeAt w ao c) (hb:Below w.heap.size w w'):CodeAt w' ao c:=fun k hk=>by
 obtain ⟨b,off,e,hlt,c0,c1,c2⟩:=h k hk
 exact ⟨b,off,e,Nat.lt_of_lt_of_le hlt hb.size,(hb.cell (p:=⟨b,off+k*3,none⟩) hlt).trans c0,(hb.cell (p:=⟨b,off+k*3+1,none⟩) hlt).trans c1,(hb.cell (p:=⟨b,off+k*3+2,none⟩) hlt).trans c2⟩
def progV (t:Int) (ao:Option Addr) (n cap:Nat):Value:=.agg #[.int .i64 t,.slice ao n cap]
theorem cells2_of {w:World} {x:Nat} {v0 v1:Value} {T:TypeId} (h:w.heap[x]?=some (.cells #[v0,v1] T (0,0))) :
  w.cell? ⟨x,0,none⟩=some v0∧w.cell? ⟨x,1,none⟩=some v1∧x<w.heap.size :=
 ⟨by rw [cell_of_row w x 0 _ _ _ h];rfl,by rw [cell_of_row w x 1 _ _ _ h];rfl,lt_of_block h⟩
theorem cells3_of {w:World} {x:Nat} {v0 v1 v2:Value} {T:TypeId} (h:w.heap[x]?=some (.cells #[v0,v1,v2] T (0,0))) :
  w.cell? ⟨x,0,none⟩=some v0∧w.cell? ⟨x,1,none⟩=some v1∧w.cell? ⟨x,2,none⟩=some v2∧x<w.heap.size :=
 ⟨by rw [cell_of_row w x 0 _ _ _ h];rfl,by rw [cell_of_row w x 1 _ _ _ h];rfl,by rw [cell_of_row w x 2 _ _ _ h];rfl,lt_of_block h⟩
theorem checkE_no {t:Int} {c:List Ins} (h:checkB t c=false):checkE t c=50:=by unfold checkE;rw [h];rfl
theorem checkE_yes {t:Int} {c:List Ins} (h:checkB t c=true):checkE t c=0:=by unfold checkE;rw [h];rfl
theorem check_false {t:Int} {c:List Ins} (h:¬ ((t=1∨t=2)∧1≤c.length∧c.length≤1024∧∀ k,k<c.length→mayB (ci c k) c.length=true)):checkB t c=false:=by
 cases hc:checkB t c
 ·rfl
 ·exact absurd (check_parts.1 hc) h
theorem check_any {w:World} (t:Int) {ao:Option Addr} {c:List Ins} (cap:Nat) (hT:Shaped5 w) (hc:CodeAt w ao c) (hl:c.length≤9223372036854775807) :
  Calls Tryz.prog 65 #[progV t ao c.length cap] w fun e w'=>e=.returned (.int .i64 (checkE t c))∧Below w.heap.size w w':=by
 unfold progV
 by_cases ht:t=1∨t=2
 ·by_cases hn:c.length<1∨1024<c.length
  ·rw [checkE_no (check_false (fun q=>by omega))]
   clear hT hc
   generalize c.length=n at *
   rcases ht with rfl | rfl <;> rcases hn with hn | hn
   ·obtain rfl:n=0:=by omega
    go_enter Tryz.func65,Tryz.ntmps65
    go_wp2
    go_ret
    exact ⟨rfl,box5 _ _⟩
   ·have h1:¬ (n:Int)<1:=by omega
    have h2:(1024:Int)<n:=by omega
    go_enter Tryz.func65,Tryz.ntmps65
    go_wp2
    go_ret
    exact ⟨rfl,box5 _ _⟩
   ·obtain rfl:n=0:=by omega
    go_enter Tryz.func65,Tryz.ntmps65
    go_wp2
    go_ret
    exact ⟨rfl,box5 _ _⟩
   ·have h1:¬ (n:Int)<1:=by omega
    have h2:(1024:Int)<n:=by omega
    go_enter Tryz.func65,Tryz.ntmps65
    go_wp2
    go_ret
    exact ⟨rfl,box5 _ _⟩
  ·have h1:¬ ((c.length:Nat):Int)<1:=by omega
   have h2:((c.length:Nat):Int)≤1024:=by omega
   have HC:=Lib.hid hc
   have HT:=Lib.hid hT
   have HN:=Lib.hid hn
   clear hT hc hn
   have HX:=Lib.hid (heap_alloc_new w (.cells #[.int .i64 t,.slice ao c.length cap] 26))
   have HB1:=Lib.hid (box5 w (.cells #[.int .i64 t,.slice ao c.length cap] 26))
   rcases ht with rfl | rfl
   all_goals go_enter Tryz.func65,Tryz.ntmps65
   all_goals go_wp2
   all_goals (go_loopw [26] (fun vi wr=>∃ (i:Nat),vi=.int .i64 i∧i≤c.length∧Hid (∀ j,j<i→mayB (ci c j) c.length=true)∧Hid (Below (w.heap.size+1) (w.alloc (.cells #[.int .i64 _,.slice ao c.length cap] 26)) wr)) (fun vi _=>c.length - (intOf vi).toNat))
   case atStart=>exact ⟨0,rfl,Nat.zero_le _,fun j hj=>absurd hj (Nat.not_lt_zero j),Below.refl _ _⟩
   case atStart=>exact ⟨0,rfl,Nat.zero_le _,fun j hj=>absurd hj (Nat.not_lt_zero j),Below.refl _ _⟩
   all_goals (
    obtain ⟨i,rfl,hi,HM,HB⟩:=hrel
    have HBW:=Lib.hid (HB1.out.trans (HB.out.mono (Nat.le_succ _)))
    by_cases hlt:i<c.length
    ·have hlt':(i:Int)<(c.length:Int):=by omega
     obtain ⟨b0,off,hao,hbW,k0,k1,k2⟩:=HC.out i hlt
     subst hao
     rw [← HBW.out.cell (p:=⟨b0,off+i*3,none⟩) hbW] at k0
     rw [← HBW.out.cell (p:=⟨b0,off+i*3+1,none⟩) hbW] at k1
     rw [← HBW.out.cell (p:=⟨b0,off+i*3+2,none⟩) hbW] at k2
     have hbw:b0<wr.heap.size:=Nat.lt_of_lt_of_le hbW HBW.out.size
     obtain ⟨q0,q1,q2⟩:=cells2_of ((HB.out.block w.heap.size (Nat.lt_succ_self _)).trans HX.out)
     have HMB:=Lib.hid (fun w' h=>mayBe_any (ci c i) c.length w' h)
     cases hmb:mayB (ci c i) c.length with
     | true =>
      rw [hmb] at HMB
      have HM2:Hid (∀ j,j<i+1→mayB (ci c j) c.length=true):=fun j hj=>by
       rcases Nat.lt_succ_iff_lt_or_eq.1 hj with q | rfl
       ·exact HM.out j q
       ·exact hmb
      generalize ci c i=z at k0 k1 k2 HMB
      obtain ⟨zo,zn,zx⟩:=z
      unfold insV at HMB
      simp only at k0 k1 k2 HMB
      clear hbW hmb HM
      go_wp2_with (first
       | (go_at_call 82;refine (HMB.out _ (HT.out.on (chain5 HBW.out (box5 _ _)))).mono ?_;rintro e w2 ⟨rfl,hb2⟩;have HB2:=Lib.hid (HB.out.trans ((chain5 (box5 _ _) hb2).mono (Nat.le_trans (by simp) HB.out.size)));clear hb2))
      exact ⟨⟨i+1,by first | rfl | (congr 1),by omega,HM2,HB2⟩,by simp [intOf];omega⟩
     | false =>
      rw [hmb] at HMB
      have HNO:=Lib.hid (fun t=>checkE_no (t:=t) (check_false (fun q=>by have:=q.2.2.2 i hlt;rw [hmb] at this;cases this)))
      generalize ci c i=z at k0 k1 k2 HMB
      obtain ⟨zo,zn,zx⟩:=z
      unfold insV at HMB
      simp only at k0 k1 k2 HMB
      clear hbW hmb HM
      go_wp2_with (first
       | (go_at_call 82;refine (HMB.out _ (HT.out.on (chain5 HBW.out (box5 _ _)))).mono ?_;rintro e w2 ⟨rfl,hb2⟩;have HB2:=Lib.hid (chain5 HBW.out (chain5 (box5 _ _) hb2));clear hb2))
      go_ret
      exact ⟨by rw [HNO.out];rfl,HB2.out⟩
    ·have hlt':¬ (i:Int)<(c.length:Int):=by omega
     have HYES:=Lib.hid (fun t ht=>checkE_yes (t:=t) (check_parts.2 ⟨ht,by have:=HN.out;omega,by omega,fun k hk=>HM.out k (by omega)⟩))
     go_wp2
     go_ret
     exact ⟨by rw [HYES.out _ (by first | exact .inl rfl | exact .inr rfl)];rfl,HBW.out⟩)
 ·rw [checkE_no (check_false (fun q=>ht q.1))]
  have h1:(t != 1)=true:=by simpa using fun q=>ht (.inl q)
  have h2:(t != 2)=true:=by simpa using fun q=>ht (.inr q)
  clear hT hc ht
  go_enter Tryz.func65,Tryz.ntmps65
  go_wp2
  go_ret
  exact ⟨rfl,box5 _ _⟩
end Go.Proofs.YteinilmecnlanabGreatDoor
namespace Go.Proofs.YteinilmecnlanabGreatDoor
open Go.ChangeShapes Go.WideShapes Go.ChangeAt Go.RowKit Num
attribute [local go_sem] frombits_run bits_run
theorem xor_sign {b:Nat} (h:b<18446744073709551616):bits .xor .u64 (b:Int) 9223372036854775808=((b ^^^ 9223372036854775808:Nat):Int) :=
 u64_xor_nat b 9223372036854775808 h (by decide)
theorem andNot_sign {b:Nat} (h:b<18446744073709551616):bits .andNot .u64 (b:Int) 9223372036854775808=((b &&& 9223372036854775807:Nat):Int) :=
 u64_andNot_nat b 9223372036854775808 h (by decide)
theorem floor_entry (b : Nat) (h : nan b = false) : Extern.MathFloor.toIntegral "math.archFloor" .down #[.float .f64 b] = pure (.float .f64 (floorB b)) := by
 have e:(∃ s m i,FloatKind.f64.decode b=.number s m i)∨∃ s,FloatKind.f64.decode b=.infinity s:=by
  rcases read_kind b with ⟨g,_⟩ | ⟨_,g⟩
  ·rw [h] at g;cases g
  ·exact g
 conv=>lhs;whnf
 unfold floorB
 rcases e with ⟨s,m,i,e⟩ | ⟨s,e⟩ <;> rw [e]
theorem archFloor_num (b:Nat) (h:nan b=false) (w:World):(callFunc 129 #[.float .f64 b]).run Tryz.prog w=.ok (.value (.float .f64 (floorB b))) w:=by
 rw [run_callFunc_extern (e := Extern.MathFloor.toIntegral "math.archFloor" .down) Tryz.func129 (by kernel_rfl) (by kernel_rfl) (by kernel_rfl) (by kernel_rfl), floor_entry b h]
 rfl
theorem floor_entry_nan (b : Nat) (h : nan b = true) (w : World) : ∃ r n, (Extern.MathFloor.toIntegral "math.archFloor" .down #[.float .f64 b]).run Tryz.prog w = .ok (.float .f64 r) (w.drewN n) ∧ nan r = true := by
 have e:FloatKind.f64.decode b=.nan (neg b) (rung b - 9218868437227405312):=read_nan h
 by_cases q:FloatKind.f64.format.quiet (rung b - 9218868437227405312)=rung b - 9218868437227405312
 ·refine ⟨b,0,?_,h⟩
  conv=>lhs;arg 2;whnf
  rw [e]
  dsimp only
  rw [if_pos q]
  rfl
 ·have key:∀ k:Nat,nan (if (k == 1)=true then b else FloatKind.f64.encode (.nan (neg b) (FloatKind.f64.format.quiet (rung b - 9218868437227405312))))=true:=by
   intro k
   split
   ·exact h
   ·exact nan_quiet _ _
  have run : ∃ k : Nat, (Extern.MathFloor.toIntegral "math.archFloor" .down #[.float .f64 b]).run Tryz.prog w = .ok (.float .f64 (if (k == 1) = true then b else FloatKind.f64.encode (.nan (neg b) (FloatKind.f64.format.quiet (rung b - 9218868437227405312))))) (w.drewN 1) := by
   conv =>
    arg 1
    intro k
    lhs
    arg 2
    whnf
   rw [e]
   dsimp only
   rw [if_neg q]
   exact ⟨_,rfl⟩
  obtain ⟨k,hk⟩:=run
  exact ⟨_,1,hk,key k⟩
theorem archFloor_nan (b:Nat) (h:nan b=true) (w:World):∃ r n,(callFunc 129 #[.float .f64 b]).run Tryz.prog w=.ok (.value (.float .f64 r)) (w.drewN n)∧nan r=true:=by
 obtain ⟨r,n,e,hn⟩:=floor_entry_nan b h w
 refine ⟨r,n,?_,hn⟩
 rw [run_callFunc_extern (e := Extern.MathFloor.toIntegral "math.archFloor" .down) Tryz.func129 (by kernel_rfl) (by kernel_rfl) (by kernel_rfl) (by kernel_rfl), e]
 rfl
theorem sqrt_entry (b:Nat) (w:World):∃ r n,(Extern.MathSqrt.sqrt #[.float .f64 b]).run Tryz.prog w=.ok (.float .f64 r) (w.drewN n)∧fixB r=rootV b:=by
 unfold rootV
 cases e:FloatKind.f64.format.sqrt b with
 | some r =>
  refine ⟨r,0,?_,rfl⟩
  conv=>lhs;arg 2;whnf
  rw [e]
  rfl
 | none =>
  refine ⟨_,1,?_,fixB_nan (nan_cut b b (w.tape w.drawn (.nanBits .f64 b b)))⟩
  conv=>lhs;arg 2;whnf
  rw [e]
  dsimp only
  simp [Question.forced,World.drew_is_drewN]
theorem sqrt_run (b:Nat) (w:World):∃ r n,(callFunc 131 #[.float .f64 b]).run Tryz.prog w=.ok (.value (.float .f64 r)) (w.drewN n)∧fixB r=rootV b:=by
 obtain ⟨r,n,e,hn⟩:=sqrt_entry b w
 refine ⟨r,n,?_,hn⟩
 rw [run_callFunc_extern (e:=Extern.MathSqrt.sqrt) Tryz.func131 (by kernel_rfl) (by kernel_rfl) (by kernel_rfl) (by kernel_rfl),e]
 rfl
theorem enter_run {f : FuncId} {fn : Func} (hf : Tryz.prog.funcs[f]? = some fn) (hname : (fn.name == "runtime.NumGoroutine") = false) (hb : fn.body.isSome = true) (args : Array Value) (w : World) : (callFunc f args).run Tryz.prog w = .ok (.enter f args) w := by
 obtain ⟨c,hb⟩:=Option.isSome_iff_exists.1 hb
 have h1 : fn.name ≠ "runtime.NumGoroutine" := by simpa using hname
 simp [callFunc,hf,h1,hb,mark]
theorem mathFloor_num (b:Nat) (w:World) (h:nan b=false):Calls Tryz.prog 113 #[.float .f64 b] w fun e w'=>e=.returned (.float .f64 (floorB b))∧w'=w:=by
 have hrun:=archFloor_num b h
 go_enter Tryz.func113,Tryz.ntmps113
 go_wp2
 go_ret
 exact ⟨rfl,rfl⟩
theorem mathFloor_any (b:Nat) (w:World):Calls Tryz.prog 113 #[.float .f64 b] w fun e w'=>∃ r n,e=.returned (.float .f64 r)∧fixB r=floorV b∧w'=w.drewN n:=by
 cases h:nan b
 ·refine (mathFloor_num b w h).mono fun e w' he=>?_
  exact ⟨_,0,he.1,by unfold floorV;rw [h];rfl,he.2⟩
 ·obtain ⟨r,n,hrun,hn⟩:=archFloor_nan b h w
  have hv:floorV b=9221120237041090560:=by unfold floorV;rw [h];rfl
  rw [hv]
  clear h hv
  go_enter Tryz.func113,Tryz.ntmps113
  go_wp2
  go_ret
  exact ⟨r,n,rfl,fixB_nan hn,rfl⟩
theorem mathSqrt_any (b:Nat) (w:World):Calls Tryz.prog 114 #[.float .f64 b] w fun e w'=>∃ r n,e=.returned (.float .f64 r)∧fixB r=rootV b∧w'=w.drewN n:=by
 obtain ⟨r,n,hrun,hr⟩:=sqrt_run b w
 have HR:Hid (fixB r=rootV b):=hr
 clear hr
 go_enter Tryz.func114,Tryz.ntmps114
 go_wp2
 go_ret
 exact ⟨r,n,rfl,HR.out,rfl⟩
theorem truth_any (c:Bool) (w:World):Calls Tryz.prog 223 #[.bool c] w fun e w'=>e=.returned (.float .f64 (yesB c))∧w'=w:=by
 cases c
 ·go_enter Tryz.func223,Tryz.ntmps223
  go_wp2
  go_ret
  exact ⟨rfl,rfl⟩
 ·go_enter Tryz.func223,Tryz.ntmps223
  go_wp2
  go_ret
  exact ⟨rfl,rfl⟩
theorem true_any (b:Nat) (w:World):Calls Tryz.prog 172 #[.float .f64 b] w fun e w'=>e=.returned (.bool (trueB b))∧w'=w:=by
 have k0:=key_zero
 have n0:=nan_zero
 rcases order_cases b 0 with ⟨o,n | n⟩ | ⟨n,_,⟨o,hk⟩ | ⟨o,hk⟩ | ⟨o,hk⟩⟩
 ·have e:trueB b=false:=by unfold trueB;rw [n];rfl
  rw [e]
  clear e k0 n0
  go_enter Tryz.func172,Tryz.ntmps172
  go_wp2_with (go_at_call 83;refine (isNaN_any _ _).mono ?_;rintro e w' ⟨rfl,rfl⟩)
  go_ret
  exact ⟨rfl,rfl⟩
 ·rw [n0] at n;cases n
 ·have e:trueB b=true:=by unfold trueB;rw [n,k0] at *;simp;omega
  rw [e]
  clear e k0 n0 hk
  go_enter Tryz.func172,Tryz.ntmps172
  go_wp2_with (go_at_call 83;refine (isNaN_any _ _).mono ?_;rintro e w' ⟨rfl,rfl⟩)
  go_ret
  exact ⟨rfl,rfl⟩
 ·have e:trueB b=false:=by unfold trueB;rw [n,hk,k0];rfl
  rw [e]
  clear e k0 n0 hk
  go_enter Tryz.func172,Tryz.ntmps172
  go_wp2_with (go_at_call 83;refine (isNaN_any _ _).mono ?_;rintro e w' ⟨rfl,rfl⟩)
  go_ret
  exact ⟨rfl,rfl⟩
 ·have e:trueB b=true:=by unfold trueB;rw [n,k0] at *;simp;omega
  rw [e]
  clear e k0 n0 hk
  go_enter Tryz.func172,Tryz.ntmps172
  go_wp2_with (go_at_call 83;refine (isNaN_any _ _).mono ?_;rintro e w' ⟨rfl,rfl⟩)
  go_ret
  exact ⟨rfl,rfl⟩
theorem negative_any (b:Nat) (w:World) (h:b<18446744073709551616):Calls Tryz.prog 201 #[.float .f64 b] w fun e w'=>∃ r n,e=.returned (.float .f64 r)∧fixB r=fixB (b ^^^ 9223372036854775808)∧w'=w.drewN n:=by
 have hx:=xor_sign h
 go_enter Tryz.func201,Tryz.ntmps201
 go_wp2
 go_ret
 exact ⟨_,0,rfl,rfl,rfl⟩
theorem absolute_any (b:Nat) (w:World) (h:b<18446744073709551616):Calls Tryz.prog 202 #[.float .f64 b] w fun e w'=>∃ r n,e=.returned (.float .f64 r)∧fixB r=fixB (b &&& 9223372036854775807)∧w'=w.drewN n:=by
 have hx:=andNot_sign h
 go_enter Tryz.func202,Tryz.ntmps202
 go_wp2
 go_ret
 exact ⟨_,0,rfl,rfl,rfl⟩
theorem floor_any (b:Nat) (w:World):Calls Tryz.prog 203 #[.float .f64 b] w fun e w'=>∃ r n,e=.returned (.float .f64 r)∧fixB r=floorV b∧w'=w.drewN n:=by
 go_enter Tryz.func203,Tryz.ntmps203
 go_wp2_with (go_at_call 113;refine (mathFloor_any _ _).mono ?_;rintro e w' ⟨r,n,rfl,hr,rfl⟩)
 go_ret
 exact ⟨_,_,rfl,hr,rfl⟩
theorem root_any (b:Nat) (w:World):Calls Tryz.prog 204 #[.float .f64 b] w fun e w'=>∃ r n,e=.returned (.float .f64 r)∧fixB r=rootV b∧w'=w.drewN n:=by
 go_enter Tryz.func204,Tryz.ntmps204
 go_wp2_with (go_at_call 114;refine (mathSqrt_any _ _).mono ?_;rintro e w' ⟨r,n,rfl,hr,rfl⟩)
 go_ret
 exact ⟨_,_,rfl,hr,rfl⟩
theorem not_any (b:Nat) (w:World):Calls Tryz.prog 205 #[.float .f64 b] w fun e w'=>∃ r n,e=.returned (.float .f64 r)∧fixB r=yesB (!trueB b)∧w'=w.drewN n:=by
 go_enter Tryz.func205,Tryz.ntmps205
 go_wp2_with (first | (go_at_call 172;refine (true_any _ _).mono ?_;rintro e w' ⟨rfl,rfl⟩) | (go_at_call 223;refine (truth_any _ _).mono ?_;rintro e w' ⟨rfl,rfl⟩))
 go_ret
 exact ⟨_,0,rfl,fixB_yes _,rfl⟩
theorem isNaN1_any (b:Nat) (w:World):Calls Tryz.prog 206 #[.float .f64 b] w fun e w'=>∃ r n,e=.returned (.float .f64 r)∧fixB r=yesB (nan b)∧w'=w.drewN n:=by
 go_enter Tryz.func206,Tryz.ntmps206
 go_wp2_with (first | (go_at_call 83;refine (isNaN_any _ _).mono ?_;rintro e w' ⟨rfl,rfl⟩) | (go_at_call 223;refine (truth_any _ _).mono ?_;rintro e w' ⟨rfl,rfl⟩))
 go_ret
 exact ⟨_,0,rfl,fixB_yes _,rfl⟩
theorem sign_any (b:Nat) (w:World):Calls Tryz.prog 207 #[.float .f64 b] w fun e w'=>∃ r n,e=.returned (.float .f64 r)∧fixB r=signB b∧w'=w.drewN n:=by
 have k0:=key_zero
 have n0:=nan_zero
 have hs:=fixB_sign b
 rcases order_cases b 0 with ⟨o,n | n⟩ | ⟨n,_,⟨o,hk⟩ | ⟨o,hk⟩ | ⟨o,hk⟩⟩
 ·have e:signB b=9221120237041090560:=by unfold signB;rw [n];rfl
  rw [e]
  have hn:=fixB_nan n
  clear e k0 n0 hs n
  go_enter Tryz.func207,Tryz.ntmps207
  go_wp2
  go_ret
  exact ⟨_,0,rfl,hn,rfl⟩
 ·rw [n0] at n;cases n
 ·have e:signB b=13830554455654793216:=by unfold signB;rw [n,if_neg (by simp),if_neg (by omega),if_pos (by omega)]
  rw [e] at hs ⊢
  clear e k0 n0 hk n
  go_enter Tryz.func207,Tryz.ntmps207
  go_wp2
  go_ret
  exact ⟨_,0,rfl,hs,rfl⟩
 ·have e:signB b=b:=by unfold signB;rw [n,if_neg (by simp),if_neg (by omega),if_neg (by omega)]
  rw [e] at hs ⊢
  have HS:Hid (fixB b=b):=hs
  clear e k0 n0 hk n hs
  go_enter Tryz.func207,Tryz.ntmps207
  go_wp2
  go_ret
  exact ⟨_,0,rfl,HS.out,rfl⟩
 ·have e:signB b=4607182418800017408:=by unfold signB;rw [n,if_neg (by simp),if_pos (by omega)]
  rw [e] at hs ⊢
  clear e k0 n0 hk n
  go_enter Tryz.func207,Tryz.ntmps207
  go_wp2
  go_ret
  exact ⟨_,0,rfl,hs,rfl⟩
def hashI (b:Nat):Int:=bits .xor .u64 (b:Int) ((b:Int) / 4294967296) % 4294967296*2654435769 % 4294967296 / 65536
theorem hash_any (b:Nat) (w:World):Calls Tryz.prog 208 #[.float .f64 b] w fun e w'=>∃ r n,e=.returned (.float .f64 r)∧fixB r=fixB (floatOfInt .f64 (hashI b))∧w'=w.drewN n:=by
 go_enter Tryz.func208,Tryz.ntmps208
 go_wp2
 go_ret
 exact ⟨_,0,rfl,rfl,rfl⟩
theorem oneTable_any (w:World):Calls Tryz.prog 194 #[] w fun e w'=>e=.returned (.agg #[Value.nilFunc,Value.func (Fn.func 201) #[] #[],Value.func (Fn.func 202) #[] #[],Value.func (Fn.func 203) #[] #[],Value.func (Fn.func 204) #[] #[],Value.func (Fn.func 205) #[] #[],Value.func (Fn.func 206) #[] #[],Value.func (Fn.func 207) #[] #[],Value.func (Fn.func 208) #[] #[]])∧Grw w w':=by
 go_enter Tryz.func194,Tryz.ntmps194
 go_wp2
 exact bodyPost_ret (v:=.agg #[Value.nilFunc,Value.func (Fn.func 201) #[] #[],Value.func (Fn.func 202) #[] #[],Value.func (Fn.func 203) #[] #[],Value.func (Fn.func 204) #[] #[],Value.func (Fn.func 205) #[] #[],Value.func (Fn.func 206) #[] #[],Value.func (Fn.func 207) #[] #[],Value.func (Fn.func 208) #[] #[]]) (by simp [results,Tryz.results194,go_sem]) rfl ⟨rfl,by repeat (first | exact Grw.refl _ | apply Grw.drew | apply Grw.alloc)⟩
theorem one_gen (k fid b v:Nat) (w:World) (h1:1≤k) (h2:k≤8)
  (hS:∀ w1:World,(w1.alloc (.cells #[Value.nilFunc,Value.func (Fn.func 201) #[] #[],Value.func (Fn.func 202) #[] #[],Value.func (Fn.func 203) #[] #[],Value.func (Fn.func 204) #[] #[],Value.func (Fn.func 205) #[] #[],Value.func (Fn.func 206) #[] #[],Value.func (Fn.func 207) #[] #[],Value.func (Fn.func 208) #[] #[]] 220)).cell? ⟨w1.heap.size,k,none⟩=some (Value.func (Fn.func fid) #[] #[]))
  (hcall:∀ (args:Array Value) (w:World),(callFunc fid args).run Tryz.prog w=.ok (.enter fid args) w)
  (hF:∀ w,Calls Tryz.prog fid #[.float .f64 (fixB b)] w fun e w'=>∃ r n,e=.returned (.float .f64 r)∧fixB r=v∧w'=w.drewN n) :
  Calls Tryz.prog 174 #[.int .i64 k,.float .f64 b] w fun e w'=>e=.returned (.tuple #[.float .f64 v,.int .i64 0])∧Grw w w':=by
 have HS:Hid (∀ w1:World,(w1.alloc (.cells #[Value.nilFunc,Value.func (Fn.func 201) #[] #[],Value.func (Fn.func 202) #[] #[],Value.func (Fn.func 203) #[] #[],Value.func (Fn.func 204) #[] #[],Value.func (Fn.func 205) #[] #[],Value.func (Fn.func 206) #[] #[],Value.func (Fn.func 207) #[] #[],Value.func (Fn.func 208) #[] #[]] 220)).cell? ⟨w1.heap.size,k,none⟩=some (Value.func (Fn.func fid) #[] #[])):=hS
 clear hS
 have HF:Hid (∀ w,Calls Tryz.prog fid #[.float .f64 (fixB b)] w fun e w'=>∃ r n,e=.returned (.float .f64 r)∧fixB r=v∧w'=w.drewN n):=hF
 clear hF
 go_enter Tryz.func174,Tryz.ntmps174
 go_wp2_with (go_at_call 194;refine (oneTable_any _).mono ?_;rintro e w1 ⟨rfl,hg⟩)
 go_region_held (fun w'=>w'.cell? ⟨w1.heap.size,k,none⟩=some (Value.func (Fn.func fid) #[] #[])) (first | exact HS.out _ | go_keep) (first | (go_at_call 67;refine (fix_any _ _).mono ?_;rintro e w2 ⟨rfl,rfl⟩) | (refine (HF.out _).mono ?_;rintro e w2 ⟨r,n,rfl,hr,rfl⟩))
 go_wp2
 go_ret2
 exact ⟨rfl,grown_drewN (hg.alloc _ _) _⟩
theorem one_1 (b:Nat) (w:World) (hb:b<18446744073709551616):Calls Tryz.prog 174 #[.int .i64 1,.float .f64 b] w fun e w'=>e=.returned (.tuple #[.float .f64 (fixB (fixB b ^^^ 9223372036854775808)),.int .i64 0])∧Grw w w' :=
 one_gen 1 201 b _ w (by omega) (by omega) (fun w1=>by simp [go_sem]) (enter_run Tryz.func201 (by kernel_rfl) (by kernel_rfl)) (fun w=>(negative_any _ _ (fixB_lt hb)).mono fun _ _ ⟨r,n,h1,h2,h3⟩=>⟨r,n,h1,h2.trans (rfl),h3⟩)
theorem one_2 (b:Nat) (w:World) (hb:b<18446744073709551616):Calls Tryz.prog 174 #[.int .i64 2,.float .f64 b] w fun e w'=>e=.returned (.tuple #[.float .f64 (fixB (fixB b &&& 9223372036854775807)),.int .i64 0])∧Grw w w' :=
 one_gen 2 202 b _ w (by omega) (by omega) (fun w1=>by simp [go_sem]) (enter_run Tryz.func202 (by kernel_rfl) (by kernel_rfl)) (fun w=>(absolute_any _ _ (fixB_lt hb)).mono fun _ _ ⟨r,n,h1,h2,h3⟩=>⟨r,n,h1,h2.trans (rfl),h3⟩)
theorem one_3 (b:Nat) (w:World) (_hb:b<18446744073709551616):Calls Tryz.prog 174 #[.int .i64 3,.float .f64 b] w fun e w'=>e=.returned (.tuple #[.float .f64 (floorV b),.int .i64 0])∧Grw w w' :=
 one_gen 3 203 b _ w (by omega) (by omega) (fun w1=>by simp [go_sem]) (enter_run Tryz.func203 (by kernel_rfl) (by kernel_rfl)) (fun w=>(floor_any _ _).mono fun _ _ ⟨r,n,h1,h2,h3⟩=>⟨r,n,h1,h2.trans (floorV_fix b),h3⟩)
theorem one_4 (b:Nat) (w:World) (_hb:b<18446744073709551616):Calls Tryz.prog 174 #[.int .i64 4,.float .f64 b] w fun e w'=>e=.returned (.tuple #[.float .f64 (rootV b),.int .i64 0])∧Grw w w' :=
 one_gen 4 204 b _ w (by omega) (by omega) (fun w1=>by simp [go_sem]) (enter_run Tryz.func204 (by kernel_rfl) (by kernel_rfl)) (fun w=>(root_any _ _).mono fun _ _ ⟨r,n,h1,h2,h3⟩=>⟨r,n,h1,h2.trans (congrArg resV (sqrt_fix b)),h3⟩)
theorem one_5 (b:Nat) (w:World) (_hb:b<18446744073709551616):Calls Tryz.prog 174 #[.int .i64 5,.float .f64 b] w fun e w'=>e=.returned (.tuple #[.float .f64 (yesB (!trueB b)),.int .i64 0])∧Grw w w' :=
 one_gen 5 205 b _ w (by omega) (by omega) (fun w1=>by simp [go_sem]) (enter_run Tryz.func205 (by kernel_rfl) (by kernel_rfl)) (fun w=>(not_any _ _).mono fun _ _ ⟨r,n,h1,h2,h3⟩=>⟨r,n,h1,h2.trans (congrArg (fun c=>yesB (!c)) (trueB_fix b)),h3⟩)
theorem one_6 (b:Nat) (w:World) (_hb:b<18446744073709551616):Calls Tryz.prog 174 #[.int .i64 6,.float .f64 b] w fun e w'=>e=.returned (.tuple #[.float .f64 (yesB (nan b)),.int .i64 0])∧Grw w w' :=
 one_gen 6 206 b _ w (by omega) (by omega) (fun w1=>by simp [go_sem]) (enter_run Tryz.func206 (by kernel_rfl) (by kernel_rfl)) (fun w=>(isNaN1_any _ _).mono fun _ _ ⟨r,n,h1,h2,h3⟩=>⟨r,n,h1,h2.trans (congrArg yesB (nan_fixB b)),h3⟩)
theorem one_7 (b:Nat) (w:World) (_hb:b<18446744073709551616):Calls Tryz.prog 174 #[.int .i64 7,.float .f64 b] w fun e w'=>e=.returned (.tuple #[.float .f64 (signB b),.int .i64 0])∧Grw w w' :=
 one_gen 7 207 b _ w (by omega) (by omega) (fun w1=>by simp [go_sem]) (enter_run Tryz.func207 (by kernel_rfl) (by kernel_rfl)) (fun w=>(sign_any _ _).mono fun _ _ ⟨r,n,h1,h2,h3⟩=>⟨r,n,h1,h2.trans (signB_fix b),h3⟩)
theorem one_8 (b:Nat) (w:World) (_hb:b<18446744073709551616):Calls Tryz.prog 174 #[.int .i64 8,.float .f64 b] w fun e w'=>e=.returned (.tuple #[.float .f64 (fixB (floatOfInt .f64 (hashI (fixB b)))),.int .i64 0])∧Grw w w' :=
 one_gen 8 208 b _ w (by omega) (by omega) (fun w1=>by simp [go_sem]) (enter_run Tryz.func208 (by kernel_rfl) (by kernel_rfl)) (fun w=>(hash_any _ _).mono fun _ _ ⟨r,n,h1,h2,h3⟩=>⟨r,n,h1,h2.trans (rfl),h3⟩)
end Go.Proofs.YteinilmecnlanabGreatDoor
namespace Go.Proofs.YteinilmecnlanabGreatDoor
open Go.ChangeShapes Go.WideShapes Go.ChangeAt Go.RowKit Num
attribute [local go_sem] frombits_run bits_run
theorem float_any {P:Program} (op:BinOp) (hop:op=.add∨op=.sub∨op=.mul∨op=.quo) (t:TypeId) (x y:Nat) (w:World):∃ r n,(binOp op t (.float .f64 x) (.float .f64 y)).run P w=.ok (.float .f64 r) (w.drewN n)∧fixB r=resV (floatBits op .f64 x y):=by
 cases e:floatBits op .f64 x y with
 | some r=>exact ⟨r,0,run_float_arith w op t .f64 x y r e,rfl⟩
 | none =>
  refine ⟨_,1,?_,fixB_nan (nan_cut x y (w.tape w.drawn (.nanBits .f64 x y)))⟩
  rcases hop with h | h | h | h <;> subst h <;> simp only [floatBits] at e <;> simp [binOp,Op.floatArith,e,Question.forced,World.drew_is_drewN]
theorem sum_any (a b:Nat) (w:World):Calls Tryz.prog 209 #[.float .f64 a,.float .f64 b] w fun e w'=>∃ r n,e=.returned (.float .f64 r)∧fixB r=resV (floatBits .add .f64 a b)∧w'=w.drewN n:=by
 obtain ⟨r,n,hrun,hr⟩:=float_any (P:=Tryz.prog) .add (by simp) 64 a b w
 have HR:Hid (fixB r=resV (floatBits .add .f64 a b)):=hr
 clear hr
 go_enter Tryz.func209,Tryz.ntmps209
 go_wp2
 go_ret
 exact ⟨r,n,rfl,HR.out,rfl⟩
theorem difference_any (a b:Nat) (w:World):Calls Tryz.prog 210 #[.float .f64 a,.float .f64 b] w fun e w'=>∃ r n,e=.returned (.float .f64 r)∧fixB r=resV (floatBits .sub .f64 a b)∧w'=w.drewN n:=by
 obtain ⟨r,n,hrun,hr⟩:=float_any (P:=Tryz.prog) .sub (by simp) 64 a b w
 have HR:Hid (fixB r=resV (floatBits .sub .f64 a b)):=hr
 clear hr
 go_enter Tryz.func210,Tryz.ntmps210
 go_wp2
 go_ret
 exact ⟨r,n,rfl,HR.out,rfl⟩
theorem product_any (a b:Nat) (w:World):Calls Tryz.prog 211 #[.float .f64 a,.float .f64 b] w fun e w'=>∃ r n,e=.returned (.float .f64 r)∧fixB r=resV (floatBits .mul .f64 a b)∧w'=w.drewN n:=by
 obtain ⟨r,n,hrun,hr⟩:=float_any (P:=Tryz.prog) .mul (by simp) 64 a b w
 have HR:Hid (fixB r=resV (floatBits .mul .f64 a b)):=hr
 clear hr
 have hc:=fun (x:Nat) (w:World)=>run_convert_float_float (P:=Tryz.prog) w 64 64 .f64 .f64 x x (by rw [Tryz.underlying64];rfl) Tryz.underlying64 rfl
 go_enter Tryz.func211,Tryz.ntmps211
 go_wp2
 go_ret
 exact ⟨r,n,rfl,HR.out,rfl⟩
theorem quotient_any (a b:Nat) (w:World):Calls Tryz.prog 212 #[.float .f64 a,.float .f64 b] w fun e w'=>∃ r n,e=.returned (.float .f64 r)∧fixB r=resV (floatBits .quo .f64 a b)∧w'=w.drewN n:=by
 obtain ⟨r,n,hrun,hr⟩:=float_any (P:=Tryz.prog) .quo (by simp) 64 a b w
 have HR:Hid (fixB r=resV (floatBits .quo .f64 a b)):=hr
 clear hr
 go_enter Tryz.func212,Tryz.ntmps212
 go_wp2
 go_ret
 exact ⟨r,n,rfl,HR.out,rfl⟩
theorem less_any (a b:Nat) (w:World):Calls Tryz.prog 216 #[.float .f64 a,.float .f64 b] w fun e w'=>∃ r n,e=.returned (.float .f64 r)∧fixB r=yesB (FloatKind.f64.format.order a b == some .lt)∧w'=w.drewN n:=by
 go_enter Tryz.func216,Tryz.ntmps216
 go_wp2_with (go_at_call 223;refine (truth_any _ _).mono ?_;rintro e w' ⟨rfl,rfl⟩)
 go_ret
 exact ⟨_,0,rfl,fixB_yes _,rfl⟩
theorem atMost_any (a b:Nat) (w:World):Calls Tryz.prog 217 #[.float .f64 a,.float .f64 b] w fun e w'=>∃ r n,e=.returned (.float .f64 r)∧fixB r=yesB (FloatKind.f64.format.order a b == some .lt || FloatKind.f64.format.order a b == some .eq)∧w'=w.drewN n:=by
 go_enter Tryz.func217,Tryz.ntmps217
 go_wp2_with (go_at_call 223;refine (truth_any _ _).mono ?_;rintro e w' ⟨rfl,rfl⟩)
 go_ret
 exact ⟨_,0,rfl,fixB_yes _,rfl⟩
theorem equal_any (a b:Nat) (w:World):Calls Tryz.prog 218 #[.float .f64 a,.float .f64 b] w fun e w'=>∃ r n,e=.returned (.float .f64 r)∧fixB r=yesB (FloatKind.f64.format.order a b == some .eq)∧w'=w.drewN n:=by
 go_enter Tryz.func218,Tryz.ntmps218
 go_wp2_with (go_at_call 223;refine (truth_any _ _).mono ?_;rintro e w' ⟨rfl,rfl⟩)
 go_ret
 exact ⟨_,0,rfl,fixB_yes _,rfl⟩
theorem same2_any (a b:Nat) (w:World):Calls Tryz.prog 219 #[.float .f64 a,.float .f64 b] w fun e w'=>∃ r n,e=.returned (.float .f64 r)∧fixB r=yesB (fixB a == fixB b)∧w'=w.drewN n:=by
 go_enter Tryz.func219,Tryz.ntmps219
 go_wp2_with (first | (go_at_call 103;refine (same_any _ _ _).mono ?_;rintro e w' ⟨rfl,rfl⟩) | (go_at_call 223;refine (truth_any _ _).mono ?_;rintro e w' ⟨rfl,rfl⟩))
 go_ret
 exact ⟨_,0,rfl,fixB_yes _,rfl⟩
theorem ahead_any (a b:Nat) (w:World) (ha:a<18446744073709551616) (hb:b<18446744073709551616):Calls Tryz.prog 220 #[.float .f64 a,.float .f64 b] w fun e w'=>∃ r n,e=.returned (.float .f64 r)∧fixB r=yesB (decide (cmpB a b<0))∧w'=w.drewN n:=by
 go_enter Tryz.func220,Tryz.ntmps220
 go_wp2_with (first | (go_at_call 225;refine (compare_any _ _ _ ha hb).mono ?_;rintro e w' ⟨rfl,rfl⟩) | (go_at_call 223;refine (truth_any _ _).mono ?_;rintro e w' ⟨rfl,rfl⟩))
 go_ret
 exact ⟨_,0,rfl,fixB_yes _,rfl⟩
theorem nan_any (w:World):Calls Tryz.prog 84 #[] w fun e w'=>e=.returned (.float .f64 9221120237041090560)∧w'=w:=by
 go_enter Tryz.func84,Tryz.ntmps84
 go_wp2
 go_ret
 exact ⟨rfl,rfl⟩
theorem least_any (a b:Nat) (w:World) (ha:a<18446744073709551616) (hb:b<18446744073709551616):Calls Tryz.prog 214 #[.float .f64 a,.float .f64 b] w fun e w'=>∃ r n,e=.returned (.float .f64 r)∧fixB r=minV a b∧w'=w.drewN n:=by
 have hm:=fixB_min a b
 unfold minV at hm ⊢
 cases na:nan a
 ·cases nb:nan b
  ·rw [na,nb,if_neg (by simp)] at hm
   simp only [Bool.or_self,Bool.false_eq_true,if_false]
   by_cases hc:cmpB b a<0
   ·rw [if_pos hc] at hm ⊢
    have HM:Hid (fixB b=b):=hm
    clear hm
    go_enter Tryz.func214,Tryz.ntmps214
    go_wp2_with (first | (go_at_call 83;refine (isNaN_any _ _).mono ?_;rintro e w' ⟨rfl,rfl⟩) | (go_at_call 225;refine (compare_any _ _ _ hb ha).mono ?_;rintro e w' ⟨rfl,rfl⟩))
    go_ret
    exact ⟨_,0,rfl,HM.out,rfl⟩
   ·rw [if_neg hc] at hm ⊢
    have HM:Hid (fixB a=a):=hm
    clear hm
    go_enter Tryz.func214,Tryz.ntmps214
    go_wp2_with (first | (go_at_call 83;refine (isNaN_any _ _).mono ?_;rintro e w' ⟨rfl,rfl⟩) | (go_at_call 225;refine (compare_any _ _ _ hb ha).mono ?_;rintro e w' ⟨rfl,rfl⟩))
    go_ret
    exact ⟨_,0,rfl,HM.out,rfl⟩
  ·clear hm
   simp only [Bool.or_true,if_true]
   have hn:fixB 9221120237041090560=9221120237041090560:=by decide
   go_enter Tryz.func214,Tryz.ntmps214
   go_wp2_with (first | (go_at_call 83;refine (isNaN_any _ _).mono ?_;rintro e w' ⟨rfl,rfl⟩) | (go_at_call 84;refine (nan_any _).mono ?_;rintro e w' ⟨rfl,rfl⟩))
   go_ret
   exact ⟨_,0,rfl,hn,rfl⟩
 ·clear hm
  simp only [Bool.true_or,if_true]
  have hn:fixB 9221120237041090560=9221120237041090560:=by decide
  go_enter Tryz.func214,Tryz.ntmps214
  go_wp2_with (first | (go_at_call 83;refine (isNaN_any _ _).mono ?_;rintro e w' ⟨rfl,rfl⟩) | (go_at_call 84;refine (nan_any _).mono ?_;rintro e w' ⟨rfl,rfl⟩))
  go_ret
  exact ⟨_,0,rfl,hn,rfl⟩
theorem max_of (a b:Nat) (ha:a<18446744073709551616) (hb:b<18446744073709551616):(0<cmpB b a→fixB b=maxV a b)∧(¬ 0<cmpB b a→fixB a=maxV a b):=by
 unfold maxV
 cases na:nan a
 ·cases nb:nan b
  ·simp only [Bool.or_self,Bool.false_eq_true,if_false]
   exact ⟨fun h=>by rw [if_pos h];exact fixB_num nb,fun h=>by rw [if_neg h];exact fixB_num na⟩
  ·simp only [Bool.or_true,if_true]
   exact ⟨fun _=>fixB_nan nb,fun h=>absurd (by rw [cmpB_nan_first ha na nb];decide) h⟩
 ·simp only [Bool.true_or,if_true]
  have:=cmpB_nan_last hb na
  have e:=cmpB_flip a b
  exact ⟨fun h=>by omega,fun _=>fixB_nan na⟩
theorem greatest_any (a b:Nat) (w:World) (ha:a<18446744073709551616) (hb:b<18446744073709551616):Calls Tryz.prog 215 #[.float .f64 a,.float .f64 b] w fun e w'=>∃ r n,e=.returned (.float .f64 r)∧fixB r=maxV a b∧w'=w.drewN n:=by
 obtain ⟨h1,h2⟩:=max_of a b ha hb
 by_cases hc:0<cmpB b a
 ·have HM:Hid (fixB b=maxV a b):=h1 hc
  clear h1 h2
  go_enter Tryz.func215,Tryz.ntmps215
  go_wp2_with (go_at_call 225;refine (compare_any _ _ _ hb ha).mono ?_;rintro e w' ⟨rfl,rfl⟩)
  go_ret
  exact ⟨_,0,rfl,HM.out,rfl⟩
 ·have HM:Hid (fixB a=maxV a b):=h2 hc
  clear h1 h2
  go_enter Tryz.func215,Tryz.ntmps215
  go_wp2_with (go_at_call 225;refine (compare_any _ _ _ hb ha).mono ?_;rintro e w' ⟨rfl,rfl⟩)
  go_ret
  exact ⟨_,0,rfl,HM.out,rfl⟩
theorem countable_any (b:Nat) (w:World):Calls Tryz.prog 224 #[.float .f64 b] w fun e w'=>e=.returned (.bool (cntB b))∧w'=w:=by
 have k0:=key_zero
 have n0:=nan_zero
 have k5:=key_big53
 have n5:=nan_big53
 rcases order_cases b 0 with ⟨o,n | n⟩ | ⟨n,_,ho⟩
 ·rw [cntB_nan n]
  clear k0 n0 k5 n5 n
  go_enter Tryz.func224,Tryz.ntmps224
  go_wp2
  go_ret
  exact ⟨rfl,rfl⟩
 ·rw [n0] at n;cases n
 ·by_cases hk:key b<0
  ·have o:FloatKind.f64.format.order b 0=some .lt:=by rcases ho with h | h | h <;> first | exact h.1 | omega
   have e:cntB b=false:=by unfold cntB;rw [decide_eq_false (by omega:¬ 0≤key b),Bool.and_false,Bool.false_and,Bool.false_and]
   rw [e]
   clear k0 n0 k5 n5 n ho hk e
   go_enter Tryz.func224,Tryz.ntmps224
   go_wp2
   go_ret
   exact ⟨rfl,rfl⟩
  ·have o:FloatKind.f64.format.order b 0=some .gt∨FloatKind.f64.format.order b 0=some .eq:=by rcases ho with h | h | h <;> first | exact .inl h.1 | exact .inr h.1 | omega
   by_cases hl:key b<4845873199050653696
   ·have o5:FloatKind.f64.format.order b 4845873199050653696=some .lt:=by
     rcases order_cases b 4845873199050653696 with ⟨_,g | g⟩ | ⟨_,_,h | h | h⟩
     ·rw [n] at g;cases g
     ·rw [n5] at g;cases g
     ·exact h.1
     ·omega
     ·omega
    have hc:=(conv53 (by omega) hl).1
    have hu:=fun (w:World)=>run_convert_float_int (P:=Tryz.prog) w 64 45 .f64 .u64 b _ (by rw [Tryz.underlying64];rfl) Tryz.underlying45 hc
    have e:cntB b=(FloatKind.f64.format.order (floatOfInt .f64 (truncN b)) b == some .eq):=by unfold cntB;rw [n,decide_eq_true (by omega:0≤key b),decide_eq_true hl];rfl
    rw [e]
    clear k0 n0 k5 n5 n ho hk e hl hc
    rcases o with o | o
    all_goals
     go_enter Tryz.func224,Tryz.ntmps224
     go_wp2
     go_ret
     exact ⟨rfl,rfl⟩
   ·have o5:FloatKind.f64.format.order b 4845873199050653696=some .gt∨FloatKind.f64.format.order b 4845873199050653696=some .eq:=by
     rcases order_cases b 4845873199050653696 with ⟨_,g | g⟩ | ⟨_,_,h | h | h⟩
     ·rw [n] at g;cases g
     ·rw [n5] at g;cases g
     ·omega
     ·exact .inr h.1
     ·exact .inl h.1
    have e:cntB b=false:=by unfold cntB;rw [decide_eq_false hl,Bool.and_false,Bool.false_and]
    rw [e]
    clear k0 n0 k5 n5 n ho hk e hl
    rcases o with o | o <;> rcases o5 with o5 | o5
    all_goals
     go_enter Tryz.func224,Tryz.ntmps224
     go_wp2
     go_ret
     exact ⟨rfl,rfl⟩
end Go.Proofs.YteinilmecnlanabGreatDoor
namespace Go.Proofs.YteinilmecnlanabGreatDoor
open Go.ChangeShapes Go.WideShapes Go.ChangeAt Go.RowKit Num
attribute [local go_sem] frombits_run bits_run
theorem rest_any (a b:Nat) (w:World):Calls Tryz.prog 213 #[.float .f64 a,.float .f64 b] w fun e w'=>∃ r n,e=.returned (.float .f64 r)∧fixB r=modV a b∧w'=w.drewN n:=by
 have hn:fixB 9221120237041090560=9221120237041090560:=by decide
 cases ca:cntB a
 ·rw [modV_left ca]
  go_enter Tryz.func213,Tryz.ntmps213
  go_wp2_with (first | (go_at_call 224;refine (countable_any _ _).mono ?_;rintro e w' ⟨rfl,rfl⟩) | (go_at_call 84;refine (nan_any _).mono ?_;rintro e w' ⟨rfl,rfl⟩))
  go_ret
  exact ⟨_,0,rfl,hn,rfl⟩
 ·cases cb:cntB b
  ·rw [modV_right cb]
   go_enter Tryz.func213,Tryz.ntmps213
   go_wp2_with (first | (go_at_call 224;refine (countable_any _ _).mono ?_;rintro e w' ⟨rfl,rfl⟩) | (go_at_call 84;refine (nan_any _).mono ?_;rintro e w' ⟨rfl,rfl⟩))
   go_ret
   exact ⟨_,0,rfl,hn,rfl⟩
  ·obtain ⟨na,ka,la⟩:=cntB_true ca
   obtain ⟨nb,kb,lb⟩:=cntB_true cb
   have k1:=key_one
   rcases order_cases b 4607182418800017408 with ⟨_,g | g⟩ | ⟨_,_,h⟩
   ·rw [nb] at g;cases g
   ·rw [nan_one] at g;cases g
   ·by_cases hlt:key b<4607182418800017408
    ·have o:FloatKind.f64.format.order b 4607182418800017408=some .lt:=by rcases h with h | h | h <;> first | exact h.1 | omega
     rw [modV_low (by rw [o];rfl)]
     clear h na ka la nb kb lb k1 hlt
     go_enter Tryz.func213,Tryz.ntmps213
     go_wp2_with (first | (go_at_call 224;refine (countable_any _ _).mono ?_;rintro e w' ⟨rfl,rfl⟩) | (go_at_call 84;refine (nan_any _).mono ?_;rintro e w' ⟨rfl,rfl⟩))
     go_ret
     exact ⟨_,0,rfl,hn,rfl⟩
    ·have o:FloatKind.f64.format.order b 4607182418800017408=some .gt∨FloatKind.f64.format.order b 4607182418800017408=some .eq:=by rcases h with h | h | h <;> first | exact .inl h.1 | exact .inr h.1 | omega
     have hp:=trunc_ge1 (b:=b) (by omega)
     have t1:=trunc53 ka la
     have t2:=trunc53 kb lb
     have c1:=(conv53 ka la).1
     have c2:=(conv53 kb lb).1
     have u1:=fun (w:World)=>run_convert_float_int (P:=Tryz.prog) w 64 45 .f64 .u64 a _ (by rw [Tryz.underlying64];rfl) Tryz.underlying45 c1
     have u2:=fun (w:World)=>run_convert_float_int (P:=Tryz.prog) w 64 45 .f64 .u64 b _ (by rw [Tryz.underlying64];rfl) Tryz.underlying45 c2
     have HM:Hid (modV a b=fixB (floatOfInt .f64 ((truncN a % truncN b:Nat):Int))):=modV_fine ca cb (by rcases o with o | o <;> rw [o] <;> rfl)
     clear h na ka la nb kb lb k1 hlt c1 c2
     generalize truncN a=x at *
     generalize truncN b=y at *
     rcases o with o | o
     all_goals
      go_enter Tryz.func213,Tryz.ntmps213
      go_wp2_with (first | (go_at_call 224;refine (countable_any _ _).mono ?_;rintro e w' ⟨rfl,rfl⟩) | (go_at_call 84;refine (nan_any _).mono ?_;rintro e w' ⟨rfl,rfl⟩))
      go_ret
      refine ⟨_,0,rfl,?_,rfl⟩
      rw [HM.out]
      rfl
theorem twoTable_any (w:World):Calls Tryz.prog 195 #[] w fun e w'=>e=.returned (.agg #[Value.nilFunc,Value.func (Fn.func 209) #[] #[],Value.func (Fn.func 210) #[] #[],Value.func (Fn.func 211) #[] #[],Value.func (Fn.func 212) #[] #[],Value.func (Fn.func 213) #[] #[],Value.func (Fn.func 214) #[] #[],Value.func (Fn.func 215) #[] #[],Value.func (Fn.func 216) #[] #[],Value.func (Fn.func 217) #[] #[],Value.func (Fn.func 218) #[] #[],Value.func (Fn.func 219) #[] #[],Value.func (Fn.func 220) #[] #[]])∧Grw w w':=by
 go_enter Tryz.func195,Tryz.ntmps195
 go_wp2
 exact bodyPost_ret (v:=.agg #[Value.nilFunc,Value.func (Fn.func 209) #[] #[],Value.func (Fn.func 210) #[] #[],Value.func (Fn.func 211) #[] #[],Value.func (Fn.func 212) #[] #[],Value.func (Fn.func 213) #[] #[],Value.func (Fn.func 214) #[] #[],Value.func (Fn.func 215) #[] #[],Value.func (Fn.func 216) #[] #[],Value.func (Fn.func 217) #[] #[],Value.func (Fn.func 218) #[] #[],Value.func (Fn.func 219) #[] #[],Value.func (Fn.func 220) #[] #[]]) (by simp [results,Tryz.results195,go_sem]) rfl ⟨rfl,by repeat (first | exact Grw.refl _ | apply Grw.drew | apply Grw.alloc)⟩
theorem two_gen (k fid a b v:Nat) (w:World) (h1:1≤k) (h2:k≤12)
  (hS:∀ w1:World,(w1.alloc (.cells #[Value.nilFunc,Value.func (Fn.func 209) #[] #[],Value.func (Fn.func 210) #[] #[],Value.func (Fn.func 211) #[] #[],Value.func (Fn.func 212) #[] #[],Value.func (Fn.func 213) #[] #[],Value.func (Fn.func 214) #[] #[],Value.func (Fn.func 215) #[] #[],Value.func (Fn.func 216) #[] #[],Value.func (Fn.func 217) #[] #[],Value.func (Fn.func 218) #[] #[],Value.func (Fn.func 219) #[] #[],Value.func (Fn.func 220) #[] #[]] 222)).cell? ⟨w1.heap.size,k,none⟩=some (Value.func (Fn.func fid) #[] #[]))
  (hcall:∀ (args:Array Value) (w:World),(callFunc fid args).run Tryz.prog w=.ok (.enter fid args) w)
  (hF:∀ w,Calls Tryz.prog fid #[.float .f64 (fixB a),.float .f64 (fixB b)] w fun e w'=>∃ r n,e=.returned (.float .f64 r)∧fixB r=v∧w'=w.drewN n) :
  Calls Tryz.prog 175 #[.int .i64 k,.float .f64 a,.float .f64 b] w fun e w'=>e=.returned (.tuple #[.float .f64 v,.int .i64 0])∧Grw w w':=by
 have HS:Hid (∀ w1:World,(w1.alloc (.cells #[Value.nilFunc,Value.func (Fn.func 209) #[] #[],Value.func (Fn.func 210) #[] #[],Value.func (Fn.func 211) #[] #[],Value.func (Fn.func 212) #[] #[],Value.func (Fn.func 213) #[] #[],Value.func (Fn.func 214) #[] #[],Value.func (Fn.func 215) #[] #[],Value.func (Fn.func 216) #[] #[],Value.func (Fn.func 217) #[] #[],Value.func (Fn.func 218) #[] #[],Value.func (Fn.func 219) #[] #[],Value.func (Fn.func 220) #[] #[]] 222)).cell? ⟨w1.heap.size,k,none⟩=some (Value.func (Fn.func fid) #[] #[])):=hS
 clear hS
 have HF:Hid (∀ w,Calls Tryz.prog fid #[.float .f64 (fixB a),.float .f64 (fixB b)] w fun e w'=>∃ r n,e=.returned (.float .f64 r)∧fixB r=v∧w'=w.drewN n):=hF
 clear hF
 go_enter Tryz.func175,Tryz.ntmps175
 go_wp2_with (go_at_call 195;refine (twoTable_any _).mono ?_;rintro e w1 ⟨rfl,hg⟩)
 go_region_held (fun w'=>w'.cell? ⟨w1.heap.size,k,none⟩=some (Value.func (Fn.func fid) #[] #[])) (first | exact HS.out _ | go_keep) (first | (go_at_call 67;refine (fix_any _ _).mono ?_;rintro e w2 ⟨rfl,rfl⟩) | (refine (HF.out _).mono ?_;rintro e w2 ⟨r,n,rfl,hr,rfl⟩))
 go_wp2
 go_ret2
 exact ⟨rfl,grown_drewN (hg.alloc _ _) _⟩
theorem two_1 (a b:Nat) (w:World) (_ha:a<18446744073709551616) (_hb:b<18446744073709551616):Calls Tryz.prog 175 #[.int .i64 1,.float .f64 a,.float .f64 b] w fun e w'=>e=.returned (.tuple #[.float .f64 (resV (floatBits .add .f64 a b)),.int .i64 0])∧Grw w w' :=
 two_gen 1 209 a b _ w (by omega) (by omega) (fun w1=>by simp [go_sem]) (enter_run Tryz.func209 (by kernel_rfl) (by kernel_rfl)) (fun w=>(sum_any _ _ _).mono fun _ _ ⟨r,n,h1,h2,h3⟩=>⟨r,n,h1,h2.trans (congrArg resV (floatBits_fix _ a b)),h3⟩)
theorem two_2 (a b:Nat) (w:World) (_ha:a<18446744073709551616) (_hb:b<18446744073709551616):Calls Tryz.prog 175 #[.int .i64 2,.float .f64 a,.float .f64 b] w fun e w'=>e=.returned (.tuple #[.float .f64 (resV (floatBits .sub .f64 a b)),.int .i64 0])∧Grw w w' :=
 two_gen 2 210 a b _ w (by omega) (by omega) (fun w1=>by simp [go_sem]) (enter_run Tryz.func210 (by kernel_rfl) (by kernel_rfl)) (fun w=>(difference_any _ _ _).mono fun _ _ ⟨r,n,h1,h2,h3⟩=>⟨r,n,h1,h2.trans (congrArg resV (floatBits_fix _ a b)),h3⟩)
theorem two_3 (a b:Nat) (w:World) (_ha:a<18446744073709551616) (_hb:b<18446744073709551616):Calls Tryz.prog 175 #[.int .i64 3,.float .f64 a,.float .f64 b] w fun e w'=>e=.returned (.tuple #[.float .f64 (resV (floatBits .mul .f64 a b)),.int .i64 0])∧Grw w w' :=
 two_gen 3 211 a b _ w (by omega) (by omega) (fun w1=>by simp [go_sem]) (enter_run Tryz.func211 (by kernel_rfl) (by kernel_rfl)) (fun w=>(product_any _ _ _).mono fun _ _ ⟨r,n,h1,h2,h3⟩=>⟨r,n,h1,h2.trans (congrArg resV (floatBits_fix _ a b)),h3⟩)
theorem two_4 (a b:Nat) (w:World) (_ha:a<18446744073709551616) (_hb:b<18446744073709551616):Calls Tryz.prog 175 #[.int .i64 4,.float .f64 a,.float .f64 b] w fun e w'=>e=.returned (.tuple #[.float .f64 (resV (floatBits .quo .f64 a b)),.int .i64 0])∧Grw w w' :=
 two_gen 4 212 a b _ w (by omega) (by omega) (fun w1=>by simp [go_sem]) (enter_run Tryz.func212 (by kernel_rfl) (by kernel_rfl)) (fun w=>(quotient_any _ _ _).mono fun _ _ ⟨r,n,h1,h2,h3⟩=>⟨r,n,h1,h2.trans (congrArg resV (floatBits_fix _ a b)),h3⟩)
theorem two_5 (a b:Nat) (w:World) (_ha:a<18446744073709551616) (_hb:b<18446744073709551616):Calls Tryz.prog 175 #[.int .i64 5,.float .f64 a,.float .f64 b] w fun e w'=>e=.returned (.tuple #[.float .f64 (modV a b),.int .i64 0])∧Grw w w' :=
 two_gen 5 213 a b _ w (by omega) (by omega) (fun w1=>by simp [go_sem]) (enter_run Tryz.func213 (by kernel_rfl) (by kernel_rfl)) (fun w=>(rest_any _ _ _).mono fun _ _ ⟨r,n,h1,h2,h3⟩=>⟨r,n,h1,h2.trans (modV_fix a b),h3⟩)
theorem two_6 (a b:Nat) (w:World) (ha:a<18446744073709551616) (hb:b<18446744073709551616):Calls Tryz.prog 175 #[.int .i64 6,.float .f64 a,.float .f64 b] w fun e w'=>e=.returned (.tuple #[.float .f64 (minV a b),.int .i64 0])∧Grw w w' :=
 two_gen 6 214 a b _ w (by omega) (by omega) (fun w1=>by simp [go_sem]) (enter_run Tryz.func214 (by kernel_rfl) (by kernel_rfl)) (fun w=>(least_any _ _ _ (fixB_lt ha) (fixB_lt hb)).mono fun _ _ ⟨r,n,h1,h2,h3⟩=>⟨r,n,h1,h2.trans (minV_fix a b),h3⟩)
theorem two_7 (a b:Nat) (w:World) (ha:a<18446744073709551616) (hb:b<18446744073709551616):Calls Tryz.prog 175 #[.int .i64 7,.float .f64 a,.float .f64 b] w fun e w'=>e=.returned (.tuple #[.float .f64 (maxV a b),.int .i64 0])∧Grw w w' :=
 two_gen 7 215 a b _ w (by omega) (by omega) (fun w1=>by simp [go_sem]) (enter_run Tryz.func215 (by kernel_rfl) (by kernel_rfl)) (fun w=>(greatest_any _ _ _ (fixB_lt ha) (fixB_lt hb)).mono fun _ _ ⟨r,n,h1,h2,h3⟩=>⟨r,n,h1,h2.trans (maxV_fix a b),h3⟩)
theorem two_8 (a b:Nat) (w:World) (_ha:a<18446744073709551616) (_hb:b<18446744073709551616):Calls Tryz.prog 175 #[.int .i64 8,.float .f64 a,.float .f64 b] w fun e w'=>e=.returned (.tuple #[.float .f64 (yesB (FloatKind.f64.format.order a b == some .lt)),.int .i64 0])∧Grw w w' :=
 two_gen 8 216 a b _ w (by omega) (by omega) (fun w1=>by simp [go_sem]) (enter_run Tryz.func216 (by kernel_rfl) (by kernel_rfl)) (fun w=>(less_any _ _ _).mono fun _ _ ⟨r,n,h1,h2,h3⟩=>⟨r,n,h1,h2.trans (by rw [order_fix]),h3⟩)
theorem two_9 (a b:Nat) (w:World) (_ha:a<18446744073709551616) (_hb:b<18446744073709551616):Calls Tryz.prog 175 #[.int .i64 9,.float .f64 a,.float .f64 b] w fun e w'=>e=.returned (.tuple #[.float .f64 (yesB (FloatKind.f64.format.order a b == some .lt || FloatKind.f64.format.order a b == some .eq)),.int .i64 0])∧Grw w w' :=
 two_gen 9 217 a b _ w (by omega) (by omega) (fun w1=>by simp [go_sem]) (enter_run Tryz.func217 (by kernel_rfl) (by kernel_rfl)) (fun w=>(atMost_any _ _ _).mono fun _ _ ⟨r,n,h1,h2,h3⟩=>⟨r,n,h1,h2.trans (by rw [order_fix]),h3⟩)
theorem two_10 (a b:Nat) (w:World) (_ha:a<18446744073709551616) (_hb:b<18446744073709551616):Calls Tryz.prog 175 #[.int .i64 10,.float .f64 a,.float .f64 b] w fun e w'=>e=.returned (.tuple #[.float .f64 (yesB (FloatKind.f64.format.order a b == some .eq)),.int .i64 0])∧Grw w w' :=
 two_gen 10 218 a b _ w (by omega) (by omega) (fun w1=>by simp [go_sem]) (enter_run Tryz.func218 (by kernel_rfl) (by kernel_rfl)) (fun w=>(equal_any _ _ _).mono fun _ _ ⟨r,n,h1,h2,h3⟩=>⟨r,n,h1,h2.trans (by rw [order_fix]),h3⟩)
theorem two_11 (a b:Nat) (w:World) (_ha:a<18446744073709551616) (_hb:b<18446744073709551616):Calls Tryz.prog 175 #[.int .i64 11,.float .f64 a,.float .f64 b] w fun e w'=>e=.returned (.tuple #[.float .f64 (yesB (fixB a == fixB b)),.int .i64 0])∧Grw w w' :=
 two_gen 11 219 a b _ w (by omega) (by omega) (fun w1=>by simp [go_sem]) (enter_run Tryz.func219 (by kernel_rfl) (by kernel_rfl)) (fun w=>(same2_any _ _ _).mono fun _ _ ⟨r,n,h1,h2,h3⟩=>⟨r,n,h1,h2.trans (by rw [fixB_fixB,fixB_fixB]),h3⟩)
theorem two_12 (a b:Nat) (w:World) (ha:a<18446744073709551616) (hb:b<18446744073709551616):Calls Tryz.prog 175 #[.int .i64 12,.float .f64 a,.float .f64 b] w fun e w'=>e=.returned (.tuple #[.float .f64 (yesB (decide (cmpB a b<0))),.int .i64 0])∧Grw w w' :=
 two_gen 12 220 a b _ w (by omega) (by omega) (fun w1=>by simp [go_sem]) (enter_run Tryz.func220 (by kernel_rfl) (by kernel_rfl)) (fun w=>(ahead_any _ _ _ (fixB_lt ha) (fixB_lt hb)).mono fun _ _ ⟨r,n,h1,h2,h3⟩=>⟨r,n,h1,h2.trans (by rw [cmpB_fix]),h3⟩)
end Go.Proofs.YteinilmecnlanabGreatDoor
namespace Go.Proofs.YteinilmecnlanabGreatDoor
open Go.ChangeShapes Go.WideShapes Go.ChangeAt Go.RowKit Num
attribute [local go_sem] frombits_run bits_run
def idxB (b:Nat) (n:Int):Bool:=!nan b && decide (0≤key b) && decide (key b<4890909195324358656) && FloatKind.f64.format.order (floatOfInt .f64 (truncN b)) b == some .eq && decide ((truncN b:Int)<n)
def idxV (b:Nat) (n:Int):Int:=if idxB b n then truncN b else 0
def idxE (b:Nat) (n:Int):Int:=if idxB b n then 0 else 10
theorem idx_no {b:Nat} {n:Int} (h:idxB b n=false):idxV b n=0∧idxE b n=10:=by unfold idxV idxE;rw [h];exact ⟨rfl,rfl⟩
theorem idx_yes {b:Nat} {n:Int} (h:idxB b n=true):idxV b n=truncN b∧idxE b n=0:=by unfold idxV idxE;rw [h];exact ⟨rfl,rfl⟩
theorem key_big63:key 4890909195324358656=4890909195324358656:=by decide +kernel
theorem nan_big63:nan 4890909195324358656=false:=by decide +kernel
theorem trunc63 {b:Nat} (h0:0≤key b) (h1:key b<4890909195324358656):truncN b<9223372036854775808:=by
 have:=key_pos h0
 exact trunc_lt (by omega) val_big63
theorem conv63 {b:Nat} (h0:0≤key b) (h1:key b<4890909195324358656):floatToIntVal .f64 b .i64=some ((truncN b:Nat):Int):=by
 have h2:=trunc63 h0 h1
 have h3:=key_pos h0
 have m2:IntKind.i64.max=9223372036854775807:=by decide
 exact conv_pos .i64 (by omega) h0 (by decide) (by omega)
theorem ways63 (b:Nat):(nan b=true∧FloatKind.f64.format.order b 0=none)∨(nan b=false∧FloatKind.f64.format.order b 0=some .lt∧key b<0) ∨
  (nan b=false∧0≤key b∧(FloatKind.f64.format.order b 0=some .gt∨FloatKind.f64.format.order b 0=some .eq)∧key b<4890909195324358656∧FloatKind.f64.format.order b 4890909195324358656=some .lt) ∨
  (nan b=false∧(FloatKind.f64.format.order b 0=some .gt∨FloatKind.f64.format.order b 0=some .eq)∧¬ key b<4890909195324358656∧(FloatKind.f64.format.order b 4890909195324358656=some .gt∨FloatKind.f64.format.order b 4890909195324358656=some .eq)):=by
 have k0:=key_zero
 have n0:=nan_zero
 have k6:=key_big63
 have n6:=nan_big63
 rcases order_cases b 0 with ⟨o,n | n⟩ | ⟨n,_,ho⟩
 ·exact .inl ⟨n,o⟩
 ·rw [n0] at n;cases n
 ·rcases order_cases b 4890909195324358656 with ⟨_,g | g⟩ | ⟨_,_,hp⟩
  ·rw [n] at g;cases g
  ·rw [n6] at g;cases g
  ·right
   by_cases hk:key b<0
   ·left;exact ⟨n,by rcases ho with h | h | h <;> first | exact h.1 | omega,hk⟩
   ·right
    have o:FloatKind.f64.format.order b 0=some .gt∨FloatKind.f64.format.order b 0=some .eq:=by rcases ho with h | h | h <;> first | exact .inl h.1 | exact .inr h.1 | omega
    by_cases hl:key b<4890909195324358656
    ·left;exact ⟨n,by omega,o,hl,by rcases hp with h | h | h <;> first | exact h.1 | omega⟩
    ·right;exact ⟨n,o,hl,by rcases hp with h | h | h <;> first | exact .inl h.1 | exact .inr h.1 | omega⟩
theorem index_no (b:Nat) (n:Int) (w:World) (h:FloatKind.f64.format.order b 0=none∨FloatKind.f64.format.order b 0=some .lt):Calls Tryz.prog 190 #[.float .f64 b,.int .i64 n] w fun e w'=>e=.returned (.tuple #[.int .i64 0,.int .i64 10])∧w'=w:=by
 rcases h with o | o
 all_goals
  go_enter Tryz.func190,Tryz.ntmps190
  go_wp2
  go_ret2
  exact ⟨rfl,rfl⟩
theorem index_big (b:Nat) (n:Int) (w:World) (o:FloatKind.f64.format.order b 0=some .gt∨FloatKind.f64.format.order b 0=some .eq) (p:FloatKind.f64.format.order b 4890909195324358656=some .gt∨FloatKind.f64.format.order b 4890909195324358656=some .eq):Calls Tryz.prog 190 #[.float .f64 b,.int .i64 n] w fun e w'=>e=.returned (.tuple #[.int .i64 0,.int .i64 10])∧w'=w:=by
 rcases o with o | o <;> rcases p with p | p
 all_goals
  go_enter Tryz.func190,Tryz.ntmps190
  go_wp2
  go_ret2
  exact ⟨rfl,rfl⟩
theorem index_frac (b t:Nat) (n:Int) (w:World) (o:FloatKind.f64.format.order b 0=some .gt∨FloatKind.f64.format.order b 0=some .eq) (p:FloatKind.f64.format.order b 4890909195324358656=some .lt)
  (u:∀ w:World,(convert 64 2 (.float .f64 b)).run Tryz.prog w=.ok (.int .i64 t) w) (q:(FloatKind.f64.format.order (floatOfInt .f64 t) b == some .eq)=false):Calls Tryz.prog 190 #[.float .f64 b,.int .i64 n] w fun e w'=>e=.returned (.tuple #[.int .i64 0,.int .i64 10])∧w'=w:=by
 have q':(FloatKind.f64.format.order (floatOfInt .f64 t) b != some .eq)=true:=by unfold bne;rw [q];rfl
 rcases o with o | o
 all_goals
  go_enter Tryz.func190,Tryz.ntmps190
  go_wp2
  go_ret2
  exact ⟨rfl,rfl⟩
theorem index_whole (b t:Nat) (n:Int) (w:World) (o:FloatKind.f64.format.order b 0=some .gt∨FloatKind.f64.format.order b 0=some .eq) (p:FloatKind.f64.format.order b 4890909195324358656=some .lt)
  (u:∀ w:World,(convert 64 2 (.float .f64 b)).run Tryz.prog w=.ok (.int .i64 t) w) (q:(FloatKind.f64.format.order (floatOfInt .f64 t) b == some .eq)=true):Calls Tryz.prog 190 #[.float .f64 b,.int .i64 n] w fun e w'=>e=.returned (.tuple #[.int .i64 (if (t:Int)<n then t else 0),.int .i64 (if (t:Int)<n then 0 else 10)])∧w'=w:=by
 have q':(FloatKind.f64.format.order (floatOfInt .f64 t) b != some .eq)=false:=by unfold bne;rw [q];rfl
 by_cases h:(t:Int)<n
 ·rw [if_pos h,if_pos h]
  rcases o with o | o
  all_goals
   go_enter Tryz.func190,Tryz.ntmps190
   go_wp2
   go_ret2
   exact ⟨rfl,rfl⟩
 ·rw [if_neg h,if_neg h]
  rcases o with o | o
  all_goals
   go_enter Tryz.func190,Tryz.ntmps190
   go_wp2
   go_ret2
   exact ⟨rfl,rfl⟩
theorem index_any (b:Nat) (n:Int) (w:World):Calls Tryz.prog 190 #[.float .f64 b,.int .i64 n] w fun e w'=>e=.returned (.tuple #[.int .i64 (idxV b n),.int .i64 (idxE b n)])∧w'=w:=by
 rcases ways63 b with ⟨nn,o⟩ | ⟨nn,o,k⟩ | ⟨nn,k,o,l,p⟩ | ⟨nn,o,l,p⟩
 ·obtain ⟨e1,e2⟩:=idx_no (b:=b) (n:=n) (by unfold idxB;rw [nn];rfl)
  rw [e1,e2];exact index_no b n w (.inl o)
 ·obtain ⟨e1,e2⟩:=idx_no (b:=b) (n:=n) (by unfold idxB;rw [decide_eq_false (by omega:¬ 0≤key b),Bool.and_false,Bool.false_and,Bool.false_and,Bool.false_and])
  rw [e1,e2];exact index_no b n w (.inr o)
 ·have u:=fun (w:World)=>run_convert_float_int (P:=Tryz.prog) w 64 2 .f64 .i64 b _ (by rw [Tryz.underlying64];rfl) Tryz.underlying2 (conv63 k l)
  cases q:(FloatKind.f64.format.order (floatOfInt .f64 (truncN b)) b == some .eq)
  ·obtain ⟨e1,e2⟩:=idx_no (b:=b) (n:=n) (by unfold idxB;rw [q,Bool.and_false,Bool.false_and])
   rw [e1,e2];exact index_frac b _ n w o p u q
  ·have h:=index_whole b _ n w o p u q
   by_cases g:(truncN b:Int)<n
   ·obtain ⟨e1,e2⟩:=idx_yes (b:=b) (n:=n) (by unfold idxB;rw [nn,q,decide_eq_true k,decide_eq_true l,decide_eq_true g];rfl)
    rw [if_pos g,if_pos g] at h
    rw [e1,e2];exact h
   ·obtain ⟨e1,e2⟩:=idx_no (b:=b) (n:=n) (by unfold idxB;rw [decide_eq_false g,Bool.and_false])
    rw [if_neg g,if_neg g] at h
    rw [e1,e2];exact h
 ·obtain ⟨e1,e2⟩:=idx_no (b:=b) (n:=n) (by unfold idxB;rw [decide_eq_false l,Bool.and_false,Bool.false_and,Bool.false_and])
  rw [e1,e2];exact index_big b n w o p
end Go.Proofs.YteinilmecnlanabGreatDoor
namespace Go.Proofs.YteinilmecnlanabGreatDoor
open Go.ChangeShapes Go.WideShapes Go.ChangeAt Go.RowKit Num
attribute [local go_sem] frombits_run bits_run
theorem refYes_any (c:Bool) (w:World):Calls Tryz.prog 115 #[.bool c] w fun e w'=>e=.returned (.float .f64 (yesB c))∧w'=w:=by
 cases c
 all_goals
  go_enter Tryz.func115,Tryz.ntmps115
  go_wp2
  go_ret
  exact ⟨rfl,rfl⟩
theorem refTrue_any (b:Nat) (w:World):Calls Tryz.prog 96 #[.float .f64 b] w fun e w'=>e=.returned (.bool (trueB b))∧w'=w:=by
 have k0:=key_zero
 have n0:=nan_zero
 rcases order_cases b 0 with ⟨o,n | n⟩ | ⟨n,_,⟨o,hk⟩ | ⟨o,hk⟩ | ⟨o,hk⟩⟩
 ·have e:trueB b=false:=by unfold trueB;rw [n];rfl
  rw [e]
  clear e k0 n0 n
  go_enter Tryz.func96,Tryz.ntmps96
  go_wp2
  go_ret
  exact ⟨rfl,rfl⟩
 ·rw [n0] at n;cases n
 ·have e:trueB b=true:=by unfold trueB;rw [n,k0] at *;simp;omega
  rw [e]
  clear e k0 n0 hk n
  go_enter Tryz.func96,Tryz.ntmps96
  go_wp2
  go_ret
  exact ⟨rfl,rfl⟩
 ·have e:trueB b=false:=by unfold trueB;rw [n,hk,k0];rfl
  rw [e]
  clear e k0 n0 hk n
  go_enter Tryz.func96,Tryz.ntmps96
  go_wp2
  go_ret
  exact ⟨rfl,rfl⟩
 ·have e:trueB b=true:=by unfold trueB;rw [n,k0] at *;simp;omega
  rw [e]
  clear e k0 n0 hk n
  go_enter Tryz.func96,Tryz.ntmps96
  go_wp2
  go_ret
  exact ⟨rfl,rfl⟩
theorem ret_int {k:IntKind} {a b:Int} (h:a=b):Ending.returned (.int k a)=.returned (.int k b):=by rw [h]
theorem hash_forms (X:Int) (h:0≤X):wrap64 (IntKind.u64.wrap (((IntKind.u64.wrap ((X.tmod 4294967296)*2654435769)).tmod 4294967296).tdiv 65536))=X % 4294967296*2654435769 % 4294967296 / 65536:=by
 rw [IntKind.wrap_u64,IntKind.wrap_u64,Int.tmod_eq_emod_of_nonneg h]
 have e:X % 4294967296*2654435769 % 18446744073709551616=X % 4294967296*2654435769:=by omega
 rw [e,Int.tmod_eq_emod_of_nonneg (by omega),Int.tdiv_eq_ediv_of_nonneg (by omega)]
 have e2:X % 4294967296*2654435769 % 4294967296 / 65536 % 18446744073709551616=X % 4294967296*2654435769 % 4294967296 / 65536:=by omega
 rw [e2]
 unfold wrap64
 omega
theorem refHash_any (b:Nat) (w:World) (hb:b<18446744073709551616):Calls Tryz.prog 116 #[.float .f64 b] w fun e w'=>e=.returned (.int .i64 (hashI (fixB b)))∧w'=w:=by
 have hf:=fixB_lt hb
 have hx:=xorShift_u64 (fixB b) 4294967296 hf
 have h0:0≤bits .xor .u64 (fixB b:Int) ((fixB b:Int) / 4294967296):=by
  have e:bits .xor .u64 (fixB b:Int) ((fixB b:Int) / 4294967296)=_:=hx
  rw [e];exact Int.natCast_nonneg _
 have HE:=hash_forms _ h0
 have HH:Hid (_=_):=HE
 clear hx h0 HE
 unfold hashI
 go_enter Tryz.func116,Tryz.ntmps116
 go_wp2_with (go_at_call 81;refine (refBits_any _ _).mono ?_;rintro e w' ⟨rfl,rfl⟩)
 go_ret
 exact ⟨ret_int HH.out,rfl⟩
theorem rindex_no (b:Nat) (n:Int) (w:World) (h:FloatKind.f64.format.order b 0=none∨FloatKind.f64.format.order b 0=some .lt):Calls Tryz.prog 121 #[.float .f64 b,.int .i64 n] w fun e w'=>e=.returned (.tuple #[.int .i64 0,.int .i64 10])∧w'=w:=by
 rcases h with o | o
 all_goals
  go_enter Tryz.func121,Tryz.ntmps121
  go_wp2
  go_ret2
  exact ⟨rfl,rfl⟩
theorem rindex_big (b:Nat) (n:Int) (w:World) (o:FloatKind.f64.format.order b 0=some .gt∨FloatKind.f64.format.order b 0=some .eq) (p:FloatKind.f64.format.order b 4890909195324358656=some .gt∨FloatKind.f64.format.order b 4890909195324358656=some .eq):Calls Tryz.prog 121 #[.float .f64 b,.int .i64 n] w fun e w'=>e=.returned (.tuple #[.int .i64 0,.int .i64 10])∧w'=w:=by
 rcases o with o | o <;> rcases p with p | p
 all_goals
  go_enter Tryz.func121,Tryz.ntmps121
  go_wp2
  go_ret2
  exact ⟨rfl,rfl⟩
theorem rindex_frac (b:Nat) (n:Int) (w:World) (nn:nan b=false) (o:FloatKind.f64.format.order b 0=some .gt∨FloatKind.f64.format.order b 0=some .eq) (p:FloatKind.f64.format.order b 4890909195324358656=some .lt)
  (q:(FloatKind.f64.format.order b (floorB b) == some .eq)=false):Calls Tryz.prog 121 #[.float .f64 b,.int .i64 n] w fun e w'=>e=.returned (.tuple #[.int .i64 0,.int .i64 10])∧w'=w:=by
 have q':(FloatKind.f64.format.order b (floorB b) != some .eq)=true:=by unfold bne;rw [q];rfl
 rcases o with o | o
 all_goals
  go_enter Tryz.func121,Tryz.ntmps121
  go_wp2_with (go_at_call 113;refine (mathFloor_num _ _ nn).mono ?_;rintro e w' ⟨rfl,rfl⟩)
  go_ret2
  exact ⟨rfl,rfl⟩
theorem rindex_whole (b t:Nat) (n:Int) (w:World) (nn:nan b=false) (o:FloatKind.f64.format.order b 0=some .gt∨FloatKind.f64.format.order b 0=some .eq) (p:FloatKind.f64.format.order b 4890909195324358656=some .lt)
  (u:∀ w:World,(convert 64 3 (.float .f64 b)).run Tryz.prog w=.ok (.int .i64 t) w) (q:(FloatKind.f64.format.order b (floorB b) == some .eq)=true):Calls Tryz.prog 121 #[.float .f64 b,.int .i64 n] w fun e w'=>e=.returned (.tuple #[.int .i64 (if (t:Int)<n then t else 0),.int .i64 (if (t:Int)<n then 0 else 10)])∧w'=w:=by
 have q':(FloatKind.f64.format.order b (floorB b) != some .eq)=false:=by unfold bne;rw [q];rfl
 by_cases h:(t:Int)<n
 ·rw [if_pos h,if_pos h]
  rcases o with o | o
  all_goals
   go_enter Tryz.func121,Tryz.ntmps121
   go_wp2_with (go_at_call 113;refine (mathFloor_num _ _ nn).mono ?_;rintro e w' ⟨rfl,rfl⟩)
   go_ret2
   exact ⟨rfl,rfl⟩
 ·rw [if_neg h,if_neg h]
  rcases o with o | o
  all_goals
   go_enter Tryz.func121,Tryz.ntmps121
   go_wp2_with (go_at_call 113;refine (mathFloor_num _ _ nn).mono ?_;rintro e w' ⟨rfl,rfl⟩)
   go_ret2
   exact ⟨rfl,rfl⟩
theorem refIndex_any (b:Nat) (n:Int) (w:World) (hb:b<18446744073709551616):Calls Tryz.prog 121 #[.float .f64 b,.int .i64 n] w fun e w'=>e=.returned (.tuple #[.int .i64 (idxV b n),.int .i64 (idxE b n)])∧w'=w:=by
 rcases ways63 b with ⟨nn,o⟩ | ⟨nn,o,k⟩ | ⟨nn,k,o,l,p⟩ | ⟨nn,o,l,p⟩
 ·obtain ⟨e1,e2⟩:=idx_no (b:=b) (n:=n) (by unfold idxB;rw [nn];rfl)
  rw [e1,e2];exact rindex_no b n w (.inl o)
 ·obtain ⟨e1,e2⟩:=idx_no (b:=b) (n:=n) (by unfold idxB;rw [decide_eq_false (by omega:¬ 0≤key b),Bool.and_false,Bool.false_and,Bool.false_and,Bool.false_and])
  rw [e1,e2];exact rindex_no b n w (.inr o)
 ·have u:=fun (w:World)=>run_convert_float_int (P:=Tryz.prog) w 64 3 .f64 .i64 b _ (by rw [Tryz.underlying64];rfl) Tryz.underlying3 (conv63 k l)
  have w2:=whole_two hb (by have:=key_pos k;omega) k
  cases q:(FloatKind.f64.format.order (floatOfInt .f64 (truncN b)) b == some .eq)
  ·obtain ⟨e1,e2⟩:=idx_no (b:=b) (n:=n) (by unfold idxB;rw [q,Bool.and_false,Bool.false_and])
   rw [e1,e2];exact rindex_frac b n w nn o p (by rw [← w2];exact q)
  ·have h:=rindex_whole b _ n w nn o p u (by rw [← w2];exact q)
   by_cases g:(truncN b:Int)<n
   ·obtain ⟨e1,e2⟩:=idx_yes (b:=b) (n:=n) (by unfold idxB;rw [nn,q,decide_eq_true k,decide_eq_true l,decide_eq_true g];rfl)
    rw [if_pos g,if_pos g] at h
    rw [e1,e2];exact h
   ·obtain ⟨e1,e2⟩:=idx_no (b:=b) (n:=n) (by unfold idxB;rw [decide_eq_false g,Bool.and_false])
    rw [if_neg g,if_neg g] at h
    rw [e1,e2];exact h
 ·obtain ⟨e1,e2⟩:=idx_no (b:=b) (n:=n) (by unfold idxB;rw [decide_eq_false l,Bool.and_false,Bool.false_and,Bool.false_and])
  rw [e1,e2];exact rindex_big b n w o p
theorem rone_1 (b:Nat) (w:World) (hb:b<18446744073709551616):Calls Tryz.prog 94 #[.int .i64 1,.float .f64 b] w fun e w'=>e=.returned (.tuple #[.float .f64 (fixB (fixB b ^^^ 9223372036854775808)),.int .i64 0])∧Grw w w':=by
 have hx:=xor_sign (fixB_lt hb)
 have hi:=fixB_fixB (fixB b ^^^ 9223372036854775808)
 go_enter Tryz.func94,Tryz.ntmps94
 go_wp2_with (first | (go_at_call 81;refine (refBits_any _ _).mono ?_;rintro e w' ⟨rfl,rfl⟩) | (go_at_call 112;refine (refOf_any _ _).mono ?_;rintro e w' ⟨rfl,rfl⟩) | (go_at_call 48;refine (refFix_any _ _).mono ?_;rintro e w' ⟨rfl,rfl⟩))
 go_ret2
 exact ⟨rfl,Grw.refl _⟩
theorem rone_2 (b:Nat) (w:World) (hb:b<18446744073709551616):Calls Tryz.prog 94 #[.int .i64 2,.float .f64 b] w fun e w'=>e=.returned (.tuple #[.float .f64 (fixB (fixB b &&& 9223372036854775807)),.int .i64 0])∧Grw w w':=by
 have hx:=andNot_sign (fixB_lt hb)
 have hi:=fixB_fixB (fixB b &&& 9223372036854775807)
 go_enter Tryz.func94,Tryz.ntmps94
 go_wp2_with (first | (go_at_call 81;refine (refBits_any _ _).mono ?_;rintro e w' ⟨rfl,rfl⟩) | (go_at_call 112;refine (refOf_any _ _).mono ?_;rintro e w' ⟨rfl,rfl⟩) | (go_at_call 48;refine (refFix_any _ _).mono ?_;rintro e w' ⟨rfl,rfl⟩))
 go_ret2
 exact ⟨rfl,Grw.refl _⟩
theorem rone_3 (b:Nat) (w:World):Calls Tryz.prog 94 #[.int .i64 3,.float .f64 b] w fun e w'=>e=.returned (.tuple #[.float .f64 (floorV b),.int .i64 0])∧Grw w w':=by
 go_enter Tryz.func94,Tryz.ntmps94
 go_wp2_with (first | (go_at_call 113;refine (mathFloor_any _ _).mono ?_;rintro e w' ⟨r,n,rfl,hr,rfl⟩) | (go_at_call 48;refine (refFix_any _ _).mono ?_;rintro e w' ⟨rfl,rfl⟩))
 go_ret2
 exact ⟨rfl,grown_drewN (Grw.refl _) _⟩
theorem rone_4 (b:Nat) (w:World):Calls Tryz.prog 94 #[.int .i64 4,.float .f64 b] w fun e w'=>e=.returned (.tuple #[.float .f64 (rootV b),.int .i64 0])∧Grw w w':=by
 go_enter Tryz.func94,Tryz.ntmps94
 go_wp2_with (first | (go_at_call 114;refine (mathSqrt_any _ _).mono ?_;rintro e w' ⟨r,n,rfl,hr,rfl⟩) | (go_at_call 48;refine (refFix_any _ _).mono ?_;rintro e w' ⟨rfl,rfl⟩))
 go_ret2
 exact ⟨rfl,grown_drewN (Grw.refl _) _⟩
theorem rone_5 (b:Nat) (w:World):Calls Tryz.prog 94 #[.int .i64 5,.float .f64 b] w fun e w'=>e=.returned (.tuple #[.float .f64 (yesB (!trueB b)),.int .i64 0])∧Grw w w':=by
 have hi:=fixB_yes (!trueB b)
 go_enter Tryz.func94,Tryz.ntmps94
 go_wp2_with (first | (go_at_call 96;refine (refTrue_any _ _).mono ?_;rintro e w' ⟨rfl,rfl⟩) | (go_at_call 115;refine (refYes_any _ _).mono ?_;rintro e w' ⟨rfl,rfl⟩) | (go_at_call 48;refine (refFix_any _ _).mono ?_;rintro e w' ⟨rfl,rfl⟩))
 go_ret2
 exact ⟨rfl,Grw.refl _⟩
theorem rone_6 (b:Nat) (w:World):Calls Tryz.prog 94 #[.int .i64 6,.float .f64 b] w fun e w'=>e=.returned (.tuple #[.float .f64 (yesB (nan b)),.int .i64 0])∧Grw w w':=by
 have hn:(FloatKind.f64.format.order b b != some .eq)=nan b:=by
  cases h:nan b
  ·rw [self_num h];rfl
  ·rw [self_nan h];rfl
 have hi:=fixB_yes (nan b)
 go_enter Tryz.func94,Tryz.ntmps94
 go_wp2_with (first | (go_at_call 115;refine (refYes_any _ _).mono ?_;rintro e w' ⟨rfl,rfl⟩) | (go_at_call 48;refine (refFix_any _ _).mono ?_;rintro e w' ⟨rfl,rfl⟩))
 go_ret2
 exact ⟨rfl,Grw.refl _⟩
theorem rone_7 (b:Nat) (w:World):Calls Tryz.prog 94 #[.int .i64 7,.float .f64 b] w fun e w'=>e=.returned (.tuple #[.float .f64 (signB b),.int .i64 0])∧Grw w w':=by
 have k0:=key_zero
 have n0:=nan_zero
 have hs:=fixB_sign b
 rcases order_cases b 0 with ⟨o,n | n⟩ | ⟨n,_,⟨o,hk⟩ | ⟨o,hk⟩ | ⟨o,hk⟩⟩
 ·have e:signB b=9221120237041090560:=by unfold signB;rw [n];rfl
  rw [e]
  have hn:=fixB_nan n
  clear e k0 n0 hs n
  go_enter Tryz.func94,Tryz.ntmps94
  go_wp2_with (go_at_call 48;refine (refFix_any _ _).mono ?_;rintro e w' ⟨rfl,rfl⟩)
  go_ret2
  exact ⟨rfl,Grw.refl _⟩
 ·rw [n0] at n;cases n
 ·have e:signB b=13830554455654793216:=by unfold signB;rw [n,if_neg (by simp),if_neg (by omega),if_pos (by omega)]
  rw [e] at hs ⊢
  clear e k0 n0 hk n
  go_enter Tryz.func94,Tryz.ntmps94
  go_wp2_with (go_at_call 48;refine (refFix_any _ _).mono ?_;rintro e w' ⟨rfl,rfl⟩)
  go_ret2
  exact ⟨rfl,Grw.refl _⟩
 ·have e:signB b=b:=by unfold signB;rw [n,if_neg (by simp),if_neg (by omega),if_neg (by omega)]
  rw [e] at hs ⊢
  clear e k0 n0 hk n
  go_enter Tryz.func94,Tryz.ntmps94
  go_wp2_with (go_at_call 48;refine (refFix_any _ _).mono ?_;rintro e w' ⟨rfl,rfl⟩)
  go_ret2
  exact ⟨rfl,Grw.refl _⟩
 ·have e:signB b=4607182418800017408:=by unfold signB;rw [n,if_neg (by simp),if_pos (by omega)]
  rw [e] at hs ⊢
  clear e k0 n0 hk n
  go_enter Tryz.func94,Tryz.ntmps94
  go_wp2_with (go_at_call 48;refine (refFix_any _ _).mono ?_;rintro e w' ⟨rfl,rfl⟩)
  go_ret2
  exact ⟨rfl,Grw.refl _⟩
theorem rone_8 (b:Nat) (w:World) (hb:b<18446744073709551616):Calls Tryz.prog 94 #[.int .i64 8,.float .f64 b] w fun e w'=>e=.returned (.tuple #[.float .f64 (fixB (floatOfInt .f64 (hashI (fixB b)))),.int .i64 0])∧Grw w w':=by
 go_enter Tryz.func94,Tryz.ntmps94
 go_wp2_with (first | (go_at_call 116;refine (refHash_any _ _ hb).mono ?_;rintro e w' ⟨rfl,rfl⟩) | (go_at_call 48;refine (refFix_any _ _).mono ?_;rintro e w' ⟨rfl,rfl⟩))
 go_ret2
 exact ⟨rfl,Grw.refl _⟩
end Go.Proofs.YteinilmecnlanabGreatDoor
namespace Go.Proofs.YteinilmecnlanabGreatDoor
open Go.ChangeShapes Go.WideShapes Go.ChangeAt Go.RowKit Num
attribute [local go_sem] frombits_run bits_run
theorem whole_no (b l:Nat) (w:World) (h:FloatKind.f64.format.order b l=none∨FloatKind.f64.format.order b l=some .lt):Calls Tryz.prog 132 #[.float .f64 b,.float .f64 l] w fun e w'=>e=.returned (.bool false)∧w'=w:=by
 rcases h with o | o
 all_goals
  go_enter Tryz.func132,Tryz.ntmps132
  go_wp2
  go_ret
  exact ⟨rfl,rfl⟩
theorem whole_big (b l:Nat) (w:World) (o:FloatKind.f64.format.order b l=some .gt∨FloatKind.f64.format.order b l=some .eq) (p:FloatKind.f64.format.order b 4845873199050653696=some .gt∨FloatKind.f64.format.order b 4845873199050653696=some .eq):Calls Tryz.prog 132 #[.float .f64 b,.float .f64 l] w fun e w'=>e=.returned (.bool false)∧w'=w:=by
 rcases o with o | o <;> rcases p with p | p
 all_goals
  go_enter Tryz.func132,Tryz.ntmps132
  go_wp2
  go_ret
  exact ⟨rfl,rfl⟩
theorem whole_in (b l:Nat) (w:World) (nn:nan b=false) (o:FloatKind.f64.format.order b l=some .gt∨FloatKind.f64.format.order b l=some .eq) (p:FloatKind.f64.format.order b 4845873199050653696=some .lt):Calls Tryz.prog 132 #[.float .f64 b,.float .f64 l] w fun e w'=>e=.returned (.bool (FloatKind.f64.format.order b (floorB b) == some .eq))∧w'=w:=by
 rcases o with o | o
 all_goals
  go_enter Tryz.func132,Tryz.ntmps132
  go_wp2_with (go_at_call 113;refine (mathFloor_num _ _ nn).mono ?_;rintro e w' ⟨rfl,rfl⟩)
  go_ret
  exact ⟨rfl,rfl⟩
theorem cnt_no {b:Nat} (h:nan b=true∨key b<0∨¬ key b<4845873199050653696):cntB b=false:=by
 unfold cntB
 rcases h with h | h | h
 ·rw [h];rfl
 ·rw [decide_eq_false (by omega:¬ 0≤key b),Bool.and_false,Bool.false_and,Bool.false_and]
 ·rw [decide_eq_false h,Bool.and_false,Bool.false_and]
theorem cnt_in {b:Nat} (hb:b<18446744073709551616) (n:nan b=false) (h0:0≤key b) (hl:key b<4845873199050653696):cntB b=(FloatKind.f64.format.order b (floorB b) == some .eq):=by
 rw [← whole_two hb (by have:=key_pos h0;omega) h0]
 unfold cntB;rw [n,decide_eq_true h0,decide_eq_true hl];rfl
theorem whole_any (b l:Nat) (w:World) (hb:b<18446744073709551616) (nl:nan l=false) (kl:0≤key l):Calls Tryz.prog 132 #[.float .f64 b,.float .f64 l] w fun e w'=>e=.returned (.bool (cntB b && !(FloatKind.f64.format.order b l == some .lt)))∧w'=w:=by
 have k5:=key_big53
 rcases order_cases b l with ⟨o,n⟩ | ⟨n,_,ho⟩
 ·have n':nan b=true:=by rcases n with n | n;exact n;rw [nl] at n;cases n
  rw [cnt_no (.inl n'),Bool.false_and]
  exact whole_no b l w (.inl o)
 ·by_cases hk:key b<key l
  ·have o:FloatKind.f64.format.order b l=some .lt:=by rcases ho with h | h | h <;> first | exact h.1 | omega
   have e:(FloatKind.f64.format.order b l == some .lt)=true:=by rw [o];rfl
   rw [e,Bool.not_true,Bool.and_false]
   exact whole_no b l w (.inr o)
  ·have o:FloatKind.f64.format.order b l=some .gt∨FloatKind.f64.format.order b l=some .eq:=by rcases ho with h | h | h <;> first | exact .inl h.1 | exact .inr h.1 | omega
   have e:(FloatKind.f64.format.order b l == some .lt)=false:=by rcases o with o | o <;> rw [o] <;> rfl
   rw [e,Bool.not_false,Bool.and_true]
   rcases order_cases b 4845873199050653696 with ⟨_,g | g⟩ | ⟨_,_,hp⟩
   ·rw [n] at g;cases g
   ·rw [nan_big53] at g;cases g
   ·by_cases hl:key b<4845873199050653696
    ·rw [cnt_in hb n (by omega) hl]
     exact whole_in b l w n o (by rcases hp with h | h | h <;> first | exact h.1 | omega)
    ·rw [cnt_no (.inr (.inr hl))]
     exact whole_big b l w o (by rcases hp with h | h | h <;> first | exact .inl h.1 | exact .inr h.1 | omega)
theorem whole0_any (b:Nat) (w:World) (hb:b<18446744073709551616):Calls Tryz.prog 132 #[.float .f64 b,.float .f64 0] w fun e w'=>e=.returned (.bool (cntB b))∧w'=w:=by
 have h:=whole_any b 0 w hb nan_zero (by rw [key_zero];omega)
 have e:(cntB b && !(FloatKind.f64.format.order b 0 == some .lt))=cntB b:=by
  cases c:cntB b
  ·rfl
  ·obtain ⟨n,k,_⟩:=cntB_true c
   have k0:=key_zero
   rcases order_cases b 0 with ⟨_,g | g⟩ | ⟨_,_,g | g | g⟩
   ·rw [n] at g;cases g
   ·rw [nan_zero] at g;cases g
   ·omega
   ·rw [g.1];rfl
   ·rw [g.1];rfl
 rw [e] at h
 exact h
theorem refMod_any (a b:Nat) (w:World) (ha:a<18446744073709551616) (hb:b<18446744073709551616):Calls Tryz.prog 117 #[.float .f64 a,.float .f64 b] w fun e w'=>∃ r n,e=.returned (.float .f64 r)∧fixB r=modV a b∧w'=w.drewN n:=by
 have hn:fixB 9221120237041090560=9221120237041090560:=by decide
 have W0:Hid (∀ w,Calls Tryz.prog 132 #[.float .f64 a,.float .f64 0] w fun e w'=>e=.returned (.bool (cntB a))∧w'=w):=fun w=>whole0_any a w ha
 cases c1:(cntB b && !(FloatKind.f64.format.order b 4607182418800017408 == some .lt))
 ·have W1:Hid (∀ w,Calls Tryz.prog 132 #[.float .f64 b,.float .f64 4607182418800017408] w fun e w'=>e=.returned (.bool false)∧w'=w):=fun w=>by
   have h:=whole_any b 4607182418800017408 w hb nan_one (by rw [key_one];omega)
   rw [c1] at h;exact h
  have e:modV a b=9221120237041090560:=by
   cases cb:cntB b
   ·exact modV_right cb
   ·rw [cb,Bool.true_and,Bool.not_eq_false'] at c1
    exact modV_low c1
  rw [e]
  clear c1 e ha hb
  cases ca:cntB a
  all_goals
   go_enter Tryz.func117,Tryz.ntmps117
   go_wp2_with fail
   refine (W0.out _).mono ?_
   rintro e w' ⟨rfl,rfl⟩
   go_wp2_with fail
   refine (W1.out _).mono ?_
   rintro e w' ⟨rfl,rfl⟩
   go_wp2_with (go_at_call 112;refine (refOf_any 9221120237041090560 _).mono ?_;rintro e w' ⟨rfl,rfl⟩)
   go_ret
   exact ⟨_,0,rfl,hn,rfl⟩
 ·have W1:Hid (∀ w,Calls Tryz.prog 132 #[.float .f64 b,.float .f64 4607182418800017408] w fun e w'=>e=.returned (.bool true)∧w'=w):=fun w=>by
   have h:=whole_any b 4607182418800017408 w hb nan_one (by rw [key_one];omega)
   rw [c1] at h;exact h
  rw [Bool.and_eq_true,Bool.not_eq_true'] at c1
  obtain ⟨cb,ob⟩:=c1
  cases ca:cntB a
  ·rw [modV_left ca]
   clear cb ob ha hb
   go_enter Tryz.func117,Tryz.ntmps117
   go_wp2_with fail
   refine (W0.out _).mono ?_
   rintro e w' ⟨rfl,rfl⟩
   go_wp2_with fail
   refine (W1.out _).mono ?_
   rintro e w' ⟨rfl,rfl⟩
   go_wp2_with (go_at_call 112;refine (refOf_any 9221120237041090560 _).mono ?_;rintro e w' ⟨rfl,rfl⟩)
   go_ret
   exact ⟨_,0,rfl,hn,rfl⟩
  ·obtain ⟨na,ka,la⟩:=cntB_true ca
   obtain ⟨nb,kb,lb⟩:=cntB_true cb
   have k1:=key_one
   have hge:4607182418800017408≤key b:=by
    rcases order_cases b 4607182418800017408 with ⟨_,g | g⟩ | ⟨_,_,h | h | h⟩
    ·rw [nb] at g;cases g
    ·rw [nan_one] at g;cases g
    ·rw [h.1] at ob;cases ob
    ·omega
    ·omega
   have hp:=trunc_ge1 hge
   have t1:=trunc53 ka la
   have t2:=trunc53 kb lb
   have c1:=(conv53 ka la).2
   have c2:=(conv53 kb lb).2
   have u1:=fun (w:World)=>run_convert_float_int (P:=Tryz.prog) w 64 3 .f64 .i64 a _ (by rw [Tryz.underlying64];rfl) Tryz.underlying3 c1
   have u2:=fun (w:World)=>run_convert_float_int (P:=Tryz.prog) w 64 3 .f64 .i64 b _ (by rw [Tryz.underlying64];rfl) Tryz.underlying3 c2
   have HM:Hid (modV a b=fixB (floatOfInt .f64 ((truncN a % truncN b:Nat):Int))):=modV_fine ca cb ob
   clear na ka la nb kb lb k1 hge c1 c2 ob cb ha hb
   generalize truncN a=x at *
   generalize truncN b=y at *
   go_enter Tryz.func117,Tryz.ntmps117
   go_wp2_with fail
   refine (W0.out _).mono ?_
   rintro e w' ⟨rfl,rfl⟩
   go_wp2_with fail
   refine (W1.out _).mono ?_
   rintro e w' ⟨rfl,rfl⟩
   go_wp2
   go_ret
   refine ⟨_,0,rfl,?_,rfl⟩
   rw [HM.out]
   rfl
theorem first_any (a b:Nat) (s:Int) (w:World) (ha:a<18446744073709551616) (hb:b<18446744073709551616):Calls Tryz.prog 118 #[.float .f64 a,.float .f64 b,.int .i64 s] w fun e w'=>e=.returned (.float .f64 (if nan a || nan b then 9221120237041090560 else if cmpB a b == s then b else a))∧w'=w:=by
 have hn:fixB 9221120237041090560=9221120237041090560:=by decide
 cases na:nan a
 ·have sa:=self_num na
  cases nb:nan b
  ·have sb:=self_num nb
   simp only [Bool.or_self,Bool.false_eq_true,if_false]
   cases hc:(cmpB a b == s)
   all_goals
    simp only [Bool.false_eq_true,if_true,if_false]
    go_enter Tryz.func118,Tryz.ntmps118
    go_wp2_with (go_at_call 120;refine (refCompare_any _ _ _ ha hb).mono ?_;rintro e w' ⟨rfl,rfl⟩)
    go_ret
    exact ⟨rfl,rfl⟩
  ·have sb:=self_nan nb
   simp only [Bool.or_true,if_true]
   go_enter Tryz.func118,Tryz.ntmps118
   go_wp2_with (go_at_call 112;refine (refOf_any 9221120237041090560 _).mono ?_;rintro e w' ⟨rfl,rfl⟩)
   go_ret
   exact ⟨rfl,rfl⟩
 ·have sa:=self_nan na
  simp only [Bool.true_or,if_true]
  go_enter Tryz.func118,Tryz.ntmps118
  go_wp2_with (go_at_call 112;refine (refOf_any 9221120237041090560 _).mono ?_;rintro e w' ⟨rfl,rfl⟩)
  go_ret
  exact ⟨rfl,rfl⟩
theorem first_min (a b:Nat) (w:World) (ha:a<18446744073709551616) (hb:b<18446744073709551616):Calls Tryz.prog 118 #[.float .f64 a,.float .f64 b,.int .i64 1] w fun e w'=>e=.returned (.float .f64 (minV a b))∧w'=w:=by
 have h:=first_any a b 1 w ha hb
 have f:=cmpB_flip a b
 have t:cmpB a b=-1∨cmpB a b=0∨cmpB a b=1:=by unfold cmpB;split;exact .inl rfl;split;exact .inr (.inr rfl);exact .inr (.inl rfl)
 have e:minV a b=if nan a || nan b then 9221120237041090560 else if cmpB a b == 1 then b else a:=by
  unfold minV
  split
  ·rfl
  ·rcases t with t | t | t <;> rw [f,t] <;> rfl
 rw [e];exact h
theorem first_max (a b:Nat) (w:World) (ha:a<18446744073709551616) (hb:b<18446744073709551616):Calls Tryz.prog 118 #[.float .f64 a,.float .f64 b,.int .i64 (-1)] w fun e w'=>e=.returned (.float .f64 (maxV a b))∧w'=w:=by
 have h:=first_any a b (-1) w ha hb
 have f:=cmpB_flip a b
 have t:cmpB a b=-1∨cmpB a b=0∨cmpB a b=1:=by unfold cmpB;split;exact .inl rfl;split;exact .inr (.inr rfl);exact .inr (.inl rfl)
 have e:maxV a b=if nan a || nan b then 9221120237041090560 else if cmpB a b == -1 then b else a:=by
  unfold maxV
  split
  ·rfl
  ·rcases t with t | t | t <;> rw [f,t] <;> rfl
 rw [e];exact h
theorem rtwo_1 (a b:Nat) (w:World):Calls Tryz.prog 95 #[.int .i64 1,.float .f64 a,.float .f64 b] w fun e w'=>e=.returned (.tuple #[.float .f64 (resV (floatBits .add .f64 a b)),.int .i64 0])∧Grw w w':=by
 obtain ⟨r,n,hrun,hr⟩:=float_any (P:=Tryz.prog) .add (by simp) 64 a b w
 go_enter Tryz.func95,Tryz.ntmps95
 go_wp2_with (go_at_call 48;refine (refFix_any _ _).mono ?_;rintro e w' ⟨rfl,rfl⟩)
 go_ret2
 exact ⟨rfl,grown_drewN (Grw.refl _) _⟩
theorem rtwo_2 (a b:Nat) (w:World):Calls Tryz.prog 95 #[.int .i64 2,.float .f64 a,.float .f64 b] w fun e w'=>e=.returned (.tuple #[.float .f64 (resV (floatBits .sub .f64 a b)),.int .i64 0])∧Grw w w':=by
 obtain ⟨r,n,hrun,hr⟩:=float_any (P:=Tryz.prog) .sub (by simp) 64 a b w
 go_enter Tryz.func95,Tryz.ntmps95
 go_wp2_with (go_at_call 48;refine (refFix_any _ _).mono ?_;rintro e w' ⟨rfl,rfl⟩)
 go_ret2
 exact ⟨rfl,grown_drewN (Grw.refl _) _⟩
theorem rtwo_3 (a b:Nat) (w:World):Calls Tryz.prog 95 #[.int .i64 3,.float .f64 a,.float .f64 b] w fun e w'=>e=.returned (.tuple #[.float .f64 (resV (floatBits .mul .f64 a b)),.int .i64 0])∧Grw w w':=by
 obtain ⟨r,n,hrun,hr⟩:=float_any (P:=Tryz.prog) .mul (by simp) 64 a b w
 go_enter Tryz.func95,Tryz.ntmps95
 go_wp2_with (go_at_call 48;refine (refFix_any _ _).mono ?_;rintro e w' ⟨rfl,rfl⟩)
 go_ret2
 exact ⟨rfl,grown_drewN (Grw.refl _) _⟩
theorem rtwo_4 (a b:Nat) (w:World):Calls Tryz.prog 95 #[.int .i64 4,.float .f64 a,.float .f64 b] w fun e w'=>e=.returned (.tuple #[.float .f64 (resV (floatBits .quo .f64 a b)),.int .i64 0])∧Grw w w':=by
 obtain ⟨r,n,hrun,hr⟩:=float_any (P:=Tryz.prog) .quo (by simp) 64 a b w
 go_enter Tryz.func95,Tryz.ntmps95
 go_wp2_with (go_at_call 48;refine (refFix_any _ _).mono ?_;rintro e w' ⟨rfl,rfl⟩)
 go_ret2
 exact ⟨rfl,grown_drewN (Grw.refl _) _⟩
theorem rtwo_5 (a b:Nat) (w:World) (ha:a<18446744073709551616) (hb:b<18446744073709551616):Calls Tryz.prog 95 #[.int .i64 5,.float .f64 a,.float .f64 b] w fun e w'=>e=.returned (.tuple #[.float .f64 (modV a b),.int .i64 0])∧Grw w w':=by
 go_enter Tryz.func95,Tryz.ntmps95
 go_wp2_with (first | (go_at_call 117;refine (refMod_any _ _ _ ha hb).mono ?_;rintro e w' ⟨r,n,rfl,hr,rfl⟩) | (go_at_call 48;refine (refFix_any _ _).mono ?_;rintro e w' ⟨rfl,rfl⟩))
 go_ret2
 exact ⟨rfl,grown_drewN (Grw.refl _) _⟩
theorem rtwo_6 (a b:Nat) (w:World) (ha:a<18446744073709551616) (hb:b<18446744073709551616):Calls Tryz.prog 95 #[.int .i64 6,.float .f64 a,.float .f64 b] w fun e w'=>e=.returned (.tuple #[.float .f64 (minV a b),.int .i64 0])∧Grw w w':=by
 have hi:=fixB_min a b
 go_enter Tryz.func95,Tryz.ntmps95
 go_wp2_with (first | (go_at_call 118;refine (first_min _ _ _ ha hb).mono ?_;rintro e w' ⟨rfl,rfl⟩) | (go_at_call 48;refine (refFix_any _ _).mono ?_;rintro e w' ⟨rfl,rfl⟩))
 go_ret2
 exact ⟨rfl,Grw.refl _⟩
theorem rtwo_7 (a b:Nat) (w:World) (ha:a<18446744073709551616) (hb:b<18446744073709551616):Calls Tryz.prog 95 #[.int .i64 7,.float .f64 a,.float .f64 b] w fun e w'=>e=.returned (.tuple #[.float .f64 (maxV a b),.int .i64 0])∧Grw w w':=by
 have hi:=fixB_max a b
 go_enter Tryz.func95,Tryz.ntmps95
 go_wp2_with (first | (go_at_call 118;refine (first_max _ _ _ ha hb).mono ?_;rintro e w' ⟨rfl,rfl⟩) | (go_at_call 48;refine (refFix_any _ _).mono ?_;rintro e w' ⟨rfl,rfl⟩))
 go_ret2
 exact ⟨rfl,Grw.refl _⟩
theorem rtwo_8 (a b:Nat) (w:World):Calls Tryz.prog 95 #[.int .i64 8,.float .f64 a,.float .f64 b] w fun e w'=>e=.returned (.tuple #[.float .f64 (yesB (FloatKind.f64.format.order a b == some .lt)),.int .i64 0])∧Grw w w':=by
 have hi:=fixB_yes (FloatKind.f64.format.order a b == some .lt)
 go_enter Tryz.func95,Tryz.ntmps95
 go_wp2_with (first | (go_at_call 115;refine (refYes_any _ _).mono ?_;rintro e w' ⟨rfl,rfl⟩) | (go_at_call 48;refine (refFix_any _ _).mono ?_;rintro e w' ⟨rfl,rfl⟩))
 go_ret2
 exact ⟨rfl,Grw.refl _⟩
theorem rtwo_9 (a b:Nat) (w:World):Calls Tryz.prog 95 #[.int .i64 9,.float .f64 a,.float .f64 b] w fun e w'=>e=.returned (.tuple #[.float .f64 (yesB (FloatKind.f64.format.order a b == some .lt || FloatKind.f64.format.order a b == some .eq)),.int .i64 0])∧Grw w w':=by
 have hi:=fixB_yes (FloatKind.f64.format.order a b == some .lt || FloatKind.f64.format.order a b == some .eq)
 go_enter Tryz.func95,Tryz.ntmps95
 go_wp2_with (first | (go_at_call 115;refine (refYes_any _ _).mono ?_;rintro e w' ⟨rfl,rfl⟩) | (go_at_call 48;refine (refFix_any _ _).mono ?_;rintro e w' ⟨rfl,rfl⟩))
 go_ret2
 exact ⟨rfl,Grw.refl _⟩
theorem rtwo_10 (a b:Nat) (w:World):Calls Tryz.prog 95 #[.int .i64 10,.float .f64 a,.float .f64 b] w fun e w'=>e=.returned (.tuple #[.float .f64 (yesB (FloatKind.f64.format.order a b == some .eq)),.int .i64 0])∧Grw w w':=by
 have hi:=fixB_yes (FloatKind.f64.format.order a b == some .eq)
 go_enter Tryz.func95,Tryz.ntmps95
 go_wp2_with (first | (go_at_call 115;refine (refYes_any _ _).mono ?_;rintro e w' ⟨rfl,rfl⟩) | (go_at_call 48;refine (refFix_any _ _).mono ?_;rintro e w' ⟨rfl,rfl⟩))
 go_ret2
 exact ⟨rfl,Grw.refl _⟩
theorem rtwo_11 (a b:Nat) (w:World):Calls Tryz.prog 95 #[.int .i64 11,.float .f64 a,.float .f64 b] w fun e w'=>e=.returned (.tuple #[.float .f64 (yesB (fixB a == fixB b)),.int .i64 0])∧Grw w w':=by
 have hi:=fixB_yes (fixB a == fixB b)
 go_enter Tryz.func95,Tryz.ntmps95
 go_wp2_with (first | (go_at_call 119;refine (refSame_any _ _ _).mono ?_;rintro e w' ⟨rfl,rfl⟩) | (go_at_call 115;refine (refYes_any _ _).mono ?_;rintro e w' ⟨rfl,rfl⟩) | (go_at_call 48;refine (refFix_any _ _).mono ?_;rintro e w' ⟨rfl,rfl⟩))
 go_ret2
 exact ⟨rfl,Grw.refl _⟩
theorem rtwo_12 (a b:Nat) (w:World) (ha:a<18446744073709551616) (hb:b<18446744073709551616):Calls Tryz.prog 95 #[.int .i64 12,.float .f64 a,.float .f64 b] w fun e w'=>e=.returned (.tuple #[.float .f64 (yesB (decide (cmpB a b<0))),.int .i64 0])∧Grw w w':=by
 have hi:=fixB_yes (decide (cmpB a b<0))
 go_enter Tryz.func95,Tryz.ntmps95
 go_wp2_with (first | (go_at_call 120;refine (refCompare_any _ _ _ ha hb).mono ?_;rintro e w' ⟨rfl,rfl⟩) | (go_at_call 115;refine (refYes_any _ _).mono ?_;rintro e w' ⟨rfl,rfl⟩) | (go_at_call 48;refine (refFix_any _ _).mono ?_;rintro e w' ⟨rfl,rfl⟩))
 go_ret2
 exact ⟨rfl,Grw.refl _⟩
end Go.Proofs.YteinilmecnlanabGreatDoor
namespace Go.Proofs.YteinilmecnlanabGreatDoor
open Go.ChangeShapes Go.WideShapes Go.ChangeAt Go.RowKit Num Go.Maps
attribute [local go_sem] run_store_float frombits_run bits_run
theorem Below.turn {w w':World} (k:Below w.heap.size w w') (F:List Nat):Turn F F w w':=⟨k.os,k.tape,k.output,k.size,fun i hi _=>k.block i hi,fun _ h=>.inl h⟩
theorem below_alloc (w:World) (x:Obj):Below w.heap.size w (w.alloc x):=(Below.refl _ _).alloc (Nat.le_refl _) x
theorem grown_turn {w w':World} {g:Nat} (h:w.grownBy w' (some g)):Turn [g] [g] w w' :=
 ⟨h.os,h.tape,h.output,h.size,fun k hk hn=>h.block k hk (by simp at hn ⊢;omega),fun k hk=>.inl hk⟩
theorem RowAt.on {E:TypeId} {w w':World} {p:Option Addr} {c:Nat} {xs:List Value} (h:RowAt E w p c xs) (k:Below w.heap.size w w'):RowAt E w' p c xs:=h.keep (kept_below k h.blw)
theorem Turn.wide {F G:List Nat} {w w':World} (k:Turn F F w w') (h:∀ i,i∈F→i∈G):Turn G G w w' :=
 ⟨k.os,k.tape,k.output,k.size,fun i hi hn=>k.block i hi (fun q=>hn (h i q)),fun _ q=>.inl q⟩
structure BufAt (w:World) (b bm:Nat) (p:Option Addr) (c:Nat) (m:Int) (l:Wr):Prop where
 box:w.heap[b]?=some (.cells #[.int .i64 m,.map (some bm),.slice p l.length c] 158 (0,0))
 row:RowAt 3 w p c (i64s (cellsOfL l))
 map:MapAt w bm l
 n1:b∉fpR p
 n2:bm∉fpR p
 n3:b≠bm
 fits:(l.length:Int)≤m
 most:m≤32
 nod:(cellsOfL l).Nodup
 wfs:∀ t∈l,(Lit.int .i64 t.1).wf=true
def Buf (w:World) (b:Nat) (F:List Nat) (m:Int) (l:Wr):Prop:=∃ bm p c,BufAt w b bm p c m l∧F=b::bm::fpR p
section
variable {w w':World} {b bm c:Nat} {p:Option Addr} {m:Int} {l:Wr} {F:List Nat}
theorem BufAt.ltB (h:BufAt w b bm p c m l):b<w.heap.size:=lt_of_block h.box
theorem BufAt.cell0 (h:BufAt w b bm p c m l):w.cell? ⟨b,0,none⟩=some (.int .i64 m):=by rw [cell_of_row w b 0 _ _ _ h.box];rfl
theorem BufAt.cell1 (h:BufAt w b bm p c m l):w.cell? ⟨b,1,none⟩=some (.map (some bm)):=by rw [cell_of_row w b 1 _ _ _ h.box];rfl
theorem BufAt.cell2 (h:BufAt w b bm p c m l):w.cell? ⟨b,2,none⟩=some (.slice p l.length c):=by rw [cell_of_row w b 2 _ _ _ h.box];rfl
theorem BufAt.blw (h:BufAt w b bm p c m l):Blw w (b::bm::fpR p):=fun k hk=>by
 rcases List.mem_cons.1 hk with rfl | q
 ·exact h.ltB
 ·rcases List.mem_cons.1 q with rfl | q
  ·exact h.map.lt
  ·exact h.row.blw k q
theorem BufAt.keep (h:BufAt w b bm p c m l) (k:Kept (b::bm::fpR p) w w'):BufAt w' b bm p c m l :=
 ⟨(k.2 b (by simp)).trans h.box,h.row.keep ⟨k.1,fun i hi=>k.2 i (by simp [hi])⟩,h.map.keep (k.2 bm (by simp)),h.n1,h.n2,h.n3,h.fits,h.most,h.nod,h.wfs⟩
theorem BufAt.same (h:BufAt w b bm p c m l) (k:Same w w'):BufAt w' b bm p c m l:=h.keep (k.kept _)
theorem BufAt.buf (h:BufAt w b bm p c m l):Buf w b (b::bm::fpR p) m l:=⟨bm,p,c,h,rfl⟩
theorem Buf.blw (h:Buf w b F m l):Blw w F:=by obtain ⟨bm,p,c,hs,rfl⟩:=h;exact hs.blw
theorem Buf.keep (h:Buf w b F m l) (k:Kept F w w'):Buf w' b F m l:=by
 obtain ⟨bm,p,c,hs,rfl⟩:=h
 exact ⟨bm,p,c,hs.keep k,rfl⟩
theorem Buf.same (h:Buf w b F m l) (k:Same w w'):Buf w' b F m l:=h.keep (k.kept F)
theorem Buf.on (h:Buf w b F m l) (k:Below w.heap.size w w'):Buf w' b F m l:=h.keep (kept_below k h.blw)
theorem Buf.few (h:Buf w b F m l):(l.length:Int)≤m∧m≤32:=by obtain ⟨bm,p,c,hs,rfl⟩:=h;exact ⟨hs.fits,hs.most⟩
theorem Buf.nod (h:Buf w b F m l):(cellsOfL l).Nodup:=by obtain ⟨bm,p,c,hs,rfl⟩:=h;exact hs.nod
theorem Buf.wfs (h:Buf w b F m l):∀ t∈l,(Lit.int .i64 t.1).wf=true:=by obtain ⟨bm,p,c,hs,rfl⟩:=h;exact hs.wfs
end
def mayP (m:Int) (l:Wr) (c:Int):Bool:=hasC l c || decide ((l.length:Int)<m)
def putL (m:Int) (l:Wr) (c:Int) (x:Nat):Wr:=if mayP m l c then putC l c (fixB x) else l
def putF (m:Int) (l:Wr) (c:Int):Bool:=!hasC l c && decide ((l.length:Int)<m)
def putE (m:Int) (l:Wr) (c:Int):Int:=if mayP m l c then 0 else 70
def mayM (m:Int):Bool:=decide (1≤m) && decide (m≤32)
theorem wfs_put {l:Wr} (h:∀ t∈l,(Lit.int .i64 t.1).wf=true) {c:Int} (hc:(Lit.int .i64 c).wf=true) (y:Nat):∀ t∈putC l c y,(Lit.int .i64 t.1).wf=true:=by
 intro t ht
 have h1:t.1∈cellsOfL (putC l c y):=List.mem_map.2 ⟨t,ht,rfl⟩
 have h2:∀ d,d∈cellsOfL l→(Lit.int .i64 d).wf=true:=fun d hd=>by
  obtain ⟨u,hu,rfl⟩:=List.mem_map.1 hd
  exact h u hu
 rw [cells_put] at h1
 split at h1
 ·exact h2 _ h1
 ·rcases List.mem_append.1 h1 with q | q
  ·exact h2 _ q
  ·simp at q
   rw [q]
   exact hc
section
variable {w w':World} {b bm c:Nat} {p:Option Addr} {m:Int} {l:Wr} {F:List Nat}
theorem BufAt.laid (h:BufAt w b bm p c m l) {d:Int} (hd:hasC l d=true) {y:Nat} (hm:MapAt w' bm (putC l d y)) (hg:w.grownBy w' (some bm)):BufAt w' b bm p c m (putC l d y)∧Turn (b::bm::fpR p) (b::bm::fpR p) w w':=by
 have hl:(putC l d y).length=l.length:=by rw [putC_len,if_pos hd]
 have hcl:cellsOfL (putC l d y)=cellsOfL l:=by rw [cells_put,if_pos hd]
 have ht:=grown_turn hg
 refine ⟨⟨?_,?_,hm,h.n1,h.n2,h.n3,by rw [hl];exact h.fits,h.most,by rw [hcl];exact h.nod,?_⟩,ht.wide (by simp)⟩
 ·rw [hl,hg.block b h.ltB (by simp [h.n3])]
  exact h.box
 ·rw [hcl]
  exact h.row.keep (ht.kept (fun k hk q=>h.n2 (by simp at q;rw [← q];exact hk)) h.row.blw)
 ·intro t ht
  have h1:t.1∈cellsOfL (putC l d y):=List.mem_map.2 ⟨t,ht,rfl⟩
  rw [hcl] at h1
  obtain ⟨u,hu,e⟩:=List.mem_map.1 h1
  rw [← e]
  exact h.wfs u hu
theorem BufAt.more {w3:World} {v:Value} {d:Int} {o:Obj} (h:BufAt w b bm p c m l) (hown:w3.ownsRow 0 3 1 v (l.length+1) (i64s (cellsOfL l) ++ [.int .i64 d])) (hg:(w.alloc o).grownBy w3 (Value.slice p l.length c).ownBlock) (hat:v.ownBlock=(Value.slice p l.length c).ownBlock∨v.ownBlock=some (w.alloc o).heap.size) (hd:hasC l d=false) (hw:(Lit.int .i64 d).wf=true) (hf:(l.length:Int)<m) (y:Nat) :
  ∃ p' c',v=.slice p' (l.length+1) c'∧w3.cell? ⟨b,1,none⟩=some (.map (some bm))∧w3.cell? ⟨b,2,none⟩=some (.slice p l.length c)∧w3.frozen? ⟨b,2,none⟩=false∧b<w3.heap.size ∧
   ∃ w4,(Instr.mapUpdate 156 (.map (some bm)) (.int .i64 d) (.float .f64 y)).run Tryz.prog (w3.setCell ⟨b,2,none⟩ (.slice p' (l.length+1) c')).drew=.ok () w4∧BufAt w4 b bm p' c' m (putC l d y)∧Turn (b::bm::fpR p) (b::bm::fpR p') w w4:=by
 obtain ⟨p',c',rfl,hr⟩:=ownsRow_slice hown
 have hl:(i64s (cellsOfL l) ++ [Value.int .i64 d]).length=l.length+1:=by simp [i64s_len,cells_len]
 have hl2:(putC l d y).length=l.length+1:=by rw [putC_len,hd];rfl
 have hcl:cellsOfL (putC l d y)=cellsOfL l ++ [d]:=by rw [cells_put,hd];rfl
 have g:w.grownBy w3 (Value.slice p l.length c).ownBlock:=(World.grownBy_alloc w o _).trans hg
 have ho:∀ k,k∈fpR p'→k∈fpR p∨w.heap.size≤k:=own_at hat (by simp)
 have hbox:w3.heap[b]?=some (.cells #[.int .i64 m,.map (some bm),.slice p l.length c] 158 (0,0)):=(g.block b h.ltB (fun q=>h.n1 (own_fpR.2 q.symm))).trans h.box
 have hne:b∉fpR p':=fun q=>(ho b q).elim h.n1 (fun z=>absurd h.ltB (Nat.not_lt.2 z))
 have hne2:bm∉fpR p':=fun q=>(ho bm q).elim h.n2 (fun z=>absurd h.map.lt (Nat.not_lt.2 z))
 rw [hl]
 refine ⟨p',c',rfl,by rw [cell_of_row w3 b 1 _ _ _ hbox];rfl,by rw [cell_of_row w3 b 2 _ _ _ hbox];rfl,frozen_of_row w3 b 2 _ _ hbox,lt_of_block hbox,?_⟩
 have hm1:MapAt (w3.setCell ⟨b,2,none⟩ (.slice p' (l.length+1) c')) bm l:=h.map.keep ((heap_setCell_other _ _ _ _ (Ne.symm h.n3)).trans (g.block bm h.map.lt (fun q=>h.n2 (own_fpR.2 q.symm))))
 have hmost:=h.most
 obtain ⟨w4,hrun,hm4,hg4⟩:=(hm1.keep (w':=(w3.setCell ⟨b,2,none⟩ (.slice p' (l.length+1) c')).drew) rfl).lay hw y (by unfold maxLen;omega)
 have ht4:=grown_turn hg4
 have hr2:RowAt 3 (w3.setCell ⟨b,2,none⟩ (.slice p' (l.length+1) c')) p' c' (i64s (cellsOfL l) ++ [Value.int .i64 d]):=hr.keep ⟨by simp,fun k hk=>heap_setCell_other _ _ _ _ (by rintro rfl;exact hne hk)⟩
 refine ⟨w4,hrun,⟨?_,?_,hm4,hne,hne2,h.n3,by rw [hl2];omega,h.most,nodup_put h.nod,wfs_put h.wfs hw y⟩,?_⟩
 ·rw [hg4.block b (by simpa using lt_of_block hbox) (by simp [h.n3]),hl2]
  exact (heap_setCell_same w3 b 2 _ _ _ hbox).trans rfl
 ·rw [hcl,i64s_snoc]
  exact (hr2.keep ((Same.drew _).kept _)).keep (ht4.kept (fun k hk q=>hne2 (by simp at q;rw [← q];exact hk)) hr2.blw)
 ·refine ⟨hg4.os.trans g.os,hg4.tape.trans g.tape,hg4.output.trans g.output,Nat.le_trans g.size (by simpa using hg4.size),fun k hk hn=>?_,fun k hk=>?_⟩
  ·simp only [List.mem_cons,not_or] at hn
   exact (hg4.block k (by simpa using Nat.lt_of_lt_of_le hk g.size) (by simp [hn.2.1])).trans ((heap_setCell_other _ _ _ _ (by simpa using hn.1)).trans (g.block k hk (fun q=>hn.2.2 (own_fpR.2 q.symm))))
  ·simp only [List.mem_cons] at hk ⊢
   rcases hk with q | q | q
   ·exact .inl (.inl q)
   ·exact .inl (.inr (.inl q))
   ·exact (ho k q).imp (fun z=>.inr (.inr z)) id
end
theorem new_some {n:Int} (hn:mayM n=true) (w:World):Calls Tryz.prog 62 #[.int .i64 n] w fun e w'=>∃ b F,e=.returned (.tuple #[.pointer (some ⟨b,0,none⟩),.int .i64 0])∧Buf w' b F n []∧Abv w.heap.size F∧Below w.heap.size w w':=by
 have h0:1≤n∧n≤32:=by unfold mayM at hn;simpa using hn
 have h1:¬ n<1:=by omega
 have h2:¬ 32<n:=by omega
 have HN:=Lib.hid h0
 have hmm:=@run_makeMap Tryz.prog
 clear hn h0
 go_enter Tryz.func62,Tryz.ntmps62
 go_wp2
 go_ret2
 refine ⟨w.heap.size+1,by simp,[w.heap.size+1,w.heap.size],⟨w.heap.size,none,0,⟨?_,⟨World.ownsRow_nil _ _ _ _⟩,?_,by simp [fpR],by simp [fpR],by omega,by have:=HN.out;simp;omega,HN.out.2,by simp [cellsOfL],by simp⟩,by simp [fpR]⟩,fun k hk=>by simp at hk;omega,((Below.refl _ _).alloc (Nat.le_refl _) _).alloc (by simp) _⟩
 ·have:=heap_alloc_new (w.alloc (.map #[] 0)) (.cells #[.int .i64 n,.map (some w.heap.size),.slice none 0 0] 158)
  simpa using this
 ·exact (map_new w).keep (Below.heap_alloc _ _ _ (by simp))
section
variable {w:World} {b:Nat} {F:List Nat} {m:Int} {l:Wr}
theorem get_any (h:Buf w b F m l) {d:Int} (hd:(Lit.int .i64 d).wf=true):Calls Tryz.prog 168 #[.pointer (some ⟨b,0,none⟩),.int .i64 d] w fun e w'=>e=.returned (.tuple #[.float .f64 (getC l d),.bool (hasC l d)])∧w'=w:=by
 obtain ⟨bm,p,c,hs,rfl⟩:=h
 have h0:=hs.cell1
 have hb:=hs.ltB
 have hlk:=hs.map.look hd
 clear hs hd
 go_enter Tryz.func168,Tryz.ntmps168
 go_wp2
 go_ret2
 exact ⟨rfl,rfl⟩
end
end Go.Proofs.YteinilmecnlanabGreatDoor
namespace Go.Proofs.YteinilmecnlanabGreatDoor
open Go.ChangeShapes Go.WideShapes Go.ChangeAt Go.RowKit
theorem iInfo:(Tryz.prog.info? 3).map (fun i=>(i.zero,i.size,i.bytes))=some (some (.int .i64 0),1,8):=by kernel_rfl
theorem iNew_any (r:Int) (w:World):Calls Tryz.prog 64 #[.int .i64 r] w fun e w'=>∃ b,e=.returned (.pointer (some ⟨b,0,none⟩))∧b=w.heap.size∧Stk 155 3 w' b [b] [] (roomV r)∧Below w.heap.size w w':=by
 have H0:=Lib.hid (fun r0=>stk_new w 155 3 r0)
 have HB:=Lib.hid (fun o=>(Below.refl w.heap.size w).alloc (Nat.le_refl _) o)
 have HR:=Lib.hid (roomV_ok r)
 by_cases h1:r<0
 ·have e:roomV r=0:=by simp [roomV,h1]
  rw [e] at HR ⊢
  have h1':¬ 0≤r:=by omega
  clear e
  go_enter Tryz.func64,Tryz.ntmps64
  go_wp2
  go_ret
  exact ⟨_,rfl,rfl,H0.out _ HR.out.1 HR.out.2,HB.out _⟩
 ·by_cases h2:65536<r
  ·have e:roomV r=65536:=by simp [roomV,h1,h2]
   rw [e] at HR ⊢
   clear e
   go_enter Tryz.func64,Tryz.ntmps64
   go_wp2
   go_ret
   exact ⟨_,rfl,rfl,H0.out _ HR.out.1 HR.out.2,HB.out _⟩
  ·have e:roomV r=r:=by simp [roomV,h1,h2]
   rw [e] at HR ⊢
   clear e
   go_enter Tryz.func64,Tryz.ntmps64
   go_wp2
   go_ret
   exact ⟨_,rfl,rfl,H0.out _ HR.out.1 HR.out.2,HB.out _⟩
section
variable {w:World} {b:Nat} {F:List Nat} {l:List Int} {r:Int}
theorem iLen_any (h:Stk 155 3 w b F (i64s l) r):Calls Tryz.prog 164 #[.pointer (some ⟨b,0,none⟩)] w fun e w'=>e=.returned (.int .i64 l.length)∧w'=w:=by
 obtain ⟨p,c,hs,rfl⟩:=h
 have h0:=hs.cell0
 rw [i64s_len] at h0
 have hb:=hs.ltB
 clear hs
 go_enter Tryz.func164,Tryz.ntmps164
 go_wp2
 go_ret
 exact ⟨rfl,rfl⟩
theorem iRoom_any (h:Stk 155 3 w b F (i64s l) r):Calls Tryz.prog 165 #[.pointer (some ⟨b,0,none⟩)] w fun e w'=>e=.returned (.int .i64 r)∧w'=w:=by
 obtain ⟨p,c,hs,rfl⟩:=h
 have h0:=hs.cell1
 have hb:=hs.ltB
 clear hs
 go_enter Tryz.func165,Tryz.ntmps165
 go_wp2
 go_ret
 exact ⟨rfl,rfl⟩
theorem iPush_any (h:Stk 155 3 w b F (i64s l) r) (x:Int):Calls Tryz.prog 173 #[.pointer (some ⟨b,0,none⟩),Value.int .i64 x] w fun e w'=>∃ F',e=.returned (.int .i64 (pushE l r))∧Stk 155 3 w' b F' (i64s (pushL l r x)) r∧Turn F F' w w':=by
 have HS:=Lib.hid h
 obtain ⟨p,c,hs,rfl⟩:=h
 have h0:=hs.cell0
 have h1:=hs.cell1
 have hb:=hs.ltB
 have hf:=hs.free 0
 have hm:=hs.most
 rw [i64s_len] at h0
 by_cases hlt:(l.length:Int)<r
 ·have e1:pushE l r=0:=by simp [pushE,hlt]
  have e2:pushL l r x=l ++ [x]:=by simp [pushL,hlt]
  rw [e1,e2,i64s_snoc]
  clear e1 e2
  obtain ⟨i0,hi,hz0,hz1,hz2⟩:=info_parts iInfo
  have HZI:=Lib.hid (And.intro hi (And.intro hz0 (And.intro hz1 hz2)))
  have HA:Hid (∀ k,StAt 155 3 (w.drewN k) b p c (i64s l) r):=fun k=>hs.keep ((Same.drewN w k).kept _)
  have HO:Hid (∀ k,(w.drewN k).ownsRow 0 3 1 (.slice p l.length c) l.length (i64s l)):=fun k=>by
   have:=(HA.out k).row.own
   rw [i64s_len] at this
   exact this
  have HMORE:Hid (∀ k o w3 v,w3.ownsRow 0 3 1 v (l.length+1) (i64s l ++ [Value.int .i64 x])→((w.drewN k).alloc o).grownBy w3 (Value.slice p l.length c).ownBlock→(v.ownBlock=(Value.slice p l.length c).ownBlock∨v.ownBlock=some ((w.drewN k).alloc o).heap.size)→∃ p' c',v=.slice p' (l.length+1) c'∧Stk 155 3 (w3.setCell ⟨b,0,none⟩ (.slice p' (l.length+1) c')) b (b::fpR p') (i64s l ++ [Value.int .i64 x]) r∧Turn (b::fpR p) (b::fpR p') w (w3.setCell ⟨b,0,none⟩ (.slice p' (l.length+1) c'))∧w3.cell? ⟨b,0,none⟩=some (.slice p l.length c)∧w3.frozen? ⟨b,0,none⟩=false∧b<w3.heap.size):=by
   intro k o w3 v ho hg hat
   have hne:some b≠(Value.slice p l.length c).ownBlock:=fun q=>hs.ne (own_fpR.2 q.symm)
   have hbk:=hg.block b (by simp;have:=hs.ltB;omega) hne
   have e:=(hs.alloc_box k o)
   have hm3:=(HA.out k).more (w3:=w3) (v:=v) (o:=o) (x:=Value.int .i64 x) (by rw [i64s_len];exact ho) (by rw [i64s_len];exact hg) (by rw [i64s_len];exact hat) (by rw [i64s_len];exact hlt)
   rw [i64s_len] at hm3
   obtain ⟨p',c',q1,q2,q3⟩:=hm3
   rw [e,i64s_len] at hbk
   refine ⟨p',c',q1,q2,((Same.drewN w k).turn _).trans q3,?_,frozen_of_row w3 b 0 _ _ hbk,lt_of_block hbk⟩
   rw [cell_of_row w3 b 0 _ _ _ hbk]
   rfl
  have HLT:=Lib.hid (And.intro hlt hm)
  clear hi hz0 hz1 hz2 hs hm
  go_enter Tryz.func173,Tryz.ntmps173
  go_wp2
  go_quiet (fail)
  go_wp2_with (at_builtin;refine wpList_append_own_at _ rfl _ _ 86 rfl 0 3 i0 (.int .i64 0) 1 8 Tryz.underlying86 HZI.out.1 HZI.out.2.1 HZI.out.2.2.1 HZI.out.2.2.2 rfl (by decide) _ l.length (i64s l) rfl (World.ownsRow.alloc (HO.out _) _) ⟨w.heap.size,0,none⟩ 1 1 [Value.int .i64 x] rfl rfl (cell_one_new _ _ _) (fun u hu=>by simp at hu;subst hu;rfl) (by have:=HLT.out;unfold maxLen;omega) (by have:=HLT.out;omega) (Nat.zero_le _) ?_;intro v3 w3 hown3 hgrow3 hnil3 hat3;obtain ⟨p',c',hv3,q1,q2,q3,q4,q5⟩:=HMORE.out _ _ _ _ hown3 hgrow3 hat3;subst hv3;have HQ:=Lib.hid (And.intro q1 q2);clear hown3 hgrow3 hnil3 hat3 q1 q2 HMORE)
  go_ret
  exact ⟨_,rfl,HQ.out.1,HQ.out.2⟩
 ·have e1:pushE l r=40:=by simp [pushE,hlt]
  have e2:pushL l r x=l:=by simp [pushL,hlt]
  rw [e1,e2]
  clear e1 e2 hs hm
  go_enter Tryz.func173,Tryz.ntmps173
  go_wp2
  go_quiet (fail)
  go_wp2
  go_ret
  exact ⟨_,rfl,HS.out.same (Same.drewN _ _),(Same.drewN _ _).turn _⟩
theorem iPick_none (h:Stk 155 3 w b F (i64s l) r) (i:Int) (hi:inB l.length i=false):Calls Tryz.prog 193 #[.pointer (some ⟨b,0,none⟩),.int .i64 i] w fun e w'=>e=.returned (.tuple #[Value.int .i64 0,.int .i64 41])∧w'=w:=by
 obtain ⟨p,c,hs,rfl⟩:=h
 have h0:=hs.cell0
 have hb:=hs.ltB
 rw [i64s_len] at h0
 have hi:=of_decide_eq_false hi
 clear hs
 by_cases h1:i<0
 ·clear hi
  go_enter Tryz.func193,Tryz.ntmps193
  go_wp2
  go_ret2
  exact ⟨rfl,rfl⟩
 ·have h2:(l.length:Int)≤i:=by omega
  clear hi
  go_enter Tryz.func193,Tryz.ntmps193
  go_wp2
  go_ret2
  exact ⟨rfl,rfl⟩
theorem iPick_drew (h:Stk 155 3 w b F (i64s l) r) (k j:Nat) (hk:j+1+k=l.length) (x:Int) (hx:l[j]?=some x):Calls Tryz.prog 193 #[.pointer (some ⟨b,0,none⟩),.int .i64 k] w fun e w'=>e=.returned (.tuple #[Value.int .i64 x,.int .i64 0])∧∃ q,w'=w.drewN q:=by
 obtain ⟨p,c,hs,rfl⟩:=h
 have h0:=hs.cell0
 have hb:=hs.ltB
 obtain ⟨g,rfl,hg,_,_,_,_,hc⟩:=hs.some_at (by rw [i64s_len];omega)
 have hj:w.cell? ⟨g,j,none⟩=some (Value.int .i64 x):=by
  rw [hc j (by rw [i64s_len];omega),i64s_at l j _ (by omega)]
  rw [List.getElem?_eq_getElem (by omega)] at hx
  rw [Option.some.inj hx]
 have hm:=hs.most
 have hfi:=hs.fits
 rw [i64s_len] at h0 hfi
 have hn:l.length≤65536:=by omega
 clear hs hc hx hfi hm
 obtain ⟨n,hnn⟩:∃ n,n=l.length:=⟨_,rfl⟩
 rw [← hnn] at h0 hk hn
 clear hnn
 subst hk
 have k1:(k:Int)<((j+1+k:Nat):Int):=by omega
 have e1:((j+1+k:Nat):Int) - 1 - (k:Int)=(j:Int):=by omega
 have k2:(j:Int)<((j+1+k:Nat):Int):=by omega
 go_enter Tryz.func193,Tryz.ntmps193
 go_wp2
 go_quiet (fail)
 go_wp2
 go_ret2
 exact ⟨rfl,_,rfl⟩
theorem iPick_some (h:Stk 155 3 w b F (i64s l) r) (k j:Nat) (hk:j+1+k=l.length) (x:Int) (hx:l[j]?=some x):Calls Tryz.prog 193 #[.pointer (some ⟨b,0,none⟩),.int .i64 k] w fun e w'=>e=.returned (.tuple #[Value.int .i64 x,.int .i64 0])∧Same w w' :=
 (iPick_drew h k j hk x hx).mono fun _ _ ⟨he,_,hq⟩=>⟨he,hq ▸ Same.drewN _ _⟩
theorem iPop_none (h:Stk 155 3 w b F (i64s []) r):Calls Tryz.prog 171 #[.pointer (some ⟨b,0,none⟩)] w fun e w'=>e=.returned (.tuple #[Value.int .i64 0,.int .i64 41])∧w'=w:=by
 have HS:=Lib.hid h
 clear h
 go_enter Tryz.func171,Tryz.ntmps171
 go_wp2_with (go_at_call 193;refine (iPick_none HS.out _ (by decide)).mono ?_;rintro e w1 ⟨rfl,hw⟩;subst w1)
 go_ret2
 exact ⟨rfl,rfl⟩
theorem iZero:∀ w,(zeroValue 3).run Tryz.prog w=.ok (.int .i64 0) w:=by
 intro w
 obtain ⟨i0,hi,hz0,_,_⟩:=info_parts iInfo
 simp [zeroValue,typeInfo,hi,hz0]
theorem iWipe {w:World} {b g c:Nat} {m:List Int} {x:Int} {r:Int} (h:StAt 155 3 w b (some ⟨g,0,none⟩) c (i64s m ++ [Value.int .i64 x]) r):∀ ty,(Builtin.clear_ #[86] ty #[.slice (some ⟨g,m.length,none⟩) 1 (c - m.length)]).run Tryz.prog w=.ok (.tuple #[]) (w.setCell ⟨g,m.length,none⟩ (.int .i64 0)):=by
 intro ty
 obtain ⟨g',hg',_,hn,_,hc,hf,_⟩:=h.some_at (by simp)
 cases hg'
 have hl:(i64s m ++ [Value.int .i64 x]).length=m.length+1:=by simp [i64s_len]
 exact Lib.run_clear_slice w 86 3 ty (.int .i64 0) Tryz.underlying86 iZero rfl rfl g m.length 1 (c - m.length) (by decide) (fun j hj=>hc _ (by omega)) (fun j _=>hf _)
theorem iPop_some {m:List Int} {x:Int} (h:Stk 155 3 w b F (i64s (m ++ [x])) r):Calls Tryz.prog 171 #[.pointer (some ⟨b,0,none⟩)] w fun e w'=>∃ F',e=.returned (.tuple #[Value.int .i64 x,.int .i64 0])∧Stk 155 3 w' b F' (i64s m) r∧Turn F F' w w':=by
 have HS:=Lib.hid h
 obtain ⟨p,c,hs,rfl⟩:=h
 obtain ⟨g,rfl,hg,hc,hmx,_,hff,_⟩:=hs.some_at (by rw [i64s_len];simp)
 have hb:=hs.ltB
 have hn:m.length+1≤65536:=by
  have h1:=hs.fits
  have h2:=hs.most
  rw [i64s_len] at h1
  simp at h1
  omega
 have hc':m.length+1≤c:=by rw [i64s_len] at hc;simpa using hc
 have hmx':c≤9223372036854775807:=hmx
 have HA:Hid (∀ w1,Same w w1→StAt 155 3 w1 b (some ⟨g,0,none⟩) c (i64s m ++ [Value.int .i64 x]) r):=fun w1 k=>by
  have:=hs.keep (k.kept _)
  rw [i64s_snoc] at this
  exact this
 have HP:=Lib.hid (iPick_some HS.out 0 m.length (by simp) x (by simp))
 clear hs hc hmx
 have HALL:Hid (∀ w1,Same w w1→w1.cell? ⟨b,0,none⟩=some (.slice (some ⟨g,0,none⟩) (m.length+1) c)∧(w1.setCell ⟨g,m.length,none⟩ (.int .i64 0)).cell? ⟨b,0,none⟩=some (.slice (some ⟨g,0,none⟩) (m.length+1) c)∧(w1.setCell ⟨g,m.length,none⟩ (.int .i64 0)).frozen? ⟨b,0,none⟩=false∧b<w1.heap.size∧(∀ ty,(Builtin.clear_ #[86] ty #[.slice (some ⟨g,m.length,none⟩) 1 (c - m.length)]).run Tryz.prog w1=.ok (.tuple #[]) (w1.setCell ⟨g,m.length,none⟩ (.int .i64 0)))∧Stk 155 3 ((w1.setCell ⟨g,m.length,none⟩ (.int .i64 0)).setCell ⟨b,0,none⟩ (.slice (some ⟨g,0,none⟩) m.length c)) b [b,g] (i64s m) r∧Turn [b,g] [b,g] w ((w1.setCell ⟨g,m.length,none⟩ (.int .i64 0)).setCell ⟨b,0,none⟩ (.slice (some ⟨g,0,none⟩) m.length c))):=by
  intro w1 k
  have a:=HA.out w1 k
  have hl:(i64s m ++ [Value.int .i64 x]).length=m.length+1:=by simp [i64s_len]
  have q:=a.less (.int .i64 0)
  have q0:=a.cell0
  have hne:b≠g:=fun z=>a.ne (by simp [fpR,z])
  have hbx:(w1.setCell ⟨g,m.length,none⟩ (.int .i64 0)).heap[b]?=w1.heap[b]?:=heap_setCell_other _ _ _ _ hne
  rw [i64s_len] at q
  rw [hl] at q0
  exact ⟨q0,(World.cell?_of_block (a:=⟨b,0,none⟩) hbx).trans q0,(World.frozen?_of_block (a:=⟨b,0,none⟩) hbx).trans (a.free 0),a.ltB,iWipe a,q.1,(k.turn _).trans q.2⟩
 clear HS
 have e1:((m.length+1:Nat):Int) - 1=(m.length:Int):=by omega
 have e2:m.length+1 - m.length=1:=by omega
 have k1:(m.length:Int)≤((m.length+1:Nat):Int):=by omega
 have k2:(m.length:Int)≤(c:Int):=by omega
 go_enter Tryz.func171,Tryz.ntmps171
 go_wp2_with (go_at_call 193;refine HP.out.mono ?_;rintro e w1 ⟨rfl,hw⟩;obtain ⟨q0,q1,q2,q3,q4,q5,q6⟩:=HALL.out w1 hw;have HQ:=Lib.hid (And.intro q5 q6);clear q5 q6 hw HALL HP)
 go_ret2
 exact ⟨_,rfl,HQ.out.1,HQ.out.2⟩
theorem iMake (n:Nat) (hn:n≤65536) (w:World):(Instr.makeSlice 86 (.int .i64 (n:Int)) (.int .i64 (n:Int))).run Tryz.prog w=.ok (.slice (some ⟨w.heap.size,0,none⟩) n n) (w.alloc (.cells (i64s (List.replicate n 0)).toArray 3)):=by
 obtain ⟨i,hi,hz0,hz1,hz2⟩:=info_parts iInfo
 rw [run_make w 86 3 i (.int .i64 0) Tryz.underlying86 hi hz0 .i64 .i64 n n (by omega) (Int.le_refl _) (by rw [hz2];omega) (by omega)]
 have e:(madeCells (.int .i64 0:Value).cells (((n:Int)).toNat*i.size))=(i64s (List.replicate n 0)).toArray:=by
  rw [hz1,Nat.mul_one,Int.toNat_natCast]
  apply Array.toList_inj.1
  rw [show (.int .i64 0:Value).cells=#[.int .i64 0] from rfl,toList_madeCells_one]
  simp [i64s]
 rw [e,Int.toNat_natCast]
theorem iCopy {w:World} {p:Option Addr} {c:Nat} {l:List Int} (h:RowAt 3 w p c (i64s l)):∃ W2,(∀ ty,(Builtin.copy_ #[86,86] ty #[.slice (some ⟨w.heap.size,0,none⟩) l.length l.length,.slice p l.length c]).run Tryz.prog (w.alloc (.cells (i64s (List.replicate l.length 0)).toArray 3))=.ok (goInt l.length) W2)∧RowAt 3 W2 (some ⟨w.heap.size,0,none⟩) l.length (i64s l)∧Below w.heap.size w W2:=by
 have ho:=h.own
 rw [i64s_len] at ho
 rcases ho.2 with ⟨hv,h0⟩ | ⟨g,cap,cur,hv,_,hg,hc,hm,hs,ht⟩
 ·have hl:l=[]:=List.eq_nil_of_length_eq_zero h0
  subst hl
  cases hv
  refine ⟨w.alloc (.cells (i64s (List.replicate 0 0)).toArray 3),fun ty=>?_,⟨?_⟩,(Below.refl _ _).alloc (Nat.le_refl _) _⟩
  ·obtain ⟨i,hi,hz0,hz1,hz2⟩:=info_parts iInfo
   simp [Builtin.copy_,run_underlying Tryz.underlying86,Builtin.lenOf,Builtin.firstCells,sizeOf,typeInfo,hi,storeCells]
  ·exact World.ownsRow_lit w _ 0 (Nat.zero_le _) (by unfold maxLen;omega) (by simp [i64s])
 ·cases hv
  have hr:=fun ty=>run_copy_row (P:=Tryz.prog) (w.alloc (.cells (i64s (List.replicate l.length 0)).toArray 3)) 86 86 ty 3 w.heap.size 0 l.length l.length ⟨g,0,none⟩ l.length c (i64s (List.replicate l.length 0)).toArray 3 (i64s l) Tryz.underlying86 (by kernel_rfl) (heap_alloc_new _ _) (by rw [i64s_len];exact (Nat.min_self _).symm) (fun j v hj=>by
   rw [World.ownsRow.cells (ho.alloc _) (g:=g) rfl j v hj]) (by simp [i64s_len]) (fun v hv=>by
   unfold i64s at hv
   obtain ⟨x,_,rfl⟩:=List.mem_map.1 hv
   rfl)
  have e:(List.take 0 (i64s (List.replicate l.length 0)).toArray.toList ++ i64s l ++ List.drop (0+(i64s l).length) (i64s (List.replicate l.length 0)).toArray.toList)=i64s l:=by
   rw [List.drop_of_length_le (by simp [i64s_len])]
   simp
  refine ⟨(w.alloc (.cells (i64s (List.replicate l.length 0)).toArray 3)).setRow w.heap.size (i64s l).toArray,fun ty=>(hr ty).trans (by rw [e,i64s_len]),⟨?_⟩,((Below.refl _ _).alloc (Nat.le_refl _) _).trans ⟨rfl,rfl,rfl,by simp,fun k hk=>setRow_other _ _ _ _ (Nat.ne_of_lt hk)⟩⟩
  refine ⟨by simp,.inr ⟨w.heap.size,l.length,(i64s l).toArray,by rw [i64s_len],Nat.zero_le _,setRow_heap _ _ _ _ _ _ (heap_alloc_new _ _),by rw [i64s_len];exact Nat.le_refl _,by omega,by simp [i64s_len],by simp⟩⟩
theorem iAll_any (h:Stk 155 3 w b F (i64s l) r):Calls Tryz.prog 78 #[.pointer (some ⟨b,0,none⟩)] w fun e w'=>e=.returned (.slice (some ⟨w.heap.size,0,none⟩) l.length l.length)∧RowAt 3 w' (some ⟨w.heap.size,0,none⟩) l.length (i64s l)∧Below w.heap.size w w':=by
 obtain ⟨p,c,hs,rfl⟩:=h
 have h0:=hs.cell0
 have hb:=hs.ltB
 have hn:l.length≤65536:=by
  have h1:=hs.fits
  have h2:=hs.most
  rw [i64s_len] at h1
  omega
 rw [i64s_len] at h0
 have hmk:=iMake l.length hn
 obtain ⟨W2,hcp,hr,hbl⟩:=iCopy hs.row
 have HF:=Lib.hid (And.intro hr hbl)
 clear hs hr hbl
 go_enter Tryz.func78,Tryz.ntmps78
 go_wp2
 go_ret
 exact ⟨rfl,HF.out.1,HF.out.2⟩
theorem iClone_any (h:Stk 155 3 w b F (i64s l) r):Calls Tryz.prog 55 #[.pointer (some ⟨b,0,none⟩)] w fun e w'=>∃ nb F',e=.returned (.pointer (some ⟨nb,0,none⟩))∧Stk 155 3 w' nb F' (i64s l) r∧Abv w.heap.size F'∧Below w.heap.size w w':=by
 have HM:=Lib.hid h
 obtain ⟨p,c,hs,rfl⟩:=h
 have h1:=hs.cell1
 have hb:=hs.ltB
 have HFI:=Lib.hid (And.intro hs.fits hs.most)
 have HDONE:Hid (∀ w1 w2,RowAt 3 w1 (some ⟨w.heap.size,0,none⟩) l.length (i64s l)→Below w.heap.size w w1→w2.heap=(w1.alloc (.cells #[.slice (some ⟨w.heap.size,0,none⟩) l.length l.length,.int .i64 r] 155)).heap→w2.os=w1.os→w2.tape=w1.tape→w2.output=w1.output→∃ nb F',Value.pointer (some ⟨w1.heap.size,0,none⟩)=.pointer (some ⟨nb,0,none⟩)∧Stk 155 3 w2 nb F' (i64s l) r∧Abv w.heap.size F'∧Below w.heap.size w w2):=by
  intro w1 w2 hr hbl h2 ho ht hp
  have q:=stk_about (T:=155) (w2:=w2) (B:=w.heap.size) (r:=r) hr (fun k hk=>by simp [fpR] at hk;omega) hbl.size HFI.out.1 HFI.out.2 (by rw [i64s_len];exact h2)
  refine ⟨_,_,rfl,q.1,q.2,ho.trans hbl.os,ht.trans hbl.tape,hp.trans hbl.output,by rw [h2];have:=hbl.size;simp;omega,fun k hk=>?_⟩
  rw [h2,Below.heap_alloc _ _ _ (Nat.lt_of_lt_of_le hk hbl.size)]
  exact hbl.block k hk
 clear hs
 go_enter Tryz.func55,Tryz.ntmps55
 go_wp2
 go_region_with (go_at_call 78;refine (iAll_any (by first | exact HM.out | exact HM.out.same (Same.drewN _ _))).mono ?_;rintro e w1 ⟨rfl,hr,hbb⟩;have HR:=Lib.hid hr;have HB:=Lib.hid hbb;have q1:w1.cell? ⟨b,1,none⟩=some (.int .i64 r):=(hbb.cell (p:=⟨b,1,none⟩) hb).trans h1;clear hr hbb)
 all_goals (try go_wp2)
 all_goals go_ret
 all_goals
  obtain ⟨nb,F',e1,e2,e3,e4⟩:=HDONE.out _ _ HR.out ⟨HB.out.os,HB.out.tape,HB.out.output,HB.out.size,HB.out.block⟩ rfl rfl rfl rfl
  cases e1
  exact ⟨_,F',rfl,e2,e3,e4⟩
end
end Go.Proofs.YteinilmecnlanabGreatDoor
namespace Go.Proofs.YteinilmecnlanabGreatDoor
open Go.ChangeShapes Go.WideShapes Go.ChangeAt Go.RowKit Num
def fls (l:List Nat):List Value:=l.map (Value.float .f64)
theorem fls_len (l:List Nat):(fls l).length=l.length:=by unfold fls;rw [List.length_map]
theorem fls_snoc (l:List Nat) (x:Nat):fls (l ++ [x])=fls l ++ [.float .f64 x]:=by simp [fls]
theorem fls_at (l:List Nat) (j:Nat) (h:j<(fls l).length) (h':j<l.length):(fls l)[j]=.float .f64 l[j]:=by simp [fls]
theorem fls_set (l:List Nat) (j:Nat) (x:Nat):(fls l).set j (.float .f64 x)=fls (l.set j x):=by simp [fls,List.map_set]
end Go.Proofs.YteinilmecnlanabGreatDoor
namespace Go.Proofs.YteinilmecnlanabGreatDoor
open Go.ChangeShapes Go.WideShapes Go.ChangeAt Go.RowKit
attribute [local go_sem] run_store_float
theorem fInfo:(Tryz.prog.info? 64).map (fun i=>(i.zero,i.size,i.bytes))=some (some (.float .f64 0),1,8):=by kernel_rfl
theorem fNew_any (r:Int) (w:World):Calls Tryz.prog 63 #[.int .i64 r] w fun e w'=>∃ b,e=.returned (.pointer (some ⟨b,0,none⟩))∧b=w.heap.size∧Stk 152 64 w' b [b] [] (roomV r)∧Below w.heap.size w w':=by
 have H0:=Lib.hid (fun r0=>stk_new w 152 64 r0)
 have HB:=Lib.hid (fun o=>(Below.refl w.heap.size w).alloc (Nat.le_refl _) o)
 have HR:=Lib.hid (roomV_ok r)
 by_cases h1:r<0
 ·have e:roomV r=0:=by simp [roomV,h1]
  rw [e] at HR ⊢
  have h1':¬ 0≤r:=by omega
  clear e
  go_enter Tryz.func63,Tryz.ntmps63
  go_wp2
  go_ret
  exact ⟨_,rfl,rfl,H0.out _ HR.out.1 HR.out.2,HB.out _⟩
 ·by_cases h2:65536<r
  ·have e:roomV r=65536:=by simp [roomV,h1,h2]
   rw [e] at HR ⊢
   clear e
   go_enter Tryz.func63,Tryz.ntmps63
   go_wp2
   go_ret
   exact ⟨_,rfl,rfl,H0.out _ HR.out.1 HR.out.2,HB.out _⟩
  ·have e:roomV r=r:=by simp [roomV,h1,h2]
   rw [e] at HR ⊢
   clear e
   go_enter Tryz.func63,Tryz.ntmps63
   go_wp2
   go_ret
   exact ⟨_,rfl,rfl,H0.out _ HR.out.1 HR.out.2,HB.out _⟩
section
variable {w:World} {b:Nat} {F:List Nat} {l:List Nat} {r:Int}
theorem fLen_any (h:Stk 152 64 w b F (fls l) r):Calls Tryz.prog 162 #[.pointer (some ⟨b,0,none⟩)] w fun e w'=>e=.returned (.int .i64 l.length)∧w'=w:=by
 obtain ⟨p,c,hs,rfl⟩:=h
 have h0:=hs.cell0
 rw [fls_len] at h0
 have hb:=hs.ltB
 clear hs
 go_enter Tryz.func162,Tryz.ntmps162
 go_wp2
 go_ret
 exact ⟨rfl,rfl⟩
theorem fRoom_any (h:Stk 152 64 w b F (fls l) r):Calls Tryz.prog 163 #[.pointer (some ⟨b,0,none⟩)] w fun e w'=>e=.returned (.int .i64 r)∧w'=w:=by
 obtain ⟨p,c,hs,rfl⟩:=h
 have h0:=hs.cell1
 have hb:=hs.ltB
 clear hs
 go_enter Tryz.func163,Tryz.ntmps163
 go_wp2
 go_ret
 exact ⟨rfl,rfl⟩
theorem fPush_any (h:Stk 152 64 w b F (fls l) r) (x:Nat):Calls Tryz.prog 176 #[.pointer (some ⟨b,0,none⟩),Value.float .f64 x] w fun e w'=>∃ F',e=.returned (.int .i64 (pushE l r))∧Stk 152 64 w' b F' (fls (pushL l r x)) r∧Turn F F' w w':=by
 have HS:=Lib.hid h
 obtain ⟨p,c,hs,rfl⟩:=h
 have h0:=hs.cell0
 have h1:=hs.cell1
 have hb:=hs.ltB
 have hf:=hs.free 0
 have hm:=hs.most
 rw [fls_len] at h0
 by_cases hlt:(l.length:Int)<r
 ·have e1:pushE l r=0:=by simp [pushE,hlt]
  have e2:pushL l r x=l ++ [x]:=by simp [pushL,hlt]
  rw [e1,e2,fls_snoc]
  clear e1 e2
  obtain ⟨i0,hi,hz0,hz1,hz2⟩:=info_parts fInfo
  have HZI:=Lib.hid (And.intro hi (And.intro hz0 (And.intro hz1 hz2)))
  have HA:Hid (∀ k,StAt 152 64 (w.drewN k) b p c (fls l) r):=fun k=>hs.keep ((Same.drewN w k).kept _)
  have HO:Hid (∀ k,(w.drewN k).ownsRow 0 64 1 (.slice p l.length c) l.length (fls l)):=fun k=>by
   have:=(HA.out k).row.own
   rw [fls_len] at this
   exact this
  have HMORE:Hid (∀ k o w3 v,w3.ownsRow 0 64 1 v (l.length+1) (fls l ++ [Value.float .f64 x])→((w.drewN k).alloc o).grownBy w3 (Value.slice p l.length c).ownBlock→(v.ownBlock=(Value.slice p l.length c).ownBlock∨v.ownBlock=some ((w.drewN k).alloc o).heap.size)→∃ p' c',v=.slice p' (l.length+1) c'∧Stk 152 64 (w3.setCell ⟨b,0,none⟩ (.slice p' (l.length+1) c')) b (b::fpR p') (fls l ++ [Value.float .f64 x]) r∧Turn (b::fpR p) (b::fpR p') w (w3.setCell ⟨b,0,none⟩ (.slice p' (l.length+1) c'))∧w3.cell? ⟨b,0,none⟩=some (.slice p l.length c)∧w3.frozen? ⟨b,0,none⟩=false∧b<w3.heap.size):=by
   intro k o w3 v ho hg hat
   have hne:some b≠(Value.slice p l.length c).ownBlock:=fun q=>hs.ne (own_fpR.2 q.symm)
   have hbk:=hg.block b (by simp;have:=hs.ltB;omega) hne
   have e:=(hs.alloc_box k o)
   have hm3:=(HA.out k).more (w3:=w3) (v:=v) (o:=o) (x:=Value.float .f64 x) (by rw [fls_len];exact ho) (by rw [fls_len];exact hg) (by rw [fls_len];exact hat) (by rw [fls_len];exact hlt)
   rw [fls_len] at hm3
   obtain ⟨p',c',q1,q2,q3⟩:=hm3
   rw [e,fls_len] at hbk
   refine ⟨p',c',q1,q2,((Same.drewN w k).turn _).trans q3,?_,frozen_of_row w3 b 0 _ _ hbk,lt_of_block hbk⟩
   rw [cell_of_row w3 b 0 _ _ _ hbk]
   rfl
  have HLT:=Lib.hid (And.intro hlt hm)
  clear hi hz0 hz1 hz2 hs hm
  go_enter Tryz.func176,Tryz.ntmps176
  go_wp2
  go_quiet (fail)
  go_wp2_with (at_builtin;refine wpList_append_own_at _ rfl _ _ 27 rfl 0 64 i0 (.float .f64 0) 1 8 Tryz.underlying27 HZI.out.1 HZI.out.2.1 HZI.out.2.2.1 HZI.out.2.2.2 rfl (by decide) _ l.length (fls l) rfl (World.ownsRow.alloc (HO.out _) _) ⟨w.heap.size,0,none⟩ 1 1 [Value.float .f64 x] rfl rfl (cell_one_new _ _ _) (fun u hu=>by simp at hu;subst hu;rfl) (by have:=HLT.out;unfold maxLen;omega) (by have:=HLT.out;omega) (Nat.zero_le _) ?_;intro v3 w3 hown3 hgrow3 hnil3 hat3;obtain ⟨p',c',hv3,q1,q2,q3,q4,q5⟩:=HMORE.out _ _ _ _ hown3 hgrow3 hat3;subst hv3;have HQ:=Lib.hid (And.intro q1 q2);clear hown3 hgrow3 hnil3 hat3 q1 q2 HMORE)
  go_ret
  exact ⟨_,rfl,HQ.out.1,HQ.out.2⟩
 ·have e1:pushE l r=40:=by simp [pushE,hlt]
  have e2:pushL l r x=l:=by simp [pushL,hlt]
  rw [e1,e2]
  clear e1 e2 hs hm
  go_enter Tryz.func176,Tryz.ntmps176
  go_wp2
  go_quiet (fail)
  go_wp2
  go_ret
  exact ⟨_,rfl,HS.out.same (Same.drewN _ _),(Same.drewN _ _).turn _⟩
theorem fPick_drew (h:Stk 152 64 w b F (fls l) r) (k j:Nat) (hk:j+1+k=l.length) (x:Nat) (hx:l[j]?=some x):Calls Tryz.prog 192 #[.pointer (some ⟨b,0,none⟩),.int .i64 k] w fun e w'=>e=.returned (.tuple #[Value.float .f64 x,.int .i64 0])∧∃ q,w'=w.drewN q:=by
 obtain ⟨p,c,hs,rfl⟩:=h
 have h0:=hs.cell0
 have hb:=hs.ltB
 obtain ⟨g,rfl,hg,_,_,_,_,hc⟩:=hs.some_at (by rw [fls_len];omega)
 have hj:w.cell? ⟨g,j,none⟩=some (Value.float .f64 x):=by
  rw [hc j (by rw [fls_len];omega),fls_at l j _ (by omega)]
  rw [List.getElem?_eq_getElem (by omega)] at hx
  rw [Option.some.inj hx]
 have hm:=hs.most
 have hfi:=hs.fits
 rw [fls_len] at h0 hfi
 have hn:l.length≤65536:=by omega
 clear hs hc hx hfi hm
 obtain ⟨n,hnn⟩:∃ n,n=l.length:=⟨_,rfl⟩
 rw [← hnn] at h0 hk hn
 clear hnn
 subst hk
 have k1:(k:Int)<((j+1+k:Nat):Int):=by omega
 have e1:((j+1+k:Nat):Int) - 1 - (k:Int)=(j:Int):=by omega
 have k2:(j:Int)<((j+1+k:Nat):Int):=by omega
 go_enter Tryz.func192,Tryz.ntmps192
 go_wp2
 go_quiet (fail)
 go_wp2
 go_ret2
 exact ⟨rfl,_,rfl⟩
theorem fPick_some (h:Stk 152 64 w b F (fls l) r) (k j:Nat) (hk:j+1+k=l.length) (x:Nat) (hx:l[j]?=some x):Calls Tryz.prog 192 #[.pointer (some ⟨b,0,none⟩),.int .i64 k] w fun e w'=>e=.returned (.tuple #[Value.float .f64 x,.int .i64 0])∧Same w w' :=
 (fPick_drew h k j hk x hx).mono fun _ _ ⟨he,_,hq⟩=>⟨he,hq ▸ Same.drewN _ _⟩
theorem fZero:∀ w,(zeroValue 64).run Tryz.prog w=.ok (.float .f64 0) w:=by
 intro w
 obtain ⟨i0,hi,hz0,_,_⟩:=info_parts fInfo
 simp [zeroValue,typeInfo,hi,hz0]
theorem fWipe {w:World} {b g c:Nat} {m:List Nat} {x:Nat} {r:Int} (h:StAt 152 64 w b (some ⟨g,0,none⟩) c (fls m ++ [Value.float .f64 x]) r):∀ ty,(Builtin.clear_ #[27] ty #[.slice (some ⟨g,m.length,none⟩) 1 (c - m.length)]).run Tryz.prog w=.ok (.tuple #[]) (w.setCell ⟨g,m.length,none⟩ (.float .f64 0)):=by
 intro ty
 obtain ⟨g',hg',_,hn,_,hc,hf,_⟩:=h.some_at (by simp)
 cases hg'
 have hl:(fls m ++ [Value.float .f64 x]).length=m.length+1:=by simp [fls_len]
 exact Lib.run_clear_slice w 27 64 ty (.float .f64 0) Tryz.underlying27 fZero rfl rfl g m.length 1 (c - m.length) (by decide) (fun j hj=>hc _ (by omega)) (fun j _=>hf _)
theorem fPop_some {m:List Nat} {x:Nat} (h:Stk 152 64 w b F (fls (m ++ [x])) r):Calls Tryz.prog 191 #[.pointer (some ⟨b,0,none⟩)] w fun e w'=>∃ F',e=.returned (.tuple #[Value.float .f64 x,.int .i64 0])∧Stk 152 64 w' b F' (fls m) r∧Turn F F' w w':=by
 have HS:=Lib.hid h
 obtain ⟨p,c,hs,rfl⟩:=h
 obtain ⟨g,rfl,hg,hc,hmx,_,hff,_⟩:=hs.some_at (by rw [fls_len];simp)
 have hb:=hs.ltB
 have hn:m.length+1≤65536:=by
  have h1:=hs.fits
  have h2:=hs.most
  rw [fls_len] at h1
  simp at h1
  omega
 have hc':m.length+1≤c:=by rw [fls_len] at hc;simpa using hc
 have hmx':c≤9223372036854775807:=hmx
 have HA:Hid (∀ w1,Same w w1→StAt 152 64 w1 b (some ⟨g,0,none⟩) c (fls m ++ [Value.float .f64 x]) r):=fun w1 k=>by
  have:=hs.keep (k.kept _)
  rw [fls_snoc] at this
  exact this
 have HP:=Lib.hid (fPick_some HS.out 0 m.length (by simp) x (by simp))
 clear hs hc hmx
 have HALL:Hid (∀ w1,Same w w1→w1.cell? ⟨b,0,none⟩=some (.slice (some ⟨g,0,none⟩) (m.length+1) c)∧(w1.setCell ⟨g,m.length,none⟩ (.float .f64 0)).cell? ⟨b,0,none⟩=some (.slice (some ⟨g,0,none⟩) (m.length+1) c)∧(w1.setCell ⟨g,m.length,none⟩ (.float .f64 0)).frozen? ⟨b,0,none⟩=false∧b<w1.heap.size∧(∀ ty,(Builtin.clear_ #[27] ty #[.slice (some ⟨g,m.length,none⟩) 1 (c - m.length)]).run Tryz.prog w1=.ok (.tuple #[]) (w1.setCell ⟨g,m.length,none⟩ (.float .f64 0)))∧Stk 152 64 ((w1.setCell ⟨g,m.length,none⟩ (.float .f64 0)).setCell ⟨b,0,none⟩ (.slice (some ⟨g,0,none⟩) m.length c)) b [b,g] (fls m) r∧Turn [b,g] [b,g] w ((w1.setCell ⟨g,m.length,none⟩ (.float .f64 0)).setCell ⟨b,0,none⟩ (.slice (some ⟨g,0,none⟩) m.length c))):=by
  intro w1 k
  have a:=HA.out w1 k
  have hl:(fls m ++ [Value.float .f64 x]).length=m.length+1:=by simp [fls_len]
  have q:=a.less (.float .f64 0)
  have q0:=a.cell0
  have hne:b≠g:=fun z=>a.ne (by simp [fpR,z])
  have hbx:(w1.setCell ⟨g,m.length,none⟩ (.float .f64 0)).heap[b]?=w1.heap[b]?:=heap_setCell_other _ _ _ _ hne
  rw [fls_len] at q
  rw [hl] at q0
  exact ⟨q0,(World.cell?_of_block (a:=⟨b,0,none⟩) hbx).trans q0,(World.frozen?_of_block (a:=⟨b,0,none⟩) hbx).trans (a.free 0),a.ltB,fWipe a,q.1,(k.turn _).trans q.2⟩
 clear HS
 have e1:((m.length+1:Nat):Int) - 1=(m.length:Int):=by omega
 have e2:m.length+1 - m.length=1:=by omega
 have k1:(m.length:Int)≤((m.length+1:Nat):Int):=by omega
 have k2:(m.length:Int)≤(c:Int):=by omega
 go_enter Tryz.func191,Tryz.ntmps191
 go_wp2_with (go_at_call 192;refine HP.out.mono ?_;rintro e w1 ⟨rfl,hw⟩;obtain ⟨q0,q1,q2,q3,q4,q5,q6⟩:=HALL.out w1 hw;have HQ:=Lib.hid (And.intro q5 q6);clear q5 q6 hw HALL HP)
 go_ret2
 exact ⟨_,rfl,HQ.out.1,HQ.out.2⟩
theorem fMake (n:Nat) (hn:n≤65536) (w:World):(Instr.makeSlice 27 (.int .i64 (n:Int)) (.int .i64 (n:Int))).run Tryz.prog w=.ok (.slice (some ⟨w.heap.size,0,none⟩) n n) (w.alloc (.cells (fls (List.replicate n 0)).toArray 64)):=by
 obtain ⟨i,hi,hz0,hz1,hz2⟩:=info_parts fInfo
 rw [run_make w 27 64 i (.float .f64 0) Tryz.underlying27 hi hz0 .i64 .i64 n n (by omega) (Int.le_refl _) (by rw [hz2];omega) (by omega)]
 have e:(madeCells (.float .f64 0:Value).cells (((n:Int)).toNat*i.size))=(fls (List.replicate n 0)).toArray:=by
  rw [hz1,Nat.mul_one,Int.toNat_natCast]
  apply Array.toList_inj.1
  rw [show (.float .f64 0:Value).cells=#[.float .f64 0] from rfl,toList_madeCells_one]
  simp [fls]
 rw [e,Int.toNat_natCast]
theorem fCopy {w:World} {p:Option Addr} {c:Nat} {l:List Nat} (h:RowAt 64 w p c (fls l)):∃ W2,(∀ ty,(Builtin.copy_ #[27,27] ty #[.slice (some ⟨w.heap.size,0,none⟩) l.length l.length,.slice p l.length c]).run Tryz.prog (w.alloc (.cells (fls (List.replicate l.length 0)).toArray 64))=.ok (goInt l.length) W2)∧RowAt 64 W2 (some ⟨w.heap.size,0,none⟩) l.length (fls l)∧Below w.heap.size w W2:=by
 have ho:=h.own
 rw [fls_len] at ho
 rcases ho.2 with ⟨hv,h0⟩ | ⟨g,cap,cur,hv,_,hg,hc,hm,hs,ht⟩
 ·have hl:l=[]:=List.eq_nil_of_length_eq_zero h0
  subst hl
  cases hv
  refine ⟨w.alloc (.cells (fls (List.replicate 0 0)).toArray 64),fun ty=>?_,⟨?_⟩,(Below.refl _ _).alloc (Nat.le_refl _) _⟩
  ·obtain ⟨i,hi,hz0,hz1,hz2⟩:=info_parts fInfo
   simp [Builtin.copy_,run_underlying Tryz.underlying27,Builtin.lenOf,Builtin.firstCells,sizeOf,typeInfo,hi,storeCells]
  ·exact World.ownsRow_lit w _ 0 (Nat.zero_le _) (by unfold maxLen;omega) (by simp [fls])
 ·cases hv
  have hr:=fun ty=>run_copy_row (P:=Tryz.prog) (w.alloc (.cells (fls (List.replicate l.length 0)).toArray 64)) 27 27 ty 64 w.heap.size 0 l.length l.length ⟨g,0,none⟩ l.length c (fls (List.replicate l.length 0)).toArray 64 (fls l) Tryz.underlying27 (by kernel_rfl) (heap_alloc_new _ _) (by rw [fls_len];exact (Nat.min_self _).symm) (fun j v hj=>by
   rw [World.ownsRow.cells (ho.alloc _) (g:=g) rfl j v hj]) (by simp [fls_len]) (fun v hv=>by
   unfold fls at hv
   obtain ⟨x,_,rfl⟩:=List.mem_map.1 hv
   rfl)
  have e:(List.take 0 (fls (List.replicate l.length 0)).toArray.toList ++ fls l ++ List.drop (0+(fls l).length) (fls (List.replicate l.length 0)).toArray.toList)=fls l:=by
   rw [List.drop_of_length_le (by simp [fls_len])]
   simp
  refine ⟨(w.alloc (.cells (fls (List.replicate l.length 0)).toArray 64)).setRow w.heap.size (fls l).toArray,fun ty=>(hr ty).trans (by rw [e,fls_len]),⟨?_⟩,((Below.refl _ _).alloc (Nat.le_refl _) _).trans ⟨rfl,rfl,rfl,by simp,fun k hk=>setRow_other _ _ _ _ (Nat.ne_of_lt hk)⟩⟩
  refine ⟨by simp,.inr ⟨w.heap.size,l.length,(fls l).toArray,by rw [fls_len],Nat.zero_le _,setRow_heap _ _ _ _ _ _ (heap_alloc_new _ _),by rw [fls_len];exact Nat.le_refl _,by omega,by simp [fls_len],by simp⟩⟩
theorem fAll_any (h:Stk 152 64 w b F (fls l) r):Calls Tryz.prog 77 #[.pointer (some ⟨b,0,none⟩)] w fun e w'=>e=.returned (.slice (some ⟨w.heap.size,0,none⟩) l.length l.length)∧RowAt 64 w' (some ⟨w.heap.size,0,none⟩) l.length (fls l)∧Below w.heap.size w w':=by
 obtain ⟨p,c,hs,rfl⟩:=h
 have h0:=hs.cell0
 have hb:=hs.ltB
 have hn:l.length≤65536:=by
  have h1:=hs.fits
  have h2:=hs.most
  rw [fls_len] at h1
  omega
 rw [fls_len] at h0
 have hmk:=fMake l.length hn
 obtain ⟨W2,hcp,hr,hbl⟩:=fCopy hs.row
 have HF:=Lib.hid (And.intro hr hbl)
 clear hs hr hbl
 go_enter Tryz.func77,Tryz.ntmps77
 go_wp2
 go_ret
 exact ⟨rfl,HF.out.1,HF.out.2⟩
theorem fClone_any (h:Stk 152 64 w b F (fls l) r):Calls Tryz.prog 54 #[.pointer (some ⟨b,0,none⟩)] w fun e w'=>∃ nb F',e=.returned (.pointer (some ⟨nb,0,none⟩))∧Stk 152 64 w' nb F' (fls l) r∧Abv w.heap.size F'∧Below w.heap.size w w':=by
 have HM:=Lib.hid h
 obtain ⟨p,c,hs,rfl⟩:=h
 have h1:=hs.cell1
 have hb:=hs.ltB
 have HFI:=Lib.hid (And.intro hs.fits hs.most)
 have HDONE:Hid (∀ w1 w2,RowAt 64 w1 (some ⟨w.heap.size,0,none⟩) l.length (fls l)→Below w.heap.size w w1→w2.heap=(w1.alloc (.cells #[.slice (some ⟨w.heap.size,0,none⟩) l.length l.length,.int .i64 r] 152)).heap→w2.os=w1.os→w2.tape=w1.tape→w2.output=w1.output→∃ nb F',Value.pointer (some ⟨w1.heap.size,0,none⟩)=.pointer (some ⟨nb,0,none⟩)∧Stk 152 64 w2 nb F' (fls l) r∧Abv w.heap.size F'∧Below w.heap.size w w2):=by
  intro w1 w2 hr hbl h2 ho ht hp
  have q:=stk_about (T:=152) (w2:=w2) (B:=w.heap.size) (r:=r) hr (fun k hk=>by simp [fpR] at hk;omega) hbl.size HFI.out.1 HFI.out.2 (by rw [fls_len];exact h2)
  refine ⟨_,_,rfl,q.1,q.2,ho.trans hbl.os,ht.trans hbl.tape,hp.trans hbl.output,by rw [h2];have:=hbl.size;simp;omega,fun k hk=>?_⟩
  rw [h2,Below.heap_alloc _ _ _ (Nat.lt_of_lt_of_le hk hbl.size)]
  exact hbl.block k hk
 clear hs
 go_enter Tryz.func54,Tryz.ntmps54
 go_wp2
 go_region_with (go_at_call 77;refine (fAll_any (by first | exact HM.out | exact HM.out.same (Same.drewN _ _))).mono ?_;rintro e w1 ⟨rfl,hr,hbb⟩;have HR:=Lib.hid hr;have HB:=Lib.hid hbb;have q1:w1.cell? ⟨b,1,none⟩=some (.int .i64 r):=(hbb.cell (p:=⟨b,1,none⟩) hb).trans h1;clear hr hbb)
 all_goals (try go_wp2)
 all_goals go_ret
 all_goals
  obtain ⟨nb,F',e1,e2,e3,e4⟩:=HDONE.out _ _ HR.out ⟨HB.out.os,HB.out.tape,HB.out.output,HB.out.size,HB.out.block⟩ rfl rfl rfl rfl
  cases e1
  exact ⟨_,F',rfl,e2,e3,e4⟩
end
end Go.Proofs.YteinilmecnlanabGreatDoor
namespace Go.Proofs.YteinilmecnlanabGreatDoor
open Go.ChangeShapes Go.WideShapes Go.ChangeAt Go.RowKit Num Go.Maps
attribute [local go_sem] run_store_float frombits_run bits_run
section
variable {w:World} {b:Nat} {F:List Nat} {m:Int} {l:Wr}
theorem put_old (h:Buf w b F m l) {d:Int} (hd:(Lit.int .i64 d).wf=true) (hh:hasC l d=true) (x:Nat):Calls Tryz.prog 170 #[.pointer (some ⟨b,0,none⟩),.int .i64 d,.float .f64 x] w fun e w'=>∃ F',e=.returned (.tuple #[.bool false,.int .i64 0])∧Buf w' b F' m (putC l d (fixB x))∧Turn F F' w w':=by
 obtain ⟨bm,p,c,hs,rfl⟩:=h
 have h0:=hs.cell1
 have hb:=hs.ltB
 have hlk:=hs.map.look hd
 rw [hh] at hlk
 have hmost:=hs.most
 have hfits:=hs.fits
 obtain ⟨w1,hrun,hm1,hg1⟩:=(hs.same (Same.drew w)).map.lay hd (fixB x) (by unfold maxLen;omega)
 have HF:=Lib.hid ((hs.same (Same.drew w)).laid hh hm1 hg1)
 clear hs hd hh hm1 hg1 hmost hfits
 go_enter Tryz.func170,Tryz.ntmps170
 go_wp2
 go_region_with (go_at_call 67;refine (fix_any _ _).mono ?_;rintro e w' ⟨rfl,hw⟩;subst w')
 all_goals (try go_wp2)
 all_goals go_ret2
 all_goals exact ⟨_,rfl,HF.out.1.buf,((Same.drew _).turn _).trans HF.out.2⟩
theorem put_full (h:Buf w b F m l) {d:Int} (hd:(Lit.int .i64 d).wf=true) (hh:hasC l d=false) (hf:¬ (l.length:Int)<m) (x:Nat):Calls Tryz.prog 170 #[.pointer (some ⟨b,0,none⟩),.int .i64 d,.float .f64 x] w fun e w'=>e=.returned (.tuple #[.bool false,.int .i64 70])∧Same w w':=by
 obtain ⟨bm,p,c,hs,rfl⟩:=h
 have h0:=hs.cell1
 have h1:=hs.cell0
 have h2:=hs.cell2
 have hb:=hs.ltB
 have hlk:=hs.map.look hd
 rw [hh] at hlk
 have hfits:=hs.fits
 have e:m=(l.length:Int):=by omega
 subst e
 clear hs hd hh hf hfits
 go_enter Tryz.func170,Tryz.ntmps170
 go_wp2
 go_quiet (fail)
 all_goals (try go_wp2)
 all_goals go_ret2
 all_goals exact ⟨rfl,by first | exact Same.refl _ | exact Same.drew _ | exact Same.drewN _ _⟩
theorem put_new (h:Buf w b F m l) {d:Int} (hd:(Lit.int .i64 d).wf=true) (hh:hasC l d=false) (hf:(l.length:Int)<m) (x:Nat):Calls Tryz.prog 170 #[.pointer (some ⟨b,0,none⟩),.int .i64 d,.float .f64 x] w fun e w'=>∃ F',e=.returned (.tuple #[.bool true,.int .i64 0])∧Buf w' b F' m (putC l d (fixB x))∧Turn F F' w w':=by
 obtain ⟨bm,p,c,hs,rfl⟩:=h
 have h0:=hs.cell1
 have h1:=hs.cell0
 have h2:=hs.cell2
 have hb:=hs.ltB
 have hlk:=hs.map.look hd
 rw [hh] at hlk
 have hne:¬ (l.length:Int)=m:=by omega
 have HLT:Hid (l.length<32):=by have:=hs.most;show _<_;omega
 have HD:Hid ((∀ k,BufAt (w.drewN k) b bm p c m l)∧hasC l d=false∧(Lit.int .i64 d).wf=true∧(l.length:Int)<m):=⟨fun k=>hs.same (Same.drewN w k),hh,hd,hf⟩
 have HO:Hid (∀ u:World,u.heap=w.heap→u.ownsRow 0 3 1 (.slice p l.length c) l.length (i64s (cellsOfL l))):=fun u e=>by
  have:=(hs.row.keep (w':=u) ⟨by rw [e];exact Nat.le_refl _,fun k _=>by rw [e]⟩).own
  rw [i64s_len,cells_len] at this
  exact this
 obtain ⟨i0,hi,hz0,hz1,hz2⟩:=info_parts iInfo
 have HZI:=Lib.hid (And.intro hi (And.intro hz0 (And.intro hz1 hz2)))
 clear hi hz0 hz1 hz2 hs hh hd hf
 go_enter Tryz.func170,Tryz.ntmps170
 go_wp2
 go_quiet (fail)
 go_wp2_with (at_builtin;refine wpList_append_own_at _ rfl _ _ 86 rfl 0 3 i0 (.int .i64 0) 1 8 Tryz.underlying86 HZI.out.1 HZI.out.2.1 HZI.out.2.2.1 HZI.out.2.2.2 rfl (by decide) _ l.length (i64s (cellsOfL l)) rfl (World.ownsRow.alloc (HO.out _ rfl) _) ⟨w.heap.size,0,none⟩ 1 1 [.int .i64 d] rfl rfl (cell_one_new _ _ _) (fun u hu=>by simp at hu;subst hu;rfl) (by have:=HLT.out;unfold maxLen;omega) (by have:=HLT.out;omega) (Nat.zero_le _) ?_;intro v w3 hown hgrow hnil hloc;obtain ⟨p',c',hv,k1,k2,kf,kb,w4,hrun,hs4,ht4⟩:=(HD.out.1 _).more hown hgrow hloc HD.out.2.1 HD.out.2.2.1 HD.out.2.2.2 (fixB x);subst hv;have HS4:=Lib.hid (And.intro hs4 ht4);clear hown hgrow hnil hloc hs4 ht4)
 go_region_with (go_at_call 67;refine (fix_any _ _).mono ?_;rintro e w' ⟨rfl,hw⟩;subst w')
 all_goals (try go_wp2)
 all_goals go_ret2
 all_goals exact ⟨_,rfl,HS4.out.1.buf,((Same.drewN _ _).turn _).trans HS4.out.2⟩
theorem put_any (h:Buf w b F m l) {d:Int} (hd:(Lit.int .i64 d).wf=true) (x:Nat):Calls Tryz.prog 170 #[.pointer (some ⟨b,0,none⟩),.int .i64 d,.float .f64 x] w fun e w'=>∃ F',e=.returned (.tuple #[.bool (putF m l d),.int .i64 (putE m l d)])∧Buf w' b F' m (putL m l d x)∧Turn F F' w w':=by
 unfold putF putE putL mayP
 cases hh:hasC l d
 ·by_cases hf:(l.length:Int)<m
  ·simp only [hf]
   exact put_new h hd hh hf x
  ·simp only [hf]
   exact (put_full h hd hh hf x).mono fun e w' ⟨a1,a2⟩=>⟨_,a1,h.same a2,a2.turn _⟩
 ·exact put_old h hd hh x
end
end Go.Proofs.YteinilmecnlanabGreatDoor
namespace Go.Proofs.YteinilmecnlanabGreatDoor
open Go.ChangeShapes Go.WideShapes Go.ChangeAt Go.RowKit Num Go.Maps
attribute [local go_sem] run_store_float frombits_run bits_run
theorem tInfo:(Tryz.prog.info? 99).map (fun i=>(i.zero,i.size,i.bytes))=some (some (.agg #[.int .i64 0,.float .f64 0]),2,16):=by kernel_rfl
def tchC (t:Int × Nat):List Value:=[.int .i64 t.1,.float .f64 t.2]
theorem tch_len (l:Wr):(l.flatMap tchC).length=l.length*2:=by
 induction l with
 | nil=>rfl
 | cons t l ih=>rw [List.flatMap_cons,List.length_append,ih];simp [tchC];omega
theorem take_tch (l:Wr) (k:Nat) (h:k<l.length):(l.take (k+1)).flatMap tchC=(l.take k).flatMap tchC ++ [.int .i64 (l.getD k (0,0)).1,.float .f64 (l.getD k (0,0)).2]:=by
 rw [List.take_succ_eq_append_getElem h,List.flatMap_append,show l.getD k (0,0)=l[k] by simp [h]]
 simp [tchC]
theorem flat_pair (l:Wr):∀ k (h:k<l.length),(l.flatMap tchC)[k*2]?=some (.int .i64 l[k].1)∧(l.flatMap tchC)[k*2+1]?=some (.float .f64 l[k].2):=by
 induction l with
 | nil=>intro k h;exact absurd h (Nat.not_lt_zero k)
 | cons t l ih =>
  intro k h
  cases k with
  | zero=>simp [tchC]
  | succ k =>
   have:=ih k (by simpa using h)
   rw [List.flatMap_cons]
   have e:(k+1)*2=(tchC t).length+k*2:=by simp [tchC];omega
   rw [e,List.getElem?_append_right (by omega),Nat.add_assoc,List.getElem?_append_right (by omega)]
   simpa using this
structure TRow (w:World) (p:Option Addr) (c:Nat) (l:Wr):Prop where
 own:w.ownsRow 0 99 2 (.slice p l.length c) l.length (l.flatMap tchC)
theorem TRow.blw {w:World} {p:Option Addr} {c:Nat} {l:Wr} (h:TRow w p c l):Blw w (fpR p):=fun k hk=>(h.own.lt k (own_fpR.1 hk)).2
theorem TRow.keep {w w':World} {p:Option Addr} {c:Nat} {l:Wr} (h:TRow w p c l) (k:Kept (fpR p) w w'):TRow w' p c l:=by
 refine ⟨h.own.1,?_⟩
 rcases h.own.2 with q | ⟨g,cap,cur,hv,hb,hg,rest⟩
 ·exact .inl q
 ·refine .inr ⟨g,cap,cur,hv,hb,?_,rest⟩
  rw [k.2 g (own_fpR.2 (by rw [hv];rfl))]
  exact hg
theorem TRow.on {w w':World} {p:Option Addr} {c:Nat} {l:Wr} (h:TRow w p c l) (k:Below w.heap.size w w'):TRow w' p c l:=h.keep (kept_below k h.blw)
theorem TRow.at {w:World} {p:Option Addr} {c:Nat} {l:Wr} (h:TRow w p c l) (i:Nat) (hi:i<l.length):∃ g,p=some ⟨g,0,none⟩∧g<w.heap.size∧w.cell? ⟨g,i*2,none⟩=some (.int .i64 l[i].1)∧w.cell? ⟨g,i*2+1,none⟩=some (.float .f64 l[i].2)∧∀ j,w.frozen? ⟨g,j,none⟩=false:=by
 rcases h.own.2 with ⟨_,q⟩ | ⟨g,cap',cur,hv,hB,hg,_,_,_,ht⟩
 ·omega
 ·cases hv
  have e:∀ j,j<l.length*2→cur[j]?=(l.flatMap tchC)[j]?:=fun j hj=>by
   have h1:cur.toList[j]?=(cur.toList.take (l.length*2))[j]?:=by
    rw [List.getElem?_take,if_pos (by omega)]
   rw [ht] at h1
   simpa using h1
  have q:=flat_pair l i hi
  refine ⟨g,rfl,lt_of_block hg,?_,?_,fun j=>frozen_of_row w g j _ _ hg⟩
  ·rw [cell_of_row w g _ _ _ _ hg,e _ (by omega)];exact q.1
  ·rw [cell_of_row w g _ _ _ _ hg,e _ (by omega)];exact q.2
theorem owns_slice2 {B:Nat} {E:TypeId} {w:World} {v:Value} {n s:Nat} {xs:List Value} (h:w.ownsRow B E s v n xs):∃ p c,v=.slice p n c∧Abv B (fpR p):=by
 rcases h.2 with ⟨rfl,h0⟩ | ⟨g,cap,cur,rfl,hB,_⟩
 ·exact ⟨none,0,by rw [h0],fun k hk=>by simp [fpR] at hk⟩
 ·exact ⟨some ⟨g,0,none⟩,cap,rfl,fun k hk=>by simp [fpR] at hk;omega⟩
theorem owns_zero {B:Nat} {E:TypeId} {w:World} {v:Value} {n s:Nat} {xs:List Value} (h:w.ownsRow B E s v n xs):w.ownsRow 0 E s v n xs :=
 ⟨h.1,h.2.imp id (fun ⟨g,cap,cur,a1,_,a3⟩=>⟨g,cap,cur,a1,Nat.zero_le _,a3⟩)⟩
theorem owns_heap {B:Nat} {E:TypeId} {s:Nat} {w w':World} {v:Value} {n:Nat} {xs:List Value} (h:w.ownsRow B E s v n xs) (e:w'.heap=w.heap):w'.ownsRow B E s v n xs:=by
 refine ⟨h.1,?_⟩
 rcases h.2 with q | ⟨g,cap,cur,hv,hB,hg,rest⟩
 ·exact .inl q
 ·exact .inr ⟨g,cap,cur,hv,hB,by rw [e];exact hg,rest⟩
theorem cloneI_any {w:World} {p:Option Addr} {c n:Nat} {xs:List Value} (h:RowAt 3 w p c xs) (hn:xs.length=n) (h1:∀ u∈xs,u.oneCell'=true) (hz:n≤32):Calls Tryz.prog 80 #[.slice p n c] w fun e w'=>∃ p' c',e=.returned (.slice p' n c')∧RowAt 3 w' p' c' xs∧Abv w.heap.size (fpR p')∧Below w.heap.size w w':=by
 have ho:=h.own
 rcases ho.2 with ⟨hv,h0⟩ | ⟨g,cap,cur,hv,_,hg,_⟩
 ·have hx:xs=[]:=List.eq_nil_of_length_eq_zero h0
  subst hx
  cases hv
  have hn0:n=0:=by rw [← hn];rfl
  subst hn0
  have hq:=fun w=>Lib.run_eql_slice_nil (P:=Tryz.prog) w 86 3 none 0 0 0 0 Tryz.underlying86
  have HH:=Lib.hid h
  clear h h1 hn ho hz
  go_enter Tryz.func80,Tryz.ntmps80
  go_wp2
  go_ret
  exact ⟨_,_,rfl,HH.out,by intro k hk;simp [fpR] at hk,Below.refl _ _⟩
 ·cases hv
  rw [hn] at ho
  have hq:=fun w c=>Lib.run_eql_slice_nil (P:=Tryz.prog) w 86 3 (some ⟨g,0,none⟩) n c 0 0 Tryz.underlying86
  have HX:Hid (∀ j u,xs[j]?=some u→(w.alloc (.cells #[] 3)).cell? ((⟨g,0,none⟩:Addr).add j)=some u):=fun j u hj=>World.ownsRow.cells (ho.alloc _) (g:=g) rfl j u hj
  have H1:=Lib.hid (And.intro h1 (And.intro hn hz))
  have HO:Hid ((w.alloc (.cells #[] 3)).ownsRow w.heap.size 3 1 (.slice (some ⟨w.heap.size,0,none⟩) 0 0) 0 []):=World.ownsRow_lit w #[] 0 (Nat.le_refl _) (Nat.zero_le _) (by simp)
  obtain ⟨i0,hi,hz0,hz1,hz2⟩:=info_parts iInfo
  have HZI:=Lib.hid (And.intro hi (And.intro hz0 (And.intro hz1 hz2)))
  clear hi hz0 hz1 hz2 h h1 ho hg hz
  go_enter Tryz.func80,Tryz.ntmps80
  go_wp2_with (at_builtin;refine wpList_append_own_at _ rfl _ _ 86 rfl w.heap.size 3 i0 (.int .i64 0) 1 8 Tryz.underlying86 HZI.out.1 HZI.out.2.1 HZI.out.2.2.1 HZI.out.2.2.2 rfl (by decide) _ 0 [] rfl HO.out ⟨g,0,none⟩ n _ xs rfl (by rw [H1.out.2.1,Nat.mul_one]) HX.out H1.out.1 (by have:=H1.out.2.2;unfold maxLen;omega) (by have:=H1.out.2.2;omega) (by simp) ?_;intro v w3 hown hgrow hnil hloc;have HS:=Lib.hid (And.intro hown hgrow);clear hown hgrow hnil hloc)
  have ho3:=HS.out.1
  rw [List.nil_append,Nat.zero_add] at ho3
  obtain ⟨p',c',hv,hr,ha⟩:=ownsRow_based ho3
  subst hv
  have hb3:Below w.heap.size w w3:=(below_alloc w _).grown HS.out.2 (by simp) (fun j hj=>by
   have:=hj
   simp [Act.eval,Value.ownBlock] at this
   omega)
  have HF:=Lib.hid (And.intro hr (And.intro ha hb3))
  have hl:=H1.out.2.1
  rw [hl]
  clear ho3 hr ha hb3 HS H1
  go_wp2
  go_ret
  exact ⟨_,_,rfl,HF.out.1,HF.out.2.1,HF.out.2.2⟩
end Go.Proofs.YteinilmecnlanabGreatDoor
namespace Go.Proofs.YteinilmecnlanabGreatDoor
open Go.ChangeShapes Go.WideShapes Go.ChangeAt Go.RowKit Num Go.Maps
attribute [local go_sem] run_store_float frombits_run bits_run
theorem cloneM_any {w:World} {b:Nat} {l:Wr} (h:MapAt w b l):Calls Tryz.prog 79 #[.map (some b)] w fun e w'=>e=.returned (.map (some w.heap.size))∧MapAt w' w.heap.size l∧Below w.heap.size w w'∧w'.heap.size=w.heap.size+1:=by
 obtain ⟨w1,hrun,hm,hb,hs⟩:=h.copy 156
 have HF:=Lib.hid (And.intro hm (And.intro hb hs))
 have hq:=fun w=>run_eql_map_nil_sl (P:=Tryz.prog) w 156 _ _ (some b) Tryz.underlying156
 have hc:(callFunc 99 #[.iface 156 (.map (some b))]).run Tryz.prog w=.ok (.value (.iface 156 (.map (some w.heap.size)))) w1:=by
  rw [run_callFunc_extern (e:=Extern.MapsClone.clone) Tryz.func99 (by kernel_rfl) (by kernel_rfl) (by kernel_rfl) (by kernel_rfl),hrun]
  rfl
 have ha:=fun w v=>run_typeAssert_map_sl (P:=Tryz.prog) w 156 20 _ _ v Tryz.underlying156
 clear hm hb hs hrun h
 go_enter Tryz.func79,Tryz.ntmps79
 go_wp2
 go_ret
 exact ⟨rfl,HF.out.1,HF.out.2.1,HF.out.2.2⟩
theorem one_cells (l:Wr):∀ u∈i64s (cellsOfL l),u.oneCell'=true:=fun u hu=>by
 unfold i64s at hu
 obtain ⟨x,_,rfl⟩:=List.mem_map.1 hu
 rfl
section
variable {w:World} {b:Nat} {F:List Nat} {m:Int} {l:Wr}
theorem buf_about {w1 w2:World} {c B bm:Nat} {p:Option Addr} (h:Buf w b F m l) (hm:MapAt w1 bm l) (hr:RowAt 3 w1 p c (i64s (cellsOfL l))) (hn:bm∉fpR p) (ha:Abv B (fpR p)) (hB:B≤bm) (h2:w2.heap=(w1.alloc (.cells #[.int .i64 m,.map (some bm),.slice p l.length c] 158)).heap) :
  Buf w2 w1.heap.size (w1.heap.size::bm::fpR p) m l∧Abv B (w1.heap.size::bm::fpR p):=by
 have hlt:=hm.lt
 refine ⟨⟨bm,p,c,⟨by rw [h2];exact heap_alloc_new _ _,hr.keep ⟨by rw [h2];simp,fun k hk=>by rw [h2];exact Below.heap_alloc _ _ _ (hr.blw k hk)⟩,hm.keep (by rw [h2];exact Below.heap_alloc _ _ _ hlt),fun q=>absurd (hr.blw _ q) (Nat.lt_irrefl _),hn,by omega,h.few.1,h.few.2,h.nod,h.wfs⟩,rfl⟩,fun k hk=>?_⟩
 rcases List.mem_cons.1 hk with rfl | q
 ·omega
 ·rcases List.mem_cons.1 q with rfl | q
  ·exact hB
  ·exact ha k q
theorem clone_any (h:Buf w b F m l):Calls Tryz.prog 57 #[.pointer (some ⟨b,0,none⟩)] w fun e w'=>∃ nb F',e=.returned (.pointer (some ⟨nb,0,none⟩))∧Buf w' nb F' m l∧Abv w.heap.size F'∧Below w.heap.size w w':=by
 have HB:=Lib.hid h
 obtain ⟨bm,p,c,hs,rfl⟩:=h
 have h0:=hs.cell0
 have h1:=hs.cell1
 have h2:=hs.cell2
 have hb:=hs.ltB
 have HBX:Hid (∀ w1,Below w.heap.size w w1→w1.cell? ⟨b,0,none⟩=some (.int .i64 m)∧w1.cell? ⟨b,1,none⟩=some (.map (some bm))∧w1.cell? ⟨b,2,none⟩=some (.slice p l.length c)∧b<w1.heap.size):=fun w1 k=>by
  have:=hs.keep (kept_below k hs.blw)
  exact ⟨this.cell0,this.cell1,this.cell2,this.ltB⟩
 have HM:Hid (∀ k,Calls Tryz.prog 79 #[.map (some bm)] (w.drewN k) fun e w'=>e=.returned (.map (some w.heap.size))∧MapAt w' w.heap.size l∧Below w.heap.size w w'∧w'.heap.size=w.heap.size+1):=fun k=>(cloneM_any (hs.same (Same.drewN w k)).map).mono fun e w' ⟨a1,a2,a3,a4⟩=>⟨a1,a2,((Same.drewN w k).below _).trans a3,a4⟩
 have HR:Hid (∀ w1,Below w.heap.size w w1→Calls Tryz.prog 80 #[.slice p l.length c] w1 fun e w'=>∃ p' c',e=.returned (.slice p' l.length c')∧RowAt 3 w' p' c' (i64s (cellsOfL l))∧Abv w1.heap.size (fpR p')∧Below w1.heap.size w1 w'):=fun w1 k=>cloneI_any (hs.row.on k) (by rw [i64s_len,cells_len]) (one_cells l) (by have:=hs.fits;have:=hs.most;omega)
 clear hs
 go_enter Tryz.func57,Tryz.ntmps57
 go_wp2
 go_region_held (fun w'=>w'.cell? ⟨b,0,none⟩=some (.int .i64 m)∧w'.cell? ⟨b,1,none⟩=some (.map (some bm))∧w'.cell? ⟨b,2,none⟩=some (.slice p l.length c)) (go_keep) (first
  | (go_at_call 79;refine (HM.out 1).mono ?_;rintro e w1 ⟨rfl,hm,hbb,hsz⟩;obtain ⟨q0,q1,q2,q3⟩:=HBX.out w1 hbb;have HM1:=Lib.hid hm;have HB1:=Lib.hid hbb;have HS1:=Lib.hid hsz;clear hm hbb hsz)
  | (go_at_call 80;refine (HR.out _ HB1.out).mono ?_;rintro e w2 ⟨p',c',rfl,hr,ha,hbb⟩;obtain ⟨r0,r1,r2,r3⟩:=HBX.out w2 (below_chain HB1.out hbb);have HR2:=Lib.hid (And.intro hr (And.intro ha hbb));clear hr ha hbb))
 go_wp2
 go_ret
 have hs1:=HS1.out
 have hm2:MapAt w2 w.heap.size l:=HM1.out.keep (HR2.out.2.2.block _ (by omega))
 have q:=buf_about (w2:=w2.alloc (.cells #[.int .i64 m,.map (some w.heap.size),.slice p' l.length c'] 158)) (B:=w.heap.size) HB.out hm2 HR2.out.1 (fun z=>by have:=HR2.out.2.1 _ z;omega) (HR2.out.2.1.mono (by omega)) (Nat.le_refl _) rfl
 have hb2:=below_chain HB1.out HR2.out.2.2
 exact ⟨_,_,rfl,q.1,q.2,hb2.alloc hb2.size _⟩
theorem row_step {cur:Array Value} {k n:Nat} {l:Wr} (hs:cur.size=n*2) (ht:cur.toList.take (k*2)=(l.take k).flatMap tchC) (hk:k<n) (hn:l.length=n):((cur.setIfInBounds (k*2) (.int .i64 (l.getD k (0,0)).1)).setIfInBounds (k*2+1) (.float .f64 (l.getD k (0,0)).2)).toList.take ((k+1)*2)=(l.take (k+1)).flatMap tchC:=by
 rw [take_tch l k (by omega),← ht]
 rw [Array.toList_setIfInBounds,Array.toList_setIfInBounds]
 have hl:cur.toList.length=n*2:=by simpa using hs
 generalize cur.toList=t at hl
 apply List.ext_getElem?
 intro j
 have e2:(t.take (k*2)).length=k*2:=by simp;omega
 rw [List.getElem?_take]
 by_cases h1:j<k*2
 ·rw [if_pos (by omega),List.getElem?_set_ne (by omega),List.getElem?_set_ne (by omega),List.getElem?_append_left (by omega),List.getElem?_take,if_pos h1]
 ·rw [List.getElem?_append_right (by omega),e2]
  by_cases h2:j=k*2
  ·subst h2
   rw [if_pos (by omega),List.getElem?_set_ne (by omega),List.getElem?_set_self (by omega)]
   simp
  ·by_cases h3:j=k*2+1
   ·subst h3
    rw [if_pos (by omega),List.getElem?_set_self (by simp;omega)]
    simp
   ·rw [if_neg (by omega)]
    symm
    rw [List.getElem?_eq_none (by simp;omega)]
theorem tMake (n:Nat) (hn:n≤32):∃ cur:Array Value,cur.size=n*2∧∀ w:World,(Instr.makeSlice 55 (.int .i64 (n:Int)) (.int .i64 (n:Int))).run Tryz.prog w=.ok (.slice (some ⟨w.heap.size,0,none⟩) n n) (w.alloc (.cells cur 99)):=by
 obtain ⟨i,hi,hz0,hz1,hz2⟩:=info_parts tInfo
 refine ⟨madeCells (Value.agg #[.int .i64 0,.float .f64 0]).cells (n*2),size_madeCells _ _,fun w=>?_⟩
 rw [run_make w 55 99 i _ Tryz.underlying55 hi hz0 .i64 .i64 n n (by omega) (Int.le_refl _) (by rw [hz2];omega) (by omega),hz1,Int.toNat_natCast]
theorem row_two {w:World} {g n k:Nat} {cur:Array Value} {T:TypeId} (h:w.heap[g]?=some (.cells cur T (0,0))) (hs:cur.size=n*2) (hk:k<n):∃ u v,w.cell? ⟨g,k*2,none⟩=some u∧w.cell? ⟨g,k*2+1,none⟩=some v∧w.frozen? ⟨g,k*2,none⟩=false∧w.frozen? ⟨g,k*2+1,none⟩=false:=by
 refine ⟨cur[k*2]'(by omega),cur[k*2+1]'(by omega),?_,?_,frozen_of_row w g _ _ _ h,frozen_of_row w g _ _ _ h⟩
 ·rw [cell_of_row w g _ _ _ _ h];simp [show k*2<cur.size by omega]
 ·rw [cell_of_row w g _ _ _ _ h];simp [show k*2+1<cur.size by omega]
theorem all_any' (h:Buf w b F m l) {n:Nat} (hn:l.length=n):Calls Tryz.prog 60 #[.pointer (some ⟨b,0,none⟩)] w fun e w'=>e=.returned (.slice (some ⟨w.heap.size,0,none⟩) n n)∧TRow w' (some ⟨w.heap.size,0,none⟩) n l∧Below w.heap.size w w':=by
 have hn32:n≤32:=by have:=h.few;omega
 obtain ⟨cur0,hc0,hmk⟩:=tMake n hn32
 have HB:=Lib.hid h
 obtain ⟨bm,p,c,hs,rfl⟩:=h
 have h1:=hs.cell1
 have h2:=hs.cell2
 rw [hn] at h2
 have hb:=hs.ltB
 have HC:Hid (∀ wr,Below w.heap.size w wr→∀ k,k<n→∃ g,p=some ⟨g,0,none⟩∧g<wr.heap.size∧wr.cell? ⟨g,k,none⟩=some (.int .i64 (l.getD k (0,0)).1)∧wr.cell? ⟨b,1,none⟩=some (.map (some bm))∧b<wr.heap.size∧(Instr.lookup 156 (.map (some bm)) (.int .i64 (l.getD k (0,0)).1) false).run Tryz.prog wr=.ok (.float .f64 (l.getD k (0,0)).2) wr):=fun wr hbw k hk=>by
  have hw:=hs.keep (kept_below hbw hs.blw)
  have hkl:k<l.length:=by omega
  have e:l.getD k (0,0)=l[k]:=by simp [hkl]
  rw [e]
  have ho:=hw.row.own
  rw [i64s_len,cells_len] at ho
  rcases ho.2 with ⟨_,q⟩ | ⟨g,cap,cur,hv,_,hg,_⟩
  ·omega
  ·cases hv
   refine ⟨g,rfl,lt_of_block hg,?_,hw.cell1,hw.ltB,?_⟩
   ·rw [ho.cellAt k (by omega)]
    simp [i64s,cellsOfL,hkl]
   ·have:=hw.map.look1 (c:=l[k].1) (hw.wfs _ (List.getElem_mem hkl))
    rw [getC_of hw.nod hkl] at this
    exact this
 have HN:Hid (l.length=n):=hn
 clear hs hn
 have HC0:=Lib.hid hc0
 clear hc0
 go_enter Tryz.func60,Tryz.ntmps60
 go_wp2
 go_loopw [17] (fun vi wr=>∃ (k:Nat) (cur:Array Value),vi=.int .i64 k∧k≤n∧Hid (wr.heap[w.heap.size]?=some (.cells cur 99 (0,0)))∧Hid (cur.size=n*2)∧Hid (cur.toList.take (k*2)=(l.take k).flatMap tchC)∧Hid (Below w.heap.size w wr)) (fun vi _=>n - (intOf vi).toNat)
 case atStart=>exact ⟨0,cur0,rfl,Nat.zero_le _,heap_alloc_new _ _,HC0,by show _=_;simp,below_alloc _ _⟩
 case round =>
  obtain ⟨k,cur,rfl,hk,HG,HS,HT,HBL⟩:=hrel
  by_cases hlt:k<n
  ·have hlt':(k:Int)<(n:Int):=by omega
   obtain ⟨g,hpg,hg,hx,hbm,hbw,hlk⟩:=HC.out _ HBL.out k hlt
   subst hpg
   obtain ⟨u,v,k0,k1,f0,f1⟩:=row_two HG.out HS.out hlt
   have hgg:w.heap.size<wr.heap.size:=lt_of_block HG.out
   have HF:Hid (((cur.setIfInBounds (k*2) (.int .i64 (l.getD k (0,0)).1)).setIfInBounds (k*2+1) (.float .f64 (l.getD k (0,0)).2)).toList.take ((k+1)*2)=(l.take (k+1)).flatMap tchC):=row_step HS.out HT.out hlt HN.out
   generalize (l.getD k (0,0)).1=x at hx hlk HF
   generalize (l.getD k (0,0)).2=y at hlk HF
   have HG2:Hid (((wr.setCell ⟨w.heap.size,k*2,none⟩ (.int .i64 x)).setCell ⟨w.heap.size,k*2+1,none⟩ (.float .f64 y)).heap[w.heap.size]?=some (.cells ((cur.setIfInBounds (k*2) (.int .i64 x)).setIfInBounds (k*2+1) (.float .f64 y)) 99 (0,0))):=heap_setCell_same _ _ _ _ _ _ (heap_setCell_same _ _ _ _ _ _ HG.out)
   have HB2:Hid (Below w.heap.size w ((wr.setCell ⟨w.heap.size,k*2,none⟩ (.int .i64 x)).setCell ⟨w.heap.size,k*2+1,none⟩ (.float .f64 y))):=HBL.out.trans ⟨rfl,rfl,rfl,by simp,fun j hj=>by rw [heap_setCell_other _ _ _ _ (by simp;omega),heap_setCell_other _ _ _ _ (by simp;omega)]⟩
   clear HC
   go_wp2
   exact ⟨⟨k+1,_,by first | rfl | (congr 1),by omega,HG2,by show _=_;simp;exact HS.out,HF,HB2⟩,by simp [intOf];omega⟩
  ·have hlt':¬ (k:Int)<(n:Int):=by omega
   have e:k=n:=by omega
   subst e
   have hT:=HT.out
   rw [← HN.out,List.take_length,HN.out] at hT
   have HF:Hid (TRow wr (some ⟨w.heap.size,0,none⟩) k l):=⟨⟨by rw [tch_len],.inr ⟨w.heap.size,k,cur,rfl,Nat.zero_le _,HG.out,by rw [HN.out];exact Nat.le_refl _,by unfold maxLen;omega,by rw [HS.out],by rw [HN.out];exact hT⟩⟩⟩
   clear hT HC hlt
   go_wp2
   go_ret
   exact ⟨rfl,HF.out,HBL.out⟩
theorem all_any (h:Buf w b F m l):Calls Tryz.prog 60 #[.pointer (some ⟨b,0,none⟩)] w fun e w'=>e=.returned (.slice (some ⟨w.heap.size,0,none⟩) l.length l.length)∧TRow w' (some ⟨w.heap.size,0,none⟩) l.length l∧Below w.heap.size w w':=all_any' h rfl
end
end Go.Proofs.YteinilmecnlanabGreatDoor
namespace Go.Proofs.YteinilmecnlanabGreatDoor
open Go.ChangeShapes Go.WideShapes Go.ChangeAt Go.RowKit Num
def okN (x:Nat):Prop:=fixB x=x∧x<18446744073709551616
theorem fixB_idem (x:Nat):fixB (fixB x)=fixB x:=by
 unfold fixB
 by_cases h:nan x=true
 ·rw [if_pos h,if_pos (by decide)]
 ·rw [if_neg h,if_neg h]
theorem okN_fix {x:Nat} (h:x<18446744073709551616):okN (fixB x):=⟨fixB_idem x,fixB_lt h⟩
theorem okN_zero:okN 0:=⟨by decide,by decide⟩
theorem okN_nan:okN 9221120237041090560:=⟨by decide,by decide⟩
theorem okN_yes (c:Bool):okN (yesB c):=by cases c <;> exact ⟨by decide,by decide⟩
theorem okN_res {o:Option Nat} (h:∀ r,o=some r→r<18446744073709551616):okN (resV o):=by
 cases o with
 | none=>exact okN_nan
 | some r=>exact okN_fix (h r rfl)
theorem wf_lt {b:Nat} (h:(Lit.float .f64 b).wf=true):b<18446744073709551616:=by simpa [Lit.wf] using h
def oneV (op:Int) (x:Nat):Nat:=([0,fixB (fixB x ^^^ 9223372036854775808),fixB (fixB x &&& 9223372036854775807),floorV x,rootV x,yesB (!trueB x),yesB (nan x),signB x,fixB (floatOfInt .f64 (hashI (fixB x)))].getD op.toNat 0)
def twoV (op:Int) (a b:Nat):Nat:=([0,resV (floatBits .add .f64 a b),resV (floatBits .sub .f64 a b),resV (floatBits .mul .f64 a b),resV (floatBits .quo .f64 a b),modV a b,minV a b,maxV a b,yesB (FloatKind.f64.format.order a b == some .lt),yesB (FloatKind.f64.format.order a b == some .lt || FloatKind.f64.format.order a b == some .eq),yesB (FloatKind.f64.format.order a b == some .eq),yesB (fixB a == fixB b),yesB (decide (cmpB a b<0))].getD op.toNat 0)
theorem getD_all {P:Nat→Prop} (d:Nat) (hd:P d):∀ (l:List Nat),(∀ x∈l,P x)→∀ k,P (l.getD k d)
 | [],_,_=>by simpa using hd
 | a::l,h,0=>h a (by simp)
 | a::l,h,k+1=>by
  have:=getD_all d hd l (fun x hx=>h x (by simp [hx])) k
  simpa using this
theorem floatInt_lt (n:Int):floatOfInt .f64 n<18446744073709551616:=wf_lt (floatOfInt_wf .f64 n)
theorem okN_floor (x:Nat):okN (floorV x):=by
 unfold floorV
 split
 ·exact okN_nan
 ·exact okN_fix (wf_lt (encode_wf .f64 _))
theorem okN_one {x:Nat} (op:Int) (h:okN x):okN (oneV op x):=by
 refine getD_all 0 okN_zero _ (fun y hy=>?_) _
 simp only [List.mem_cons,List.not_mem_nil,or_false] at hy
 rcases hy with rfl | rfl | rfl | rfl | rfl | rfl | rfl | rfl | rfl
 ·exact okN_zero
 ·exact okN_fix (Nat.xor_lt_two_pow (n:=64) (fixB_lt h.2) (by decide))
 ·exact okN_fix (Nat.lt_of_le_of_lt Nat.and_le_left (fixB_lt h.2))
 ·exact okN_floor x
 ·exact okN_res fun r hr=>FloatKind.f64.format.sqrt_lt hr
 ·exact okN_yes _
 ·exact okN_yes _
 ·unfold signB
  split
  ·exact okN_nan
  ·split
   ·exact ⟨by decide,by decide⟩
   ·split
    ·exact ⟨by decide,by decide⟩
    ·exact h
 ·exact okN_fix (floatInt_lt _)
theorem okN_two {x y:Nat} (op:Int) (hx:okN x) (hy:okN y):okN (twoV op x y):=by
 refine getD_all 0 okN_zero _ (fun z hz=>?_) _
 simp only [List.mem_cons,List.not_mem_nil,or_false] at hz
 rcases hz with rfl | rfl | rfl | rfl | rfl | rfl | rfl | rfl | rfl | rfl | rfl | rfl | rfl
 ·exact okN_zero
 ·exact okN_res fun r hr=>wf_lt (floatBits_wf hr)
 ·exact okN_res fun r hr=>wf_lt (floatBits_wf hr)
 ·exact okN_res fun r hr=>wf_lt (floatBits_wf hr)
 ·exact okN_res fun r hr=>wf_lt (floatBits_wf hr)
 ·unfold modV
  split
  ·exact okN_fix (floatInt_lt _)
  ·exact okN_nan
 ·unfold minV
  split
  ·exact okN_nan
  ·split
   ·exact hy
   ·exact hx
 ·unfold maxV
  split
  ·exact okN_nan
  ·split
   ·exact hy
   ·exact hx
 ·exact okN_yes _
 ·exact okN_yes _
 ·exact okN_yes _
 ·exact okN_yes _
 ·exact okN_yes _
structure Mac where
 cells:Int
 fuel:Int
 wmax:Int
 upd:Bool
 code:List Ins
 args:Nat→Nat
 loc:Nat→Nat
 st:List Nat
 calls:List Int
 place:Int
 used:Int
 out:List Nat
 reads:Wr
 buf:Wr
 wait:Int
 how:Int
 cod:Int
 err:Int
structure Ask where
 kind:Int
 cell:Int
 x:Nat
 first:Bool
def ask0:Ask:=⟨0,0,0,false⟩
def askEnd:Ask:=⟨4,0,0,false⟩
def askRead (c:Int):Ask:=⟨1,c,0,false⟩
def failM (m:Mac) (e:Int):Mac × Ask:=({ m with how:=3,cod:=0,err:=e },askEnd)
def updF (f:Nat→Nat) (n x:Nat):Nat→Nat:=fun k=>if k=n then x else f k
def takesI (i:Ins):Int:=(shp i.op.toNat).takes
def laysI (i:Ins):Int:=(shp i.op.toNat).lays
def leastI (i:Ins):Int:=if i.op=5 then i.n+1 else takesI i
def roomB (m:Mac) (i:Ins):Bool:=decide (leastI i≤(m.st.length:Int)) && decide ((m.st.length:Int) - takesI i+laysI i≤64) && !(decide (i.op=14) && decide (16≤m.calls.length))
def addrB (m:Mac):Bool:=idxB (m.st.getD 0 0) m.cells
def addrV (m:Mac):Int:=idxV (m.st.getD 0 0) m.cells
def hasRead (m:Mac) (c:Int) (x:Nat):Mac:={ m with reads:=m.reads ++ [(c,x)],st:=x::m.st }
def readM (m:Mac):Mac × Ask :=
 if addrB m then
  if hasC m.buf (addrV m) then (hasRead { m with st:=m.st.drop 1 } (addrV m) (getC m.buf (addrV m)),⟨2,addrV m,getC m.buf (addrV m),false⟩)
  else ({ m with st:=m.st.drop 1,wait:=addrV m },askRead (addrV m))
 else failM m 50
def writeM (m:Mac):Mac × Ask :=
 if m.upd then
  if addrB m then
   if mayP m.wmax m.buf (addrV m) then ({ m with st:=m.st.drop 2,buf:=putC m.buf (addrV m) (m.st.getD 1 0) },⟨3,addrV m,m.st.getD 1 0,!hasC m.buf (addrV m)⟩)
   else failM m 70
  else failM m 50
 else failM m 81
def retM (m:Mac):Mac × Ask:=match m.calls with
 | []=>({ m with how:=1,cod:=0,err:=0 },askEnd)
 | c::r=>({ m with calls:=r,place:=c },ask0)
def doT:List (Mac→Ins→Mac × Ask):=[
 fun m _=>(m,ask0),
 fun m i=>({ m with st:=fixB i.x::m.st },ask0),
 fun m _=>({ m with st:=m.st.drop 1 },ask0),
 fun m _=>({ m with st:=m.st.getD 0 0::m.st },ask0),
 fun m _=>({ m with st:=m.st.getD 1 0::m.st.getD 0 0::m.st.drop 2 },ask0),
 fun m i=>({ m with st:=m.st.getD i.n.toNat 0::m.st },ask0),
 fun m i=>({ m with st:=m.args i.n.toNat::m.st },ask0),
 fun m i=>({ m with st:=m.loc i.n.toNat::m.st },ask0),
 fun m i=>({ m with loc:=updF m.loc i.n.toNat (m.st.getD 0 0),st:=m.st.drop 1 },ask0),
 fun m i=>({ m with st:=oneV i.n (m.st.getD 0 0)::m.st.drop 1 },ask0),
 fun m i=>({ m with st:=twoV i.n (m.st.getD 1 0) (m.st.getD 0 0)::m.st.drop 2 },ask0),
 fun m i=>({ m with place:=i.n },ask0),
 fun m i=>({ m with place:=if trueB (m.st.getD 0 0) then i.n else m.place,st:=m.st.drop 1 },ask0),
 fun m i=>({ m with place:=if trueB (m.st.getD 0 0) then m.place else i.n,st:=m.st.drop 1 },ask0),
 fun m i=>({ m with calls:=m.place::m.calls,place:=i.n },ask0),
 fun m _=>retM m,
 fun m _=>readM m,
 fun m _=>writeM m,
 fun m _=>({ m with out:=m.out ++ [m.st.getD 0 0],st:=m.st.drop 1 },ask0),
 fun m i=>({ m with how:=2,cod:=i.n,err:=0 },askEnd),
 fun m _=>({ m with how:=1,cod:=0,err:=0 },askEnd)]
def doM (m:Mac) (i:Ins):Mac × Ask:=(doT.getD i.op.toNat (fun m _=>(m,ask0))) m i
def begM (m:Mac):Mac:={ m with used:=m.used+1,place:=m.place+1 }
def insM (m:Mac):Ins:=ci m.code m.place.toNat
def stepM (m:Mac):Mac × Ask :=
 if 0≤m.wait then (m,askRead m.wait)
 else if m.how=0 then
  if m.used<m.fuel then
   if m.place<(m.code.length:Int) then
    if roomB (begM m) (insM m) then doM (begM m) (insM m) else failM (begM m) 82
   else failM m 50
  else failM m 80
 else (m,askEnd)
def giveM (m:Mac) (x:Nat):Mac:=if 0≤m.wait then hasRead { m with wait:=-1 } m.wait (fixB x) else m
def giveE (m:Mac):Int:=if 0≤m.wait then 0 else 3
structure Inv (m:Mac):Prop where
 cells:1≤m.cells∧m.cells≤256
 fuel:1≤m.fuel∧m.fuel≤1024
 wmax:1≤m.wmax∧m.wmax≤32
 len:m.code.length≤1024
 may:∀ k,k<m.code.length→mayB (ci m.code k) m.code.length=true∧(ci m.code k).x<18446744073709551616
 args:∀ k,okN (m.args k)
 loc:∀ k,okN (m.loc k)
 st:∀ x∈m.st,okN x
 high:(m.st.length:Int)+(if 0≤m.wait then 1 else 0)≤64
 calls:∀ c∈m.calls,0≤c∧c≤(m.code.length:Int)
 deep:m.calls.length≤16
 place:0≤m.place∧m.place≤(m.code.length:Int)
 used:0≤m.used∧m.used≤m.fuel
 out:(m.out.length:Int)≤m.used
 reads:(m.reads.length:Int)+(if 0≤m.wait then 1 else 0)≤m.used
 buf:∀ t∈m.buf,okN t.2
 few:(m.buf.length:Int)≤m.wmax
 wait:-1≤m.wait∧m.wait<m.cells
 how:0≤m.how∧m.how≤3
 none:m.upd=false→m.buf=[]
 fail:m.how=3 ↔ m.err≠0
 full:m.err=80→m.used=m.fuel
 idle:m.code=[]→m.used=0
end Go.Proofs.YteinilmecnlanabGreatDoor
namespace Go.Proofs.YteinilmecnlanabGreatDoor
open Go.ChangeShapes Go.WideShapes Go.ChangeAt Go.RowKit Num
def Apart (L:List (List Nat)):Prop:=∀ i j,i≠j→Sep (L.getD i []) (L.getD j [])
theorem getD_set {L:List (List Nat)} {i:Nat} (hi:i<L.length) (F:List Nat) (j:Nat):(L.set i F).getD j []=if j=i then F else L.getD j []:=by
 rw [List.getD_eq_getElem?_getD,List.getD_eq_getElem?_getD,List.getElem?_set]
 by_cases h:i=j
 ·subst h
  simp [hi]
 ·rw [if_neg h,if_neg (fun q=>h q.symm)]
theorem Apart.turn {L:List (List Nat)} {i:Nat} {F:List Nat} {w w':World} (h:Apart L) (hb:∀ j,Blw w (L.getD j [])) (hi:i<L.length) (k:Turn (L.getD i []) F w w'):Apart (L.set i F):=by
 intro a b hab
 rw [getD_set hi,getD_set hi]
 by_cases h1:a=i
 ·by_cases h2:b=i
  ·exact absurd (h1.trans h2.symm) hab
  ·rw [if_pos h1,if_neg h2]
   exact ((h b i h2).turn (hb b) k).symm
 ·rw [if_neg h1]
  by_cases h2:b=i
  ·rw [if_pos h2]
   exact (h a i h1).turn (hb a) k
  ·rw [if_neg h2]
   exact h a b hab
theorem getD_mem {L:List (List Nat)} {i:Nat} {x:Nat} (h:x∈L.getD i []):x∈L.flatten:=by
 rw [List.getD_eq_getElem?_getD] at h
 cases hl:L[i]? with
 | none=>rw [hl] at h;simp at h
 | some l =>
  rw [hl] at h
  exact List.mem_flatten.2 ⟨l,List.mem_of_getElem? hl,h⟩
theorem Turn.part {L:List (List Nat)} {i:Nat} {F:List Nat} {w w':World} (k:Turn (L.getD i []) F w w'):Turn L.flatten (L.set i F).flatten w w' :=
 ⟨k.os,k.tape,k.output,k.size,fun x hx hn=>k.block x hx (fun q=>hn (getD_mem q)),fun x hx=>by
  obtain ⟨l,hl,hxl⟩:=List.mem_flatten.1 hx
  rcases List.mem_or_eq_of_mem_set hl with q | q
  ·exact .inl (List.mem_flatten.2 ⟨l,q,hxl⟩)
  ·subst q
   exact (k.own x hxl).imp getD_mem id⟩
theorem turn_set (w:World) (b j:Nat) (v:Value):Turn [b] [b] w (w.setCell ⟨b,j,none⟩ v):=⟨rfl,rfl,rfl,by simp,fun k _ hn=>heap_setCell_other _ _ _ _ (by simpa using hn),fun _ h=>.inl h⟩
structure Pt where
 pk:Option Addr
 ck:Nat
 bn:Nat
 bc:Nat
 bw:Nat
 Fn:List Nat
 Fc:List Nat
 Fw:List Nat
 po:Option Addr
 co:Nat
 pr:Option Addr
 cr:Nat
 wt:Int
def Pt.own (p:Pt) (b:Nat):List (List Nat):=[[b],p.Fn,p.Fc,p.Fw,fpR p.po,fpR p.pr]
def Pt.L (p:Pt) (b:Nat):List (List Nat):=[[b],p.Fn,p.Fc,p.Fw,fpR p.po,fpR p.pr,fpR p.pk]
def Pt.F (p:Pt) (b:Nat):List Nat:=(p.own b).flatten
def boxV (m:Mac) (p:Pt):Array Value:=#[.int .i64 m.cells,.int .i64 m.fuel,.bool m.upd,.slice p.pk m.code.length p.ck,
 .float .f64 (m.args 0),.float .f64 (m.args 1),.float .f64 (m.args 2),.float .f64 (m.args 3),.float .f64 (m.args 4),.float .f64 (m.args 5),.float .f64 (m.args 6),.float .f64 (m.args 7),
 .float .f64 (m.loc 0),.float .f64 (m.loc 1),.float .f64 (m.loc 2),.float .f64 (m.loc 3),.float .f64 (m.loc 4),.float .f64 (m.loc 5),.float .f64 (m.loc 6),.float .f64 (m.loc 7),
 .pointer (some ⟨p.bn,0,none⟩),.pointer (some ⟨p.bc,0,none⟩),.int .i64 m.place,.int .i64 m.used,.slice p.po m.out.length p.co,.slice p.pr m.reads.length p.cr,.pointer (some ⟨p.bw,0,none⟩),
 .bool (decide (0≤m.wait)),.int .i64 p.wt,.int .i64 m.how,.int .i64 m.cod,.int .i64 m.err]
abbrev NStk (w:World) (b:Nat) (F:List Nat) (l:List Nat):Prop:=Stk 152 64 w b F (fls l) 64
abbrev CStk (w:World) (b:Nat) (F:List Nat) (l:List Int):Prop:=Stk 155 3 w b F (i64s l) 16
theorem CodeAt.keep {w w':World} {ao:Option Addr} {c:List Ins} (h:CodeAt w ao c) (k:Kept (fpR ao) w w'):CodeAt w' ao c:=fun i hi=>by
 obtain ⟨b,off,e,hlt,c0,c1,c2⟩:=h i hi
 have hb:w'.heap[b]?=w.heap[b]?:=k.2 b (mem_fpR.2 ⟨_,e,rfl⟩)
 exact ⟨b,off,e,Nat.lt_of_lt_of_le hlt k.1,(World.cell?_of_block (a:=⟨b,off+i*3,none⟩) hb).trans c0,(World.cell?_of_block (a:=⟨b,off+i*3+1,none⟩) hb).trans c1,(World.cell?_of_block (a:=⟨b,off+i*3+2,none⟩) hb).trans c2⟩
structure MacAt (w:World) (b:Nat) (m:Mac) (p:Pt):Prop where
 box:w.heap[b]?=some (.cells (boxV m p) 120 (0,0))
 num:NStk w p.bn p.Fn m.st.reverse
 cal:CStk w p.bc p.Fc m.calls.reverse
 wri:Buf w p.bw p.Fw m.wmax m.buf
 out:RowAt 64 w p.po p.co (fls m.out)
 rds:TRow w p.pr p.cr m.reads
 cod:CodeAt w p.pk m.code
 ltk:Blw w (fpR p.pk)
 wt:0≤m.wait→p.wt=m.wait
 apart:Apart (p.L b)
section
variable {w w':World} {b:Nat} {m:Mac} {p:Pt}
theorem MacAt.ltB (h:MacAt w b m p):b<w.heap.size:=lt_of_block h.box
theorem MacAt.blws (h:MacAt w b m p):∀ j,Blw w ((p.L b).getD j []):=fun j=>by
 match j with
 | 0=>exact fun k hk=>by rw [show k=b by simpa [Pt.L] using hk];exact h.ltB
 | 1=>exact h.num.blw
 | 2=>exact h.cal.blw
 | 3=>exact h.wri.blw
 | 4=>exact h.out.blw
 | 5=>exact h.rds.blw
 | 6=>exact h.ltk
 | n+7=>intro k hk;simp [Pt.L] at hk
theorem own_in {x j:Nat} (hj:j<6) (h:x∈(p.L b).getD j []):x∈p.F b:=by
 have e:(p.L b).getD j []=(p.own b).getD j []:=by
  match j,hj with
  | 0,_=>rfl
  | 1,_=>rfl
  | 2,_=>rfl
  | 3,_=>rfl
  | 4,_=>rfl
  | 5,_=>rfl
 rw [e] at h
 exact getD_mem h
theorem in_own {x:Nat} (h:x∈p.F b):∃ j,j<6∧x∈(p.L b).getD j []:=by
 simp only [Pt.F,Pt.own,List.flatten_cons,List.flatten_nil,List.mem_append,List.append_nil] at h
 rcases h with h | h | h | h | h | h
 ·exact ⟨0,by omega,h⟩
 ·exact ⟨1,by omega,h⟩
 ·exact ⟨2,by omega,h⟩
 ·exact ⟨3,by omega,h⟩
 ·exact ⟨4,by omega,h⟩
 ·exact ⟨5,by omega,h⟩
theorem MacAt.blw (h:MacAt w b m p):Blw w (p.F b):=fun k hk=>by
 obtain ⟨j,_,hj⟩:=in_own hk
 exact h.blws j k hj
theorem MacAt.sepK (h:MacAt w b m p):Sep (fpR p.pk) (p.F b):=fun k hk q=>by
 obtain ⟨j,hj,hq⟩:=in_own q
 exact h.apart 6 j (by omega) k hk hq
theorem MacAt.keep (h:MacAt w b m p) (k:Kept (p.F b) w w') (k2:Kept (fpR p.pk) w w'):MacAt w' b m p:=by
 have kk:∀ j,j<6→Kept ((p.L b).getD j []) w w':=fun j hj=>⟨k.1,fun i hi=>k.2 i (own_in hj hi)⟩
 exact ⟨((kk 0 (by omega)).2 b (by simp [Pt.L])).trans h.box,h.num.keep (kk 1 (by omega)),h.cal.keep (kk 2 (by omega)),h.wri.keep (kk 3 (by omega)),h.out.keep (kk 4 (by omega)),h.rds.keep (kk 5 (by omega)),h.cod.keep k2,fun x hx=>Nat.lt_of_lt_of_le (h.ltk x hx) k2.1,h.wt,h.apart⟩
theorem MacAt.same (h:MacAt w b m p) (k:Same w w'):MacAt w' b m p:=h.keep (k.kept _) (k.kept _)
theorem MacAt.on (h:MacAt w b m p) (k:Below w.heap.size w w'):MacAt w' b m p:=h.keep (kept_below k h.blw) (kept_below k h.ltk)
theorem MacAt.others (h:MacAt w b m p) {i:Nat} {F':List Nat} (t:Turn ((p.L b).getD i []) F' w w'):∀ j,j≠i→Kept ((p.L b).getD j []) w w':=fun j hj=>t.kept (h.apart j i hj) (h.blws j)
theorem MacAt.ltk' (h:MacAt w b m p) (k:w.heap.size≤w'.heap.size):Blw w' (fpR p.pk):=fun x hx=>Nat.lt_of_lt_of_le (h.ltk x hx) k
theorem MacAt.putN (h:MacAt w b m p) {s:List Nat} {F':List Nat} (hs:NStk w' p.bn F' s.reverse) (t:Turn p.Fn F' w w'):MacAt w' b { m with st:=s } { p with Fn:=F' }∧Turn (p.F b) ({ p with Fn:=F' }.F b) w w':=by
 have kk:=h.others (i:=1) t
 exact ⟨⟨((kk 0 (by omega)).2 b (by simp [Pt.L])).trans h.box,hs,h.cal.keep (kk 2 (by omega)),h.wri.keep (kk 3 (by omega)),h.out.keep (kk 4 (by omega)),h.rds.keep (kk 5 (by omega)),h.cod.keep (kk 6 (by omega)),h.ltk' t.size,h.wt,h.apart.turn (i:=1) h.blws (by simp [Pt.L]) t⟩,Turn.part (L:=p.own b) (i:=1) t⟩
theorem MacAt.putC (h:MacAt w b m p) {s:List Int} {F':List Nat} (hs:CStk w' p.bc F' s.reverse) (t:Turn p.Fc F' w w'):MacAt w' b { m with calls:=s } { p with Fc:=F' }∧Turn (p.F b) ({ p with Fc:=F' }.F b) w w':=by
 have kk:=h.others (i:=2) t
 exact ⟨⟨((kk 0 (by omega)).2 b (by simp [Pt.L])).trans h.box,h.num.keep (kk 1 (by omega)),hs,h.wri.keep (kk 3 (by omega)),h.out.keep (kk 4 (by omega)),h.rds.keep (kk 5 (by omega)),h.cod.keep (kk 6 (by omega)),h.ltk' t.size,h.wt,h.apart.turn (i:=2) h.blws (by simp [Pt.L]) t⟩,Turn.part (L:=p.own b) (i:=2) t⟩
theorem MacAt.putW (h:MacAt w b m p) {s:Wr} {F':List Nat} (hs:Buf w' p.bw F' m.wmax s) (t:Turn p.Fw F' w w'):MacAt w' b { m with buf:=s } { p with Fw:=F' }∧Turn (p.F b) ({ p with Fw:=F' }.F b) w w':=by
 have kk:=h.others (i:=3) t
 exact ⟨⟨((kk 0 (by omega)).2 b (by simp [Pt.L])).trans h.box,h.num.keep (kk 1 (by omega)),h.cal.keep (kk 2 (by omega)),hs,h.out.keep (kk 4 (by omega)),h.rds.keep (kk 5 (by omega)),h.cod.keep (kk 6 (by omega)),h.ltk' t.size,h.wt,h.apart.turn (i:=3) h.blws (by simp [Pt.L]) t⟩,Turn.part (L:=p.own b) (i:=3) t⟩
theorem MacAt.set (h:MacAt w b m p) (j:Nat) (v:Value) (m':Mac) (z:Int) (e:(boxV m p).setIfInBounds j v=boxV m' { p with wt:=z }) (e1:m'.st=m.st∧m'.calls=m.calls∧m'.wmax=m.wmax∧m'.buf=m.buf∧m'.out=m.out∧m'.reads=m.reads∧m'.code=m.code) (hz:0≤m'.wait→z=m'.wait) :
  MacAt (w.setCell ⟨b,j,none⟩ v) b m' { p with wt:=z }∧Turn (p.F b) ({ p with wt:=z }.F b) w (w.setCell ⟨b,j,none⟩ v):=by
 have t:=turn_set w b j v
 have kk:=h.others (i:=0) t
 obtain ⟨f1,f2,f3,f4,f5,f6,f7⟩:=e1
 refine ⟨⟨?_,by rw [f1];exact h.num.keep (kk 1 (by omega)),by rw [f2];exact h.cal.keep (kk 2 (by omega)),by rw [f3,f4];exact h.wri.keep (kk 3 (by omega)),by rw [f5];exact h.out.keep (kk 4 (by omega)),by rw [f6];exact h.rds.keep (kk 5 (by omega)),by rw [f7];exact h.cod.keep (kk 6 (by omega)),h.ltk' t.size,hz,h.apart⟩,Turn.part (L:=p.own b) (i:=0) t⟩
 rw [← e]
 exact heap_setCell_same w b j _ _ v h.box
theorem MacAt.putO (h:MacAt w b m p) {w3:World} {v:Value} {x:Nat} (hown:w3.ownsRow 0 64 1 v (m.out.length+1) (fls m.out ++ [.float .f64 x])) (hg:w.grownBy w3 (Value.slice p.po m.out.length p.co).ownBlock) (hat:v.ownBlock=(Value.slice p.po m.out.length p.co).ownBlock∨∃ s,v.ownBlock=some s∧w.heap.size≤s) :
  ∃ p' c',v=.slice p' (m.out.length+1) c'∧w3.heap[b]?=some (.cells (boxV m p) 120 (0,0))∧MacAt (w3.setCell ⟨b,24,none⟩ v) b { m with out:=m.out ++ [x] } { p with po:=p',co:=c' }∧Turn (p.F b) ({ p with po:=p',co:=c' }.F b) w (w3.setCell ⟨b,24,none⟩ v):=by
 obtain ⟨p',c',rfl,hr⟩:=ownsRow_slice hown
 have hl:(fls m.out ++ [Value.float .f64 x]).length=m.out.length+1:=by simp [fls_len]
 rw [hl] at hat ⊢
 have ho:∀ k,k∈fpR p'→k∈fpR p.po∨w.heap.size≤k:=by
  rcases hat with q | ⟨s,q,hs⟩
  ·exact own_at (s:=w.heap.size) (.inl q) (Nat.le_refl _)
  ·exact own_at (n:=m.out.length) (c:=p.co) (.inr q) hs
 have t:Turn (fpR p.po) (fpR p') w w3:=⟨hg.os,hg.tape,hg.output,hg.size,fun k hk hn=>hg.block k hk (fun q=>hn (own_fpR.2 q.symm)),ho⟩
 have kk:=h.others (i:=4) t
 have hbox:w3.heap[b]?=_:=((kk 0 (by omega)).2 b (by simp [Pt.L])).trans h.box
 have ap:Apart ({ p with po:=p',co:=c' }.L b):=h.apart.turn (i:=4) h.blws (by simp [Pt.L]) t
 have t2:=turn_set w3 b 24 (.slice p' (m.out.length+1) c')
 have k2:∀ F,Blw w3 F→Sep F [b]→Kept F w3 (w3.setCell ⟨b,24,none⟩ (.slice p' (m.out.length+1) c')):=fun F hb hs=>t2.kept hs hb
 refine ⟨p',c',rfl,hbox,⟨?_,?_,?_,?_,?_,?_,?_,?_,h.wt,ap⟩,(Turn.part (L:=p.own b) (i:=4) t).trans (Turn.part (L:=Pt.own { p with po:=p',co:=c' } b) (i:=0) t2)⟩
 ·refine (heap_setCell_same w3 b 24 _ _ _ hbox).trans ?_
  have:(m.out ++ [x]).length=m.out.length+1:=by simp
  unfold boxV
  rw [this]
  rfl
 ·exact (h.num.keep (kk 1 (by omega))).keep (k2 _ (h.num.keep (kk 1 (by omega))).blw (ap 1 0 (by omega)))
 ·exact (h.cal.keep (kk 2 (by omega))).keep (k2 _ (h.cal.keep (kk 2 (by omega))).blw (ap 2 0 (by omega)))
 ·exact (h.wri.keep (kk 3 (by omega))).keep (k2 _ (h.wri.keep (kk 3 (by omega))).blw (ap 3 0 (by omega)))
 ·rw [fls_snoc]
  exact hr.keep (k2 _ hr.blw (ap 4 0 (by omega)))
 ·exact (h.rds.keep (kk 5 (by omega))).keep (k2 _ (h.rds.keep (kk 5 (by omega))).blw (ap 5 0 (by omega)))
 ·exact (h.cod.keep (kk 6 (by omega))).keep (k2 _ (h.ltk' t.size) (ap 6 0 (by omega)))
 ·exact h.ltk' (Nat.le_trans t.size t2.size)
theorem MacAt.putR (h:MacAt w b m p) {w3:World} {v:Value} {d:Int} {x:Nat} (hown:w3.ownsRow 0 99 2 v (m.reads.length+1) (m.reads.flatMap tchC ++ [.int .i64 d,.float .f64 x])) (hg:w.grownBy w3 (Value.slice p.pr m.reads.length p.cr).ownBlock) (hat:v.ownBlock=(Value.slice p.pr m.reads.length p.cr).ownBlock∨∃ s,v.ownBlock=some s∧w.heap.size≤s) :
  ∃ p' c',v=.slice p' (m.reads.length+1) c'∧w3.heap[b]?=some (.cells (boxV m p) 120 (0,0))∧MacAt (w3.setCell ⟨b,25,none⟩ v) b { m with reads:=m.reads ++ [(d,x)] } { p with pr:=p',cr:=c' }∧Turn (p.F b) ({ p with pr:=p',cr:=c' }.F b) w (w3.setCell ⟨b,25,none⟩ v):=by
 obtain ⟨p',c',rfl,_⟩:=owns_slice2 hown
 have hl:(m.reads ++ [(d,x)]).length=m.reads.length+1:=by simp
 have hr:TRow w3 p' c' (m.reads ++ [(d,x)]):=⟨by rw [hl,List.flatMap_append];simpa [tchC] using hown⟩
 have ho:∀ k,k∈fpR p'→k∈fpR p.pr∨w.heap.size≤k:=by
  rcases hat with q | ⟨s,q,hs⟩
  ·exact own_at (s:=w.heap.size) (.inl q) (Nat.le_refl _)
  ·exact own_at (n:=m.reads.length) (c:=p.cr) (.inr q) hs
 have t:Turn (fpR p.pr) (fpR p') w w3:=⟨hg.os,hg.tape,hg.output,hg.size,fun k hk hn=>hg.block k hk (fun q=>hn (own_fpR.2 q.symm)),ho⟩
 have kk:=h.others (i:=5) t
 have hbox:w3.heap[b]?=_:=((kk 0 (by omega)).2 b (by simp [Pt.L])).trans h.box
 have ap:Apart ({ p with pr:=p',cr:=c' }.L b):=h.apart.turn (i:=5) h.blws (by simp [Pt.L]) t
 have t2:=turn_set w3 b 25 (.slice p' (m.reads.length+1) c')
 have k2:∀ F,Blw w3 F→Sep F [b]→Kept F w3 (w3.setCell ⟨b,25,none⟩ (.slice p' (m.reads.length+1) c')):=fun F hb hs=>t2.kept hs hb
 refine ⟨p',c',rfl,hbox,⟨?_,?_,?_,?_,?_,?_,?_,?_,h.wt,ap⟩,(Turn.part (L:=p.own b) (i:=5) t).trans (Turn.part (L:=Pt.own { p with pr:=p',cr:=c' } b) (i:=0) t2)⟩
 ·refine (heap_setCell_same w3 b 25 _ _ _ hbox).trans ?_
  unfold boxV
  rw [hl]
  rfl
 ·exact (h.num.keep (kk 1 (by omega))).keep (k2 _ (h.num.keep (kk 1 (by omega))).blw (ap 1 0 (by omega)))
 ·exact (h.cal.keep (kk 2 (by omega))).keep (k2 _ (h.cal.keep (kk 2 (by omega))).blw (ap 2 0 (by omega)))
 ·exact (h.wri.keep (kk 3 (by omega))).keep (k2 _ (h.wri.keep (kk 3 (by omega))).blw (ap 3 0 (by omega)))
 ·exact (h.out.keep (kk 4 (by omega))).keep (k2 _ (h.out.keep (kk 4 (by omega))).blw (ap 4 0 (by omega)))
 ·exact hr.keep (k2 _ hr.blw (ap 5 0 (by omega)))
 ·exact (h.cod.keep (kk 6 (by omega))).keep (k2 _ (h.ltk' t.size) (ap 6 0 (by omega)))
 ·exact h.ltk' (Nat.le_trans t.size t2.size)
end
def Mc (w:World) (b:Nat) (F K:List Nat) (m:Mac):Prop:=∃ p,MacAt w b m p∧F=p.F b∧K=fpR p.pk
def Gm (W:World) (F0:List Nat) (b:Nat) (K:List Nat) (w:World) (m:Mac):Prop:=∃ p,MacAt w b m p∧Turn F0 (p.F b) W w∧K=fpR p.pk
section
variable {W w w':World} {b:Nat} {F F0 K:List Nat} {m:Mac}
theorem Mc.gm (h:Mc w b F K m):Gm w F b K w m:=by
 obtain ⟨p,h1,rfl,h3⟩:=h
 exact ⟨p,h1,Turn.refl _ _,h3⟩
theorem Gm.mc (h:Gm W F0 b K w m):∃ F',Mc w b F' K m∧Turn F0 F' W w:=by
 obtain ⟨p,h1,h2,h3⟩:=h
 exact ⟨_,⟨p,h1,rfl,h3⟩,h2⟩
theorem Gm.trans {w0:World} {F1:List Nat} (h:Gm w0 F1 b K w m) (t:Turn F0 F1 W w0):Gm W F0 b K w m:=by
 obtain ⟨p,h1,h2,h3⟩:=h
 exact ⟨p,h1,t.trans h2,h3⟩
theorem Gm.same (h:Gm W F0 b K w m) (k:Same w w'):Gm W F0 b K w' m:=by
 obtain ⟨p,h1,h2,h3⟩:=h
 exact ⟨p,h1.same k,h2.trans (k.turn _),h3⟩
theorem Gm.on (h:Gm W F0 b K w m) (k:Below w.heap.size w w'):Gm W F0 b K w' m:=by
 obtain ⟨p,h1,h2,h3⟩:=h
 exact ⟨p,h1.on k,h2.trans (Below.turn k _),h3⟩
theorem Gm.alloc (h:Gm W F0 b K w m) (x:Obj):Gm W F0 b K (w.alloc x) m:=h.on (below_alloc _ x)
theorem Gm.set (h:Gm W F0 b K w m) (j:Nat) (v:Value) (m':Mac) (e:∀ p,(0≤m.wait→p.wt=m.wait)→∃ z,(boxV m p).setIfInBounds j v=boxV m' { p with wt:=z }∧(0≤m'.wait→z=m'.wait)) (e1:m'.st=m.st∧m'.calls=m.calls∧m'.wmax=m.wmax∧m'.buf=m.buf∧m'.out=m.out∧m'.reads=m.reads∧m'.code=m.code):Gm W F0 b K (w.setCell ⟨b,j,none⟩ v) m':=by
 obtain ⟨p,h1,h2,h3⟩:=h
 obtain ⟨z,hz,hz2⟩:=e p h1.wt
 obtain ⟨q1,q2⟩:=h1.set j v m' z hz e1 hz2
 exact ⟨{ p with wt:=z },q1,h2.trans q2,h3⟩
theorem Mc.blw (h:Mc w b F K m):Blw w F:=by obtain ⟨p,h1,rfl,rfl⟩:=h;exact h1.blw
theorem Mc.blwK (h:Mc w b F K m):Blw w K:=by obtain ⟨p,h1,rfl,rfl⟩:=h;exact h1.ltk
theorem Mc.sepK (h:Mc w b F K m):Sep K F:=by obtain ⟨p,h1,rfl,rfl⟩:=h;exact h1.sepK
theorem Mc.keep (h:Mc w b F K m) (k:Kept F w w') (k2:Kept K w w'):Mc w' b F K m:=by obtain ⟨p,h1,rfl,rfl⟩:=h;exact ⟨p,h1.keep k k2,rfl,rfl⟩
theorem Mc.on (h:Mc w b F K m) (k:Below w.heap.size w w'):Mc w' b F K m:=h.keep (kept_below k h.blw) (kept_below k h.blwK)
theorem Gm.ltB (h:Gm W F0 b K w m):b<w.heap.size:=by obtain ⟨p,h1,_⟩:=h;exact h1.ltB
theorem Gm.free (h:Gm W F0 b K w m) (j:Nat):w.frozen? ⟨b,j,none⟩=false:=by obtain ⟨p,h1,_⟩:=h;exact frozen_of_row w b j _ _ h1.box
end
theorem MacAt.cell {w:World} {b:Nat} {m:Mac} {p:Pt} (h:MacAt w b m p) (j:Nat):w.cell? ⟨b,j,none⟩=(boxV m p)[j]?:=cell_of_row w b j _ _ _ h.box
theorem MacAt.free {w:World} {b:Nat} {m:Mac} {p:Pt} (h:MacAt w b m p) (j:Nat):w.frozen? ⟨b,j,none⟩=false:=frozen_of_row w b j _ _ h.box
end Go.Proofs.YteinilmecnlanabGreatDoor
namespace Go.Proofs.YteinilmecnlanabGreatDoor
open Go.ChangeShapes Go.WideShapes Go.ChangeAt Go.RowKit Num
attribute [local go_sem] run_store_float
abbrev gaveM (e:Int):Ending:=.panicked [{ v:=.iface 48 (.int .i64 e),recovered:=false }]
theorem mustBe_no {c:Bool} (hc:c=false) (e:Int) (w:World):Calls Tryz.prog 152 #[.bool c,.int .i64 e] w fun r w'=>r=gaveM e∧w'=w:=by
 subst hc
 go_enter Tryz.func152,Tryz.ntmps152
 go_wp2
 exact ⟨rfl,rfl,rfl⟩
theorem mustBe_yes {c:Bool} (hc:c=true) (e:Int) (w:World):Calls Tryz.prog 152 #[.bool c,.int .i64 e] w fun r w'=>r=.returned (.tuple #[])∧w'=w:=by
 subst hc
 go_enter Tryz.func152,Tryz.ntmps152
 go_wp2
 go_end0
 exact ⟨rfl,rfl⟩
theorem heap_new {w:World} {o:Obj} {g:Nat} (h:g=w.heap.size):(w.alloc o).heap[g]?=some o:=by rw [h];exact heap_alloc_new _ _
theorem rev_at (l:List Nat) (k:Nat) (h:k<l.length):l.reverse[l.length - 1 - k]?=some (l.getD k 0):=by
 rw [List.getElem?_reverse (by omega),show l.length - 1 - (l.length - 1 - k)=k by omega,List.getD_eq_getElem?_getD,List.getElem?_eq_getElem h]
 rfl
section
variable {W w:World} {b:Nat} {F0 K:List Nat} {m:Mac}
theorem take_any (h:Gm W F0 b K w m) {x:Nat} {s:List Nat} (hs:m.st=x::s):Calls Tryz.prog 167 #[.pointer (some ⟨b,0,none⟩)] w fun e w'=>e=.returned (.float .f64 x)∧Gm W F0 b K w' { m with st:=s }:=by
 obtain ⟨p,hm,ht,hk⟩:=h
 have h20:w.cell? ⟨b,20,none⟩=some (.pointer (some ⟨p.bn,0,none⟩)):=(hm.cell 20).trans rfl
 have hb:=hm.ltB
 have HP:=Lib.hid (fPop_some (m:=s.reverse) (x:=x) (by have:=hm.num;rw [hs,List.reverse_cons] at this;exact this))
 have HD:Hid (∀ F' w',NStk w' p.bn F' s.reverse→Turn p.Fn F' w w'→Gm W F0 b K w' { m with st:=s }):=fun F' w' q1 q2=>by
  obtain ⟨a1,a2⟩:=hm.putN q1 q2
  exact ⟨_,a1,ht.trans a2,hk⟩
 clear hm ht hk
 go_enter Tryz.func167,Tryz.ntmps167
 go_wp2_with (go_at_call 191;refine HP.out.mono ?_;rintro e w1 ⟨F',rfl,q1,q2⟩;have HQ:=Lib.hid (HD.out _ _ q1 q2);clear q1 q2 HD HP)
 go_ret
 exact ⟨rfl,HQ.out⟩
theorem lay_any (h:Gm W F0 b K w m) (x:Nat) (hs:m.st.length<64):Calls Tryz.prog 153 #[.pointer (some ⟨b,0,none⟩),.float .f64 x] w fun e w'=>e=.returned (.tuple #[])∧Gm W F0 b K w' { m with st:=x::m.st }:=by
 obtain ⟨p,hm,ht,hk⟩:=h
 have h20:w.cell? ⟨b,20,none⟩=some (.pointer (some ⟨p.bn,0,none⟩)):=(hm.cell 20).trans rfl
 have hb:=hm.ltB
 have hlt:((m.st.reverse.length:Nat):Int)<64:=by rw [List.length_reverse];omega
 have HP:=Lib.hid (fPush_any hm.num x)
 rw [show pushL m.st.reverse 64 x=(x::m.st).reverse by simp [pushL];omega] at HP
 have HD:Hid (∀ F' w',NStk w' p.bn F' (x::m.st).reverse→Turn p.Fn F' w w'→Gm W F0 b K w' { m with st:=x::m.st }):=fun F' w' q1 q2=>by
  obtain ⟨a1,a2⟩:=hm.putN q1 q2
  exact ⟨_,a1,ht.trans a2,hk⟩
 clear hm ht hk hlt
 go_enter Tryz.func153,Tryz.ntmps153
 go_wp2_with (go_at_call 176;refine HP.out.mono ?_;rintro e w1 ⟨F',rfl,q1,q2⟩;have HQ:=Lib.hid (HD.out _ _ q1 q2);clear q1 q2 HD HP)
 go_end0
 exact ⟨rfl,HQ.out⟩
theorem pick_any (h:Gm W F0 b K w m) (k:Nat) (hs:k<m.st.length):Calls Tryz.prog 169 #[.pointer (some ⟨b,0,none⟩),.int .i64 k] w fun e w'=>e=.returned (.float .f64 (m.st.getD k 0))∧∃ q,w'=w.drewN q:=by
 obtain ⟨p,hm,ht,hk⟩:=h
 have h20:w.cell? ⟨b,20,none⟩=some (.pointer (some ⟨p.bn,0,none⟩)):=(hm.cell 20).trans rfl
 have hb:=hm.ltB
 have HP:=Lib.hid (fPick_drew hm.num k (m.st.length - 1 - k) (by rw [List.length_reverse];omega) _ (rev_at m.st k hs))
 clear hm ht hk hs
 go_enter Tryz.func169,Tryz.ntmps169
 go_wp2_with (go_at_call 192;refine HP.out.mono ?_;rintro e w1 ⟨rfl,q,hq⟩;subst w1;clear HP)
 go_ret
 exact ⟨rfl,q,rfl⟩
def askV (a:Ask):Value:=.agg #[.int .i64 a.kind,.int .i64 a.cell,.float .f64 a.x,.bool a.first]
theorem ask_back {fn:Func} {p:Tmp} (h:fn.results=#[.cell p 111]) {R:Ending→World→Prop} {a:Act} {w:World} (g:Nat) (k:Ask) (hp:a.tmps.getD p undef=.pointer (some ⟨g,0,none⟩))
  (hg:w.heap[g]?=some (.cells #[.int .i64 k.kind,.int .i64 k.cell,.float .f64 k.x,.bool k.first] 111 (0,0))) (hd:a.defers=[]) (hR:R (.returned (askV k)) w):bodyPost Tryz.prog fn R .ret a w :=
 bodyPost_ret (results_cell_row h _ _ g _ _ _ _ hp hg Tryz.underlying111 rfl (by kernel_rfl)) hd hR
theorem wants_any (h:Gm W F0 b K w m) (hw:0≤m.wait):Calls Tryz.prog 134 #[.pointer (some ⟨b,0,none⟩)] w fun e w'=>e=.returned (askV (askRead m.wait))∧Below w.heap.size w w':=by
 obtain ⟨p,hm,ht,hk⟩:=h
 have h28:w.cell? ⟨b,28,none⟩=some (.int .i64 m.wait):=by rw [← hm.wt hw];exact (hm.cell 28).trans rfl
 have hb:=hm.ltB
 have HB:=Lib.hid (fun x=>below_alloc w x)
 clear hm ht hk hw
 go_enter Tryz.func134,Tryz.ntmps134
 go_wp2
 refine ask_back rfl w.heap.size (askRead m.wait) rfl (heap_alloc_new _ _) rfl ⟨rfl,HB.out _⟩
theorem ends_any (h:Gm W F0 b K w m) (o c e:Int):Calls Tryz.prog 136 #[.pointer (some ⟨b,0,none⟩),.agg #[.int .i64 o,.int .i64 c,.int .i64 e]] w fun r w'=>r=.returned (askV askEnd)∧Gm W F0 b K w' { m with how:=o,cod:=c,err:=e }:=by
 have hb:=h.ltB
 obtain ⟨p,hm,_,_⟩:=id h
 have h29:w.cell? ⟨b,29,none⟩=some (.int .i64 m.how):=(hm.cell 29).trans rfl
 have h30:w.cell? ⟨b,30,none⟩=some (.int .i64 m.cod):=(hm.cell 30).trans rfl
 have h31:w.cell? ⟨b,31,none⟩=some (.int .i64 m.err):=(hm.cell 31).trans rfl
 have f29:=hm.free 29
 have f30:=hm.free 30
 have f31:=hm.free 31
 clear hm
 have HD:Hid (Gm W F0 b K (((w.setCell ⟨b,29,none⟩ (.int .i64 o)).setCell ⟨b,30,none⟩ (.int .i64 c)).setCell ⟨b,31,none⟩ (.int .i64 e)) { m with how:=o,cod:=c,err:=e }):=by
  have g1:=h.set 29 (.int .i64 o) { m with how:=o } (fun p hp=>⟨p.wt,rfl,hp⟩) ⟨rfl,rfl,rfl,rfl,rfl,rfl,rfl⟩
  have g2:=g1.set 30 (.int .i64 c) { m with how:=o,cod:=c } (fun p hp=>⟨p.wt,rfl,hp⟩) ⟨rfl,rfl,rfl,rfl,rfl,rfl,rfl⟩
  exact g2.set 31 (.int .i64 e) { m with how:=o,cod:=c,err:=e } (fun p hp=>⟨p.wt,rfl,hp⟩) ⟨rfl,rfl,rfl,rfl,rfl,rfl,rfl⟩
 clear h
 go_enter Tryz.func136,Tryz.ntmps136
 go_wp2
 exact ask_back rfl (w.heap.size+1) askEnd rfl (heap_new (by simp)) rfl ⟨rfl,(HD.out.alloc _).alloc _⟩
end
theorem Gm.far {W w:World} {b:Nat} {F0 K:List Nat} {m:Mac} (h:Gm W F0 b K w m) {g:Nat} (hg:g<W.heap.size) (hn:g∉F0):w.heap[g]?=W.heap[g]?:=by
 obtain ⟨p,_,h2,_⟩:=h
 exact h2.block g hg hn
section
variable {W w:World} {b:Nat} {F0 K:List Nat} {m:Mac}
theorem writes_any (h:Gm W F0 b K w m):Calls Tryz.prog 37 #[.pointer (some ⟨b,0,none⟩)] w fun e w'=>e=.returned (.slice (some ⟨w.heap.size,0,none⟩) m.buf.length m.buf.length)∧TRow w' (some ⟨w.heap.size,0,none⟩) m.buf.length m.buf∧Below w.heap.size w w':=by
 obtain ⟨p,hm,ht,hk⟩:=h
 have h20:w.cell? ⟨b,26,none⟩=some (.pointer (some ⟨p.bw,0,none⟩)):=(hm.cell 26).trans rfl
 have hb:=hm.ltB
 have HP:=Lib.hid (all_any hm.wri)
 clear hm ht hk
 go_enter Tryz.func37,Tryz.ntmps37
 go_wp2_with (go_at_call 60;refine HP.out.mono ?_;rintro e w1 ⟨rfl,q1,q2⟩;have HQ:=Lib.hid (And.intro q1 q2);clear q1 q2 HP)
 go_ret
 exact ⟨rfl,HQ.out.1,HQ.out.2⟩
def endV (m:Mac):Value:=.agg #[.int .i64 m.how,.int .i64 m.cod,.int .i64 m.err]
theorem end_any (h:Gm W F0 b K w m):Calls Tryz.prog 39 #[.pointer (some ⟨b,0,none⟩)] w fun e w'=>e=.returned (endV m)∧Below w.heap.size w w':=by
 obtain ⟨p,hm,ht,hk⟩:=h
 have h29:w.cell? ⟨b,29,none⟩=some (.int .i64 m.how):=(hm.cell 29).trans rfl
 have h30:w.cell? ⟨b,30,none⟩=some (.int .i64 m.cod):=(hm.cell 30).trans rfl
 have h31:w.cell? ⟨b,31,none⟩=some (.int .i64 m.err):=(hm.cell 31).trans rfl
 have hb:=hm.ltB
 have HB:=Lib.hid (fun x=>below_alloc w x)
 clear hm ht hk
 go_enter Tryz.func39,Tryz.ntmps39
 go_wp2
 exact bodyPost_ret (results_cell_row rfl _ _ w.heap.size _ _ _ _ rfl (heap_alloc_new _ _) Tryz.underlying57 rfl (by kernel_rfl)) rfl ⟨rfl,HB.out _⟩
end
end Go.Proofs.YteinilmecnlanabGreatDoor
namespace Go.Proofs.YteinilmecnlanabGreatDoor
open Go.ChangeShapes Go.WideShapes Go.ChangeAt Go.RowKit Num
attribute [local go_sem] run_store_float
theorem two_cells (u v:Value) (hu:u.oneCell'=true) (hv:v.oneCell'=true):∀ x∈[u,v],x.oneCell'=true:=by
 intro x hx
 simp at hx
 rcases hx with rfl | rfl
 ·exact hu
 ·exact hv
theorem follows:Tryz.prog.follows .mixedOrders=true:=by kernel_rfl
theorem region_tail {id:Nat} {Q:Exit→Act→World→Prop} {a:Act} {w:World} {l:List Oper} (n:Nat) (hB:Region.lexTailB .any l.toArray n=true)
  (h:wpStill Tryz.prog l.toArray w.drew (fun a'=>wpList Tryz.prog l.toArray Q (l.drop n) a' w.drew) (l.take n) a):(Code.region id l.toArray true).wp Tryz.prog Q a w:=wp_region_still_tail n follows hB h
section
variable {W w:World} {b:Nat} {F0 K:List Nat} {m:Mac}
theorem hasRead_any (h:Gm W F0 b K w m) (d:Int) (x:Nat) (hs:m.st.length<64) (hr:m.reads.length≤1024):Calls Tryz.prog 139 #[.pointer (some ⟨b,0,none⟩),.int .i64 d,.float .f64 x] w fun e w'=>e=.returned (.tuple #[])∧Gm W F0 b K w' (hasRead m d x):=by
 obtain ⟨p,hm,ht,hk⟩:=h
 have h20:w.cell? ⟨b,25,none⟩=some (.slice p.pr m.reads.length p.cr):=(hm.cell 25).trans rfl
 have hb:=hm.ltB
 obtain ⟨i0,hi,hz0,hz1,hz2⟩:=info_parts tInfo
 have HZI:=Lib.hid (And.intro hi (And.intro hz0 (And.intro hz1 hz2)))
 have HO:Hid (∀ u:World,u.heap=w.heap→u.ownsRow 0 99 2 (.slice p.pr m.reads.length p.cr) m.reads.length (m.reads.flatMap tchC)):=fun u e=>owns_heap hm.rds.own e
 have HD:Hid (∀ w3 v o,w3.ownsRow 0 99 2 v (m.reads.length+1) (m.reads.flatMap tchC ++ [.int .i64 d,.float .f64 x])→(w.alloc o).grownBy w3 (Value.slice p.pr m.reads.length p.cr).ownBlock→(v.ownBlock=(Value.slice p.pr m.reads.length p.cr).ownBlock∨v.ownBlock=some (w.alloc o).heap.size) →
   ∃ p' c',v=.slice p' (m.reads.length+1) c'∧w3.cell? ⟨b,25,none⟩=some (.slice p.pr m.reads.length p.cr)∧w3.frozen? ⟨b,25,none⟩=false∧b<w3.heap.size∧Gm W F0 b K (w3.setCell ⟨b,25,none⟩ v) { m with reads:=m.reads ++ [(d,x)] }):=fun w3 v o q1 q2 q3=>by
  obtain ⟨p',c',e1,e2,e3,e4⟩:=hm.putR q1 ((World.grownBy_alloc w o _).trans q2) (q3.imp id (fun z=>⟨_,z,by simp⟩))
  exact ⟨p',c',e1,(cell_of_row w3 b 25 _ _ _ e2).trans rfl,frozen_of_row w3 b 25 _ _ e2,lt_of_block e2,_,e3,ht.trans e4,hk⟩
 have HS:=Lib.hid (And.intro hs hr)
 clear hm ht hk hi hz0 hz1 hz2 hs hr
 go_enter Tryz.func139,Tryz.ntmps139
 go_wp2_with (first
  | (go_at_call 153;refine (lay_any HG.out x HS.out.1).mono ?_;rintro e w1 ⟨rfl,q1⟩;have HQ:=Lib.hid q1;clear q1 HG)
  | (at_builtin;refine wpList_append_own_at _ rfl _ _ 55 rfl 0 99 i0 _ 2 16 Tryz.underlying55 HZI.out.1 HZI.out.2.1 HZI.out.2.2.1 HZI.out.2.2.2 rfl (by decide) _ m.reads.length (m.reads.flatMap tchC) rfl (World.ownsRow.alloc (HO.out _ rfl) _) ⟨w.heap.size,0,none⟩ 1 1 [.int .i64 d,.float .f64 x] rfl rfl (World.news_of_block (cs:=#[.int .i64 d,.float .f64 x]) (t:=99) (fr:=(0,0)) (heap_alloc_new _ _)) (two_cells _ _ rfl rfl) (by have:=HS.out;unfold maxLen;omega) (by have:=HS.out;omega) (Nat.zero_le _) ?_;intro v w3 hown hgrow hnil hloc;obtain ⟨p',c',hv,k0,kf,kb,hg⟩:=HD.out _ _ _ hown hgrow hloc;subst hv;have HG:=Lib.hid hg;clear hown hgrow hnil hloc hg HD))
 go_end0
 exact ⟨rfl,HQ.out⟩
theorem begin_fuel (h:Gm W F0 b K w m) (hf:¬ m.used<m.fuel):Calls Tryz.prog 138 #[.pointer (some ⟨b,0,none⟩)] w fun r w'=>r=gaveM 80∧Below w.heap.size w w':=by
 obtain ⟨p,hm,ht,hk⟩:=h
 have h1:w.cell? ⟨b,23,none⟩=some (.int .i64 m.used):=(hm.cell 23).trans rfl
 have h2:w.cell? ⟨b,1,none⟩=some (.int .i64 m.fuel):=(hm.cell 1).trans rfl
 have hb:=hm.ltB
 have HB:=Lib.hid (fun x=>below_alloc w x)
 clear hm ht hk
 go_enter Tryz.func138,Tryz.ntmps138
 go_wp2
 refine region_tail 9 (by kernel_rfl) ?_
 simp only [List.take_succ_cons,List.take_zero,List.drop_succ_cons,List.drop_zero]
 repeat still_step
 refine wpStill_nil ?_
 go_wp2_with (go_at_call 152;refine (mustBe_no (by simpa using hf) 80 _).mono ?_;rintro e w1 ⟨rfl,hw⟩;subst w1)
 exact ⟨rfl,rfl,(HB.out _).trans ((Same.drew _).below _)⟩
theorem begin_far (h:Gm W F0 b K w m) (hf:m.used<m.fuel) (hp:¬ m.place<(m.code.length:Int)):Calls Tryz.prog 138 #[.pointer (some ⟨b,0,none⟩)] w fun r w'=>r=gaveM 50∧Below w.heap.size w w':=by
 obtain ⟨p,hm,ht,hk⟩:=h
 have h1:w.cell? ⟨b,23,none⟩=some (.int .i64 m.used):=(hm.cell 23).trans rfl
 have h2:w.cell? ⟨b,1,none⟩=some (.int .i64 m.fuel):=(hm.cell 1).trans rfl
 have h3:w.cell? ⟨b,22,none⟩=some (.int .i64 m.place):=(hm.cell 22).trans rfl
 have h4:w.cell? ⟨b,3,none⟩=some (.slice p.pk m.code.length p.ck):=(hm.cell 3).trans rfl
 have hb:=hm.ltB
 have HB:Hid (∀ x n,Below w.heap.size w ((w.alloc x).drewN n)):=fun x n=>(below_alloc w x).trans ((Same.drewN _ n).below _)
 clear hm ht hk
 go_enter Tryz.func138,Tryz.ntmps138
 go_wp2
 refine region_tail 9 (by kernel_rfl) ?_
 simp only [List.take_succ_cons,List.take_zero,List.drop_succ_cons,List.drop_zero]
 repeat still_step
 refine wpStill_nil ?_
 go_wp2_with (go_at_call 152;refine (mustBe_yes (by first | rfl | exact decide_eq_true hf) 80 _).mono ?_;rintro e w1 ⟨rfl,hw⟩;subst w1)
 refine region_tail 10 (by kernel_rfl) ?_
 simp only [List.take_succ_cons,List.take_zero,List.drop_succ_cons,List.drop_zero]
 repeat still_step
 refine wpStill_nil ?_
 go_wp2_with (go_at_call 152;refine (mustBe_no (by simpa using hp) 50 _).mono ?_;rintro e w1 ⟨rfl,hw⟩;subst w1)
 exact ⟨rfl,rfl,HB.out _ 2⟩
theorem begin_ok (h:Gm W F0 b K w m) (hf:m.used<m.fuel) {k:Nat} (hk0:m.place=(k:Int)) (hp:k<m.code.length) (hb1:m.used+1≤9223372036854775807∧-9223372036854775808≤m.used) (hb2:k+1≤9223372036854775807):Calls Tryz.prog 138 #[.pointer (some ⟨b,0,none⟩)] w fun r w'=>r=.returned (insV (ci m.code k))∧Gm W F0 b K w' (begM m):=by
 have HG:=Lib.hid h
 obtain ⟨p,hm,ht,hk⟩:=h
 have h1:w.cell? ⟨b,23,none⟩=some (.int .i64 m.used):=(hm.cell 23).trans rfl
 have h2:w.cell? ⟨b,1,none⟩=some (.int .i64 m.fuel):=(hm.cell 1).trans rfl
 have h3:w.cell? ⟨b,22,none⟩=some (.int .i64 (k:Int)):=by rw [← hk0];exact (hm.cell 22).trans rfl
 have h4:w.cell? ⟨b,3,none⟩=some (.slice p.pk m.code.length p.ck):=(hm.cell 3).trans rfl
 obtain ⟨g,off,hpk,hlt,c0,c1,c2⟩:=hm.cod k hp
 rw [hpk] at h4
 have hb:=hm.ltB
 have f1:=hm.free 23
 have f2:=hm.free 22
 have HD:Hid (Gm W F0 b K ((w.setCell ⟨b,23,none⟩ (.int .i64 (m.used+1))).setCell ⟨b,22,none⟩ (.int .i64 ((k:Int)+1))) (begM m)):=by
  have g1:=HG.out.set 23 (.int .i64 (m.used+1)) { m with used:=m.used+1 } (fun p hp=>⟨p.wt,rfl,hp⟩) ⟨rfl,rfl,rfl,rfl,rfl,rfl,rfl⟩
  rw [← hk0]
  exact g1.set 22 (.int .i64 (m.place+1)) (begM m) (fun p hp=>⟨p.wt,rfl,hp⟩) ⟨rfl,rfl,rfl,rfl,rfl,rfl,rfl⟩
 have hp1:(k:Int)<(m.code.length:Int):=by omega
 have HP:=Lib.hid hp1
 clear hm ht hk hpk HG hk0
 unfold insV
 generalize (ci m.code k).op=o at *
 generalize (ci m.code k).n=n at *
 generalize (ci m.code k).x=x at *
 go_enter Tryz.func138,Tryz.ntmps138
 go_wp2
 refine region_tail 9 (by kernel_rfl) ?_
 simp only [List.take_succ_cons,List.take_zero,List.drop_succ_cons,List.drop_zero]
 repeat still_step
 refine wpStill_nil ?_
 go_wp2_with (go_at_call 152;refine (mustBe_yes (by first | rfl | exact decide_eq_true hf) 80 _).mono ?_;rintro e w1 ⟨rfl,hw⟩;subst w1)
 refine region_tail 10 (by kernel_rfl) ?_
 simp only [List.take_succ_cons,List.take_zero,List.drop_succ_cons,List.drop_zero]
 repeat still_step
 refine wpStill_nil ?_
 go_wp2_with (go_at_call 152;refine (mustBe_yes (by first | rfl | exact decide_eq_true hp1) 50 _).mono ?_;rintro e w1 ⟨rfl,hw⟩;subst w1)
 go_region
 all_goals (try go_wp2)
 all_goals exact bodyPost_ret (results_cell_row rfl _ _ w.heap.size _ _ _ _ rfl ((heap_alloc_old _ _ (by simp)).trans (heap_new (by simp))) Tryz.underlying66 rfl (by kernel_rfl)) rfl ⟨rfl,((HD.out.alloc _).alloc _).same (Same.drewN _ 3)⟩
theorem Gm.num {W w:World} {b:Nat} {F0 K:List Nat} {m:Mac} (h:Gm W F0 b K w m):∃ bn Fn bc Fc,w.cell? ⟨b,20,none⟩=some (.pointer (some ⟨bn,0,none⟩))∧w.cell? ⟨b,21,none⟩=some (.pointer (some ⟨bc,0,none⟩))∧NStk w bn Fn m.st.reverse∧CStk w bc Fc m.calls.reverse:=by
 obtain ⟨p,hm,_,_⟩:=h
 exact ⟨p.bn,p.Fn,p.bc,p.Fc,(hm.cell 20).trans rfl,(hm.cell 21).trans rfl,hm.num,hm.cal⟩
def TabAt (w:World) (F:List Nat):Prop:=Shaped5 w∧1∉F
theorem TabAt.turn {w w':World} {F F':List Nat} (h:TabAt w F) (t:Turn F F' w w'):TabAt w' F':=by
 have hlt:1<w.heap.size:=World.block_lt_of_cell? w _ (h.1.shp 0 (by omega)).1
 have hb:=t.block _ hlt h.2
 refine ⟨⟨fun k hk=>?_⟩,fun q=>(t.own _ q).elim h.2 (fun z=>absurd hlt (Nat.not_lt.2 z))⟩
 obtain ⟨c0,c1,c2,c3,c4,c5⟩:=h.1.shp k hk
 exact ⟨(World.cell?_of_block hb).trans c0,(World.cell?_of_block hb).trans c1,(World.cell?_of_block hb).trans c2,(World.cell?_of_block hb).trans c3,(World.cell?_of_block hb).trans c4,(World.cell?_of_block hb).trans c5⟩
end
end Go.Proofs.YteinilmecnlanabGreatDoor
namespace Go.Proofs.YteinilmecnlanabGreatDoor
open Go.ChangeShapes Go.WideShapes Go.ChangeAt Go.RowKit Num
section
variable {W w:World} {b:Nat} {F0 K:List Nat} {m:Mac}
theorem takes_le:∀ k,k<21→0≤(shp k).takes∧(shp k).takes≤2∧0≤(shp k).lays∧(shp k).lays≤2:=by decide +kernel
structure FitAt (w:World) (b bn bc:Nat) (k:Nat) (n:Int) (x:Nat) (t l:Int) (st:List Nat) (calls:List Int):Prop where
 lt:b<w.heap.size
 bln:(st.length:Int)≤64
 blc:(calls.length:Int)≤16
 tl:0≤t∧t≤2∧0≤l∧l≤2
 eff:Calls Tryz.prog 161 #[.int .i64 k] (w.alloc (.cells #[.int .i64 k,.int .i64 n,.float .f64 x] 66)) fun e w1=>e=.returned (.tuple #[.int .i64 t,.int .i64 l,.int .i64 0])∧w1.cell? ⟨w.heap.size,0,none⟩=some (.int .i64 k)∧w1.cell? ⟨w.heap.size,1,none⟩=some (.int .i64 n)∧w1.cell? ⟨b,20,none⟩=some (.pointer (some ⟨bn,0,none⟩))∧w1.cell? ⟨b,21,none⟩=some (.pointer (some ⟨bc,0,none⟩))∧b<w1.heap.size∧w.heap.size<w1.heap.size ∧
  Hid (Below w.heap.size w w1∧∀ u,Same w1 u→(Calls Tryz.prog 162 #[.pointer (some ⟨bn,0,none⟩)] u fun e u'=>e=.returned (.int .i64 st.length)∧u'=u)∧(Calls Tryz.prog 163 #[.pointer (some ⟨bn,0,none⟩)] u fun e u'=>e=.returned (.int .i64 64)∧u'=u)∧(Calls Tryz.prog 164 #[.pointer (some ⟨bc,0,none⟩)] u fun e u'=>e=.returned (.int .i64 calls.length)∧u'=u)∧(Calls Tryz.prog 165 #[.pointer (some ⟨bc,0,none⟩)] u fun e u'=>e=.returned (.int .i64 16)∧u'=u))
theorem fit_at (h:Gm W F0 b K w m) (hT:Shaped5 w) {k:Nat} (n:Int) (x:Nat) (hk:1≤k∧k<21):∃ bn bc,FitAt w b bn bc k n x (shp k).takes (shp k).lays m.st m.calls:=by
 obtain ⟨bn,Fn,bc,Fc,h20,h21,hs,hc⟩:=h.num
 have hb:=h.ltB
 have hfs:=hs.fits.1
 rw [fls_len,List.length_reverse] at hfs
 have hfc:=hc.fits.1
 rw [i64s_len,List.length_reverse] at hfc
 refine ⟨bn,bc,hb,hfs,hfc,takes_le k hk.2,?_⟩
 have hbx:=heap_alloc_new w (.cells #[.int .i64 k,.int .i64 n,.float .f64 x] 66)
 refine (effect_some k _ (hT.on (below_alloc w _)) hk.2 hk.1).mono fun e w1 ⟨he,hsm⟩=>⟨he,?_⟩
 have hB:Below w.heap.size w w1:=(below_alloc w _).trans (hsm.below _)
 have hx1:w1.heap[w.heap.size]?=_:=(by rw [hsm.heap]:w1.heap[w.heap.size]?=_).trans hbx
 obtain ⟨c0,c1,_,c3⟩:=cells3_of hx1
 refine ⟨c0,c1,(hB.cell (p:=⟨b,20,none⟩) hb).trans h20,(hB.cell (p:=⟨b,21,none⟩) hb).trans h21,Nat.lt_of_lt_of_le hb hB.size,c3,hB,fun u hu=>?_⟩
 have a1:=(hs.on hB).same hu
 have a2:=(hc.on hB).same hu
 have l1:=fLen_any a1
 have l2:=iLen_any a2
 rw [List.length_reverse] at l1 l2
 exact ⟨l1,fRoom_any a1,l2,iRoom_any a2⟩
theorem fit_5 {bn bc:Nat} {n:Int} {x:Nat} {t l:Int} {st:List Nat} {calls:List Int} (h:FitAt w b bn bc 5 n x t l st calls) (hn:0≤n∧n≤63) (h1:n+1≤(st.length:Int)) (h2:(st.length:Int) - t+l≤64):Calls Tryz.prog 146 #[.pointer (some ⟨b,0,none⟩),.agg #[.int .i64 5,.int .i64 n,.float .f64 x]] w fun r w'=>r=.returned (.tuple #[])∧Below w.heap.size w w':=by
 have HE:=Lib.hid h.eff
 have hb:=h.lt
 obtain ⟨t0,t2,l0,l2⟩:=h.tl
 have s0:=h.bln
 have s1:=h.blc
 clear h
 go_enter Tryz.func146,Tryz.ntmps146
 go_wp2_with (first
  | (go_at_call 152;refine (mustBe_yes (by first | rfl | (simp;omega)) 82 _).mono ?_;rintro e u ⟨rfl,hu⟩;subst u)
  | (go_at_call 163;refine (HF.out.2 _ (Same.refl _)).2.1.mono ?_;rintro e u ⟨rfl,hu⟩;subst u)
  | (go_at_call 162;refine (HF.out.2 _ (Same.refl _)).1.mono ?_;rintro e u ⟨rfl,hu⟩;subst u)
  | (go_at_call 161;refine HE.out.mono ?_;rintro e w1 ⟨rfl,c0,c1,c2,c3,c4,c5,HF⟩;clear HE))
 obtain ⟨z,hz,hz14⟩:∃ z:Int,((5:Nat):Int)=z∧¬ z=14:=⟨5,rfl,by decide⟩
 rw [hz] at c0
 clear hz
 refine region_tail 16 (by kernel_rfl) ?_
 simp only [List.take_succ_cons,List.take_zero,List.drop_succ_cons,List.drop_zero]
 repeat (first | still_step | still_call (HF.out.2 _ (Same.drew _)).2.2.1 | still_call (HF.out.2 _ (Same.drew _)).2.2.2)
 refine wpStill_nil ?_
 go_wp2_with (go_at_call 152;refine (mustBe_yes (by first | rfl | (simp;omega)) 82 _).mono ?_;rintro e u ⟨rfl,hu⟩;subst u)
 go_end0
 exact ⟨rfl,HF.out.1.trans ((Same.drewN _ 1).below _)⟩
theorem fit_14 {bn bc:Nat} {n:Int} {x:Nat} {t l:Int} {st:List Nat} {calls:List Int} (h:FitAt w b bn bc 14 n x t l st calls) (h1:t≤(st.length:Int)) (h2:(st.length:Int) - t+l≤64) (h3:(calls.length:Int)<16):Calls Tryz.prog 146 #[.pointer (some ⟨b,0,none⟩),.agg #[.int .i64 14,.int .i64 n,.float .f64 x]] w fun r w'=>r=.returned (.tuple #[])∧Below w.heap.size w w':=by
 have HE:=Lib.hid h.eff
 have hb:=h.lt
 obtain ⟨t0,t2,l0,l2⟩:=h.tl
 have s0:=h.bln
 have s1:=h.blc
 clear h
 go_enter Tryz.func146,Tryz.ntmps146
 go_wp2_with (first
  | (go_at_call 152;refine (mustBe_yes (by first | rfl | (simp;omega)) 82 _).mono ?_;rintro e u ⟨rfl,hu⟩;subst u)
  | (go_at_call 163;refine (HF.out.2 _ (Same.refl _)).2.1.mono ?_;rintro e u ⟨rfl,hu⟩;subst u)
  | (go_at_call 162;refine (HF.out.2 _ (Same.refl _)).1.mono ?_;rintro e u ⟨rfl,hu⟩;subst u)
  | (go_at_call 161;refine HE.out.mono ?_;rintro e w1 ⟨rfl,c0,c1,c2,c3,c4,c5,HF⟩;clear HE))
 refine region_tail 16 (by kernel_rfl) ?_
 simp only [List.take_succ_cons,List.take_zero,List.drop_succ_cons,List.drop_zero]
 repeat (first | still_step | still_call (HF.out.2 _ (Same.drew _)).2.2.1 | still_call (HF.out.2 _ (Same.drew _)).2.2.2)
 refine wpStill_nil ?_
 go_wp2_with (go_at_call 152;refine (mustBe_yes (by first | rfl | (simp;omega)) 82 _).mono ?_;rintro e u ⟨rfl,hu⟩;subst u)
 go_end0
 exact ⟨rfl,HF.out.1.trans ((Same.drewN _ 1).below _)⟩
theorem fit_k {bn bc:Nat} {n:Int} {x:Nat} {t l:Int} {st:List Nat} {calls:List Int} {k:Nat} (h:FitAt w b bn bc k n x t l st calls) (k5:¬ (k:Int)=5) (k14:¬ (k:Int)=14) (h1:t≤(st.length:Int)) (h2:(st.length:Int) - t+l≤64):Calls Tryz.prog 146 #[.pointer (some ⟨b,0,none⟩),.agg #[.int .i64 (k:Int),.int .i64 n,.float .f64 x]] w fun r w'=>r=.returned (.tuple #[])∧Below w.heap.size w w':=by
 have HE:=Lib.hid h.eff
 have hb:=h.lt
 obtain ⟨t0,t2,l0,l2⟩:=h.tl
 have s0:=h.bln
 have s1:=h.blc
 clear h
 go_enter Tryz.func146,Tryz.ntmps146
 go_wp2_with (first
  | (go_at_call 152;refine (mustBe_yes (by first | rfl | (simp;omega)) 82 _).mono ?_;rintro e u ⟨rfl,hu⟩;subst u)
  | (go_at_call 163;refine (HF.out.2 _ (Same.refl _)).2.1.mono ?_;rintro e u ⟨rfl,hu⟩;subst u)
  | (go_at_call 162;refine (HF.out.2 _ (Same.refl _)).1.mono ?_;rintro e u ⟨rfl,hu⟩;subst u)
  | (go_at_call 161;refine HE.out.mono ?_;rintro e w1 ⟨rfl,c0,c1,c2,c3,c4,c5,HF⟩;clear HE))
 refine region_tail 16 (by kernel_rfl) ?_
 simp only [List.take_succ_cons,List.take_zero,List.drop_succ_cons,List.drop_zero]
 repeat (first | still_step | still_call (HF.out.2 _ (Same.drew _)).2.2.1 | still_call (HF.out.2 _ (Same.drew _)).2.2.2)
 refine wpStill_nil ?_
 go_wp2_with (go_at_call 152;refine (mustBe_yes (by first | rfl | (simp;omega)) 82 _).mono ?_;rintro e u ⟨rfl,hu⟩;subst u)
 go_end0
 exact ⟨rfl,HF.out.1.trans ((Same.drewN _ 1).below _)⟩
theorem fit_14no {bn bc:Nat} {n:Int} {x:Nat} {t l:Int} {st:List Nat} {calls:List Int} (h:FitAt w b bn bc 14 n x t l st calls) (h1:t≤(st.length:Int)) (h2:(st.length:Int) - t+l≤64) (h3:¬ (calls.length:Int)<16):Calls Tryz.prog 146 #[.pointer (some ⟨b,0,none⟩),.agg #[.int .i64 14,.int .i64 n,.float .f64 x]] w fun r w'=>r=gaveM 82∧Below w.heap.size w w':=by
 have HE:=Lib.hid h.eff
 have hb:=h.lt
 obtain ⟨t0,t2,l0,l2⟩:=h.tl
 have s0:=h.bln
 have s1:=h.blc
 clear h
 go_enter Tryz.func146,Tryz.ntmps146
 go_wp2_with (first
  | (go_at_call 152;refine (mustBe_yes (by first | rfl | (simp;omega)) 82 _).mono ?_;rintro e u ⟨rfl,hu⟩;subst u)
  | (go_at_call 163;refine (HF.out.2 _ (Same.refl _)).2.1.mono ?_;rintro e u ⟨rfl,hu⟩;subst u)
  | (go_at_call 162;refine (HF.out.2 _ (Same.refl _)).1.mono ?_;rintro e u ⟨rfl,hu⟩;subst u)
  | (go_at_call 161;refine HE.out.mono ?_;rintro e w1 ⟨rfl,c0,c1,c2,c3,c4,c5,HF⟩;clear HE))
 refine region_tail 16 (by kernel_rfl) ?_
 simp only [List.take_succ_cons,List.take_zero,List.drop_succ_cons,List.drop_zero]
 repeat (first | still_step | still_call (HF.out.2 _ (Same.drew _)).2.2.1 | still_call (HF.out.2 _ (Same.drew _)).2.2.2)
 refine wpStill_nil ?_
 go_wp2_with (go_at_call 152;refine (mustBe_no (by first | (simp;done) | rfl | (simp;omega)) 82 _).mono ?_;rintro e u ⟨rfl,hu⟩;subst u)
 exact ⟨rfl,rfl,HF.out.1.trans ((Same.drewN _ 1).below _)⟩
theorem fit_5no {bn bc:Nat} {n:Int} {x:Nat} {t l:Int} {st:List Nat} {calls:List Int} (h:FitAt w b bn bc 5 n x t l st calls) (hn:0≤n∧n≤63) (h1:¬ n+1≤(st.length:Int)):Calls Tryz.prog 146 #[.pointer (some ⟨b,0,none⟩),.agg #[.int .i64 5,.int .i64 n,.float .f64 x]] w fun r w'=>r=gaveM 82∧Below w.heap.size w w':=by
 have HE:=Lib.hid h.eff
 have hb:=h.lt
 obtain ⟨t0,t2,l0,l2⟩:=h.tl
 have s0:=h.bln
 have s1:=h.blc
 clear h
 go_enter Tryz.func146,Tryz.ntmps146
 go_wp2_with (first
  | (go_at_call 152;refine (mustBe_no (by first | (simp;done) | rfl | (simp;omega)) 82 _).mono ?_;rintro e u ⟨rfl,hu⟩;subst u)
  | (go_at_call 163;refine (HF.out.2 _ (Same.refl _)).2.1.mono ?_;rintro e u ⟨rfl,hu⟩;subst u)
  | (go_at_call 162;refine (HF.out.2 _ (Same.refl _)).1.mono ?_;rintro e u ⟨rfl,hu⟩;subst u)
  | (go_at_call 161;refine HE.out.mono ?_;rintro e w1 ⟨rfl,c0,c1,c2,c3,c4,c5,HF⟩;clear HE))
 exact ⟨rfl,rfl,HF.out.1⟩
theorem fit_5no2 {bn bc:Nat} {n:Int} {x:Nat} {t l:Int} {st:List Nat} {calls:List Int} (h:FitAt w b bn bc 5 n x t l st calls) (hn:0≤n∧n≤63) (h1:n+1≤(st.length:Int)) (h2:¬ (st.length:Int) - t+l≤64):Calls Tryz.prog 146 #[.pointer (some ⟨b,0,none⟩),.agg #[.int .i64 5,.int .i64 n,.float .f64 x]] w fun r w'=>r=gaveM 82∧Below w.heap.size w w':=by
 have HE:=Lib.hid h.eff
 have hb:=h.lt
 obtain ⟨t0,t2,l0,l2⟩:=h.tl
 have s0:=h.bln
 have s1:=h.blc
 clear h
 go_enter Tryz.func146,Tryz.ntmps146
 go_wp2_with (first
  | (go_at_call 152;refine (mustBe_no (by first | (simp;done) | rfl | (simp;omega)) 82 _).mono ?_;rintro e u ⟨rfl,hu⟩;subst u)
  | (go_at_call 163;refine (HF.out.2 _ (Same.refl _)).2.1.mono ?_;rintro e u ⟨rfl,hu⟩;subst u)
  | (go_at_call 162;refine (HF.out.2 _ (Same.refl _)).1.mono ?_;rintro e u ⟨rfl,hu⟩;subst u)
  | (go_at_call 161;refine HE.out.mono ?_;rintro e w1 ⟨rfl,c0,c1,c2,c3,c4,c5,HF⟩;clear HE))
 exact ⟨rfl,rfl,HF.out.1⟩
theorem fit_kno {bn bc:Nat} {n:Int} {x:Nat} {t l:Int} {st:List Nat} {calls:List Int} {k:Nat} (h:FitAt w b bn bc k n x t l st calls) (k5:¬ (k:Int)=5) (h1:¬ t≤(st.length:Int)):Calls Tryz.prog 146 #[.pointer (some ⟨b,0,none⟩),.agg #[.int .i64 (k:Int),.int .i64 n,.float .f64 x]] w fun r w'=>r=gaveM 82∧Below w.heap.size w w':=by
 have HE:=Lib.hid h.eff
 have hb:=h.lt
 obtain ⟨t0,t2,l0,l2⟩:=h.tl
 have s0:=h.bln
 have s1:=h.blc
 clear h
 go_enter Tryz.func146,Tryz.ntmps146
 go_wp2_with (first
  | (go_at_call 152;refine (mustBe_no (by first | (simp;done) | rfl | (simp;omega)) 82 _).mono ?_;rintro e u ⟨rfl,hu⟩;subst u)
  | (go_at_call 163;refine (HF.out.2 _ (Same.refl _)).2.1.mono ?_;rintro e u ⟨rfl,hu⟩;subst u)
  | (go_at_call 162;refine (HF.out.2 _ (Same.refl _)).1.mono ?_;rintro e u ⟨rfl,hu⟩;subst u)
  | (go_at_call 161;refine HE.out.mono ?_;rintro e w1 ⟨rfl,c0,c1,c2,c3,c4,c5,HF⟩;clear HE))
 exact ⟨rfl,rfl,HF.out.1⟩
theorem fit_kno2 {bn bc:Nat} {n:Int} {x:Nat} {t l:Int} {st:List Nat} {calls:List Int} {k:Nat} (h:FitAt w b bn bc k n x t l st calls) (k5:¬ (k:Int)=5) (h1:t≤(st.length:Int)) (h2:¬ (st.length:Int) - t+l≤64):Calls Tryz.prog 146 #[.pointer (some ⟨b,0,none⟩),.agg #[.int .i64 (k:Int),.int .i64 n,.float .f64 x]] w fun r w'=>r=gaveM 82∧Below w.heap.size w w':=by
 have HE:=Lib.hid h.eff
 have hb:=h.lt
 obtain ⟨t0,t2,l0,l2⟩:=h.tl
 have s0:=h.bln
 have s1:=h.blc
 clear h
 go_enter Tryz.func146,Tryz.ntmps146
 go_wp2_with (first
  | (go_at_call 152;refine (mustBe_no (by first | (simp;done) | rfl | (simp;omega)) 82 _).mono ?_;rintro e u ⟨rfl,hu⟩;subst u)
  | (go_at_call 163;refine (HF.out.2 _ (Same.refl _)).2.1.mono ?_;rintro e u ⟨rfl,hu⟩;subst u)
  | (go_at_call 162;refine (HF.out.2 _ (Same.refl _)).1.mono ?_;rintro e u ⟨rfl,hu⟩;subst u)
  | (go_at_call 161;refine HE.out.mono ?_;rintro e w1 ⟨rfl,c0,c1,c2,c3,c4,c5,HF⟩;clear HE))
 exact ⟨rfl,rfl,HF.out.1⟩
end
end Go.Proofs.YteinilmecnlanabGreatDoor
namespace Go.Proofs.YteinilmecnlanabGreatDoor
open Go.ChangeShapes Go.WideShapes Go.ChangeAt Go.RowKit Num
attribute [local go_sem] run_store_float
abbrev insO (i:Ins):Obj:=.cells #[.int .i64 i.op,.int .i64 i.n,.float .f64 i.x] 66
section
variable {W w:World} {b:Nat} {F0 K:List Nat} {m:Mac}
theorem fit_any (h:Gm W F0 b K w m) (hT:Shaped5 w) {k:Nat} {n:Int} {x:Nat} (hk:1≤k∧k<21) (hn:k=5→0≤n∧n≤63):Calls Tryz.prog 146 #[.pointer (some ⟨b,0,none⟩),.agg #[.int .i64 k,.int .i64 n,.float .f64 x]] w fun r w'=>r=(if roomB m ⟨k,n,x⟩ then .returned (.tuple #[]) else gaveM 82)∧Below w.heap.size w w':=by
 obtain ⟨bn,bc,hf⟩:=fit_at h hT n x hk
 have hrb:roomB m ⟨k,n,x⟩=(decide ((if k=5 then n+1 else (shp k).takes)≤(m.st.length:Int)) && decide ((m.st.length:Int) - (shp k).takes+(shp k).lays≤64) && !(decide (k=14) && decide (16≤m.calls.length))):=by
  unfold roomB leastI takesI laysI
  have e1:((k:Int)=5)=(k=5):=by apply propext;omega
  have e2:((k:Int)=14)=(k=14):=by apply propext;omega
  simp only [Int.toNat_natCast,e1,e2]
 by_cases h5:k=5
 ·subst h5
  have hn:=hn rfl
  by_cases h1:n+1≤(m.st.length:Int)
  ·by_cases h2:(m.st.length:Int) - (shp 5).takes+(shp 5).lays≤64
   ·rw [hrb,if_pos (by simp [h1,h2])]
    exact fit_5 hf hn h1 h2
   ·rw [hrb,if_neg (by simp [h2])]
    exact fit_5no2 hf hn h1 h2
  ·rw [hrb,if_neg (by simp;omega)]
   exact fit_5no hf hn h1
 ·have h5':¬ (k:Int)=5:=by omega
  by_cases h1:(shp k).takes≤(m.st.length:Int)
  ·by_cases h2:(m.st.length:Int) - (shp k).takes+(shp k).lays≤64
   ·by_cases h14:k=14
    ·subst h14
     by_cases h3:(m.calls.length:Int)<16
     ·rw [hrb,if_pos (by simp [h1,h2];omega)]
      exact fit_14 hf h1 h2 h3
     ·rw [hrb,if_neg (by simp [h1,h2];omega)]
      exact fit_14no hf h1 h2 h3
    ·rw [hrb,if_pos (by simp [h1,h2,h5,h14])]
     exact fit_k hf h5' (by omega) h1 h2
   ·rw [hrb,if_neg (by simp [h2])]
    exact fit_kno2 hf h5' h1 h2
  ·rw [hrb,if_neg (by simp [h5,h1])]
   exact fit_kno hf h5' h1
theorem Gm.enter (h:Gm W F0 b K w m) (o:Obj):∃ F,Gm (w.alloc o) F b K (w.alloc o) m∧∀ w' m',Gm (w.alloc o) F b K w' m'→w'.heap[w.heap.size]?=some o∧w.heap.size<w'.heap.size∧b<w'.heap.size∧Gm W F0 b K w' m':=by
 obtain ⟨F,hM,hT⟩:=h.mc
 refine ⟨F,(hM.on (below_alloc w o)).gm,fun w' m' hg=>?_⟩
 have hb:w'.heap[w.heap.size]?=some o:=(hg.far (by simp) (fun q=>absurd (hM.blw _ q) (Nat.lt_irrefl _))).trans (heap_alloc_new w o)
 refine ⟨hb,?_,hg.ltB,hg.trans (hT.trans (Below.turn (below_alloc w o) F))⟩
 rcases Nat.lt_or_ge w.heap.size w'.heap.size with q | q
 ·exact q
 ·rw [Array.getElem?_eq_none q] at hb
  cases hb
theorem Gm.drewN (h:Gm W F0 b K w m) (n:Nat):Gm W F0 b K (w.drewN n) m:=h.same (Same.drewN w n)
theorem insO_cells {w:World} {g:Nat} {i:Ins} (h:w.heap[g]?=some (insO i)):w.cell? ⟨g,0,none⟩=some (.int .i64 i.op)∧w.cell? ⟨g,1,none⟩=some (.int .i64 i.n)∧w.cell? ⟨g,2,none⟩=some (.float .f64 i.x)∧g<w.heap.size:=cells3_of h
theorem address_any (h:Gm W F0 b K w m) (hs:0<m.st.length):Calls Tryz.prog 166 #[.pointer (some ⟨b,0,none⟩)] w fun r w'=>r=(if addrB m then .returned (.int .i64 (addrV m)) else gaveM 50)∧Same w w':=by
 obtain ⟨p,hm,_,_⟩:=id h
 have h0:w.cell? ⟨b,0,none⟩=some (.int .i64 m.cells):=(hm.cell 0).trans rfl
 have hb:=hm.ltB
 clear hm
 have HP:Hid (∀ n,Calls Tryz.prog 169 #[.pointer (some ⟨b,0,none⟩),.int .i64 0] (w.drewN n) fun e w'=>e=.returned (.float .f64 (m.st.getD 0 0))∧∃ q,w'=w.drewN q):=fun n=>(pick_any (h.drewN n) 0 hs).mono fun e w' ⟨he,q,hq⟩=>⟨he,n+q,by rw [hq,World.drewN_drewN]⟩
 unfold addrB addrV
 have HI:=Lib.hid (fun w=>index_any (m.st.getD 0 0) m.cells w)
 unfold idxV idxE at *
 clear h
 generalize m.st.getD 0 0=y at *
 generalize m.cells=z at *
 cases hx:idxB y z
 ·rw [hx] at HI
  go_enter Tryz.func166,Tryz.ntmps166
  go_wp2
  go_quiet (first
   | (go_at_call 169;exact HP.out _)
   | (go_at_call 190;exact Calls.quiet_of_same (HI.out _)))
  go_wp2_with (go_at_call 152;refine (mustBe_no (by first | (simp;done) | rfl) 50 _).mono ?_;rintro e u ⟨rfl,hu⟩;subst u)
  exact ⟨rfl,rfl,Same.drewN _ _⟩
 ·rw [hx] at HI
  go_enter Tryz.func166,Tryz.ntmps166
  go_wp2
  go_quiet (first
   | (go_at_call 169;exact HP.out _)
   | (go_at_call 190;exact Calls.quiet_of_same (HI.out _)))
  go_wp2_with (go_at_call 152;refine (mustBe_yes (by first | rfl | (simp;done)) 50 _).mono ?_;rintro e u ⟨rfl,hu⟩;subst u)
  go_ret
  exact ⟨rfl,Same.drewN _ _⟩
end
end Go.Proofs.YteinilmecnlanabGreatDoor
namespace Go.Proofs.YteinilmecnlanabGreatDoor
open Go.ChangeShapes Go.WideShapes Go.ChangeAt Go.RowKit Num
attribute [local go_sem] run_store_float
theorem one_any {op:Int} (hop:1≤op∧op≤8) {y:Nat} (hy:okN y) (w:World):Calls Tryz.prog 174 #[.int .i64 op,.float .f64 y] w fun e w'=>e=.returned (.tuple #[.float .f64 (oneV op y),.int .i64 0])∧Below w.heap.size w w':=by
 obtain ⟨k,rfl⟩:∃ k:Nat,op=k:=⟨op.toNat,by omega⟩
 unfold oneV
 rw [Int.toNat_natCast]
 match k,hop with
 | 1,_=>simpa only [List.getD_cons_succ,List.getD_cons_zero,Int.cast_ofNat_Int,Grw] using one_1 y w hy.2
 | 2,_=>simpa only [List.getD_cons_succ,List.getD_cons_zero,Int.cast_ofNat_Int,Grw] using one_2 y w hy.2
 | 3,_=>simpa only [List.getD_cons_succ,List.getD_cons_zero,Int.cast_ofNat_Int,Grw] using one_3 y w hy.2
 | 4,_=>simpa only [List.getD_cons_succ,List.getD_cons_zero,Int.cast_ofNat_Int,Grw] using one_4 y w hy.2
 | 5,_=>simpa only [List.getD_cons_succ,List.getD_cons_zero,Int.cast_ofNat_Int,Grw] using one_5 y w hy.2
 | 6,_=>simpa only [List.getD_cons_succ,List.getD_cons_zero,Int.cast_ofNat_Int,Grw] using one_6 y w hy.2
 | 7,_=>simpa only [List.getD_cons_succ,List.getD_cons_zero,Int.cast_ofNat_Int,Grw] using one_7 y w hy.2
 | 8,_=>simpa only [List.getD_cons_succ,List.getD_cons_zero,Int.cast_ofNat_Int,Grw] using one_8 y w hy.2
 | 0,h=>exact absurd h.1 (by decide)
 | n+9,h=>exact absurd h.2 (by omega)
theorem two_any {op:Int} (hop:1≤op∧op≤12) {y z:Nat} (hy:okN y) (hz:okN z) (w:World):Calls Tryz.prog 175 #[.int .i64 op,.float .f64 y,.float .f64 z] w fun e w'=>e=.returned (.tuple #[.float .f64 (twoV op y z),.int .i64 0])∧Below w.heap.size w w':=by
 obtain ⟨k,rfl⟩:∃ k:Nat,op=k:=⟨op.toNat,by omega⟩
 unfold twoV
 rw [Int.toNat_natCast]
 match k,hop with
 | 1,_=>simpa only [List.getD_cons_succ,List.getD_cons_zero,Int.cast_ofNat_Int,Grw] using two_1 y z w hy.2 hz.2
 | 2,_=>simpa only [List.getD_cons_succ,List.getD_cons_zero,Int.cast_ofNat_Int,Grw] using two_2 y z w hy.2 hz.2
 | 3,_=>simpa only [List.getD_cons_succ,List.getD_cons_zero,Int.cast_ofNat_Int,Grw] using two_3 y z w hy.2 hz.2
 | 4,_=>simpa only [List.getD_cons_succ,List.getD_cons_zero,Int.cast_ofNat_Int,Grw] using two_4 y z w hy.2 hz.2
 | 5,_=>simpa only [List.getD_cons_succ,List.getD_cons_zero,Int.cast_ofNat_Int,Grw] using two_5 y z w hy.2 hz.2
 | 6,_=>simpa only [List.getD_cons_succ,List.getD_cons_zero,Int.cast_ofNat_Int,Grw] using two_6 y z w hy.2 hz.2
 | 7,_=>simpa only [List.getD_cons_succ,List.getD_cons_zero,Int.cast_ofNat_Int,Grw] using two_7 y z w hy.2 hz.2
 | 8,_=>simpa only [List.getD_cons_succ,List.getD_cons_zero,Int.cast_ofNat_Int,Grw] using two_8 y z w hy.2 hz.2
 | 9,_=>simpa only [List.getD_cons_succ,List.getD_cons_zero,Int.cast_ofNat_Int,Grw] using two_9 y z w hy.2 hz.2
 | 10,_=>simpa only [List.getD_cons_succ,List.getD_cons_zero,Int.cast_ofNat_Int,Grw] using two_10 y z w hy.2 hz.2
 | 11,_=>simpa only [List.getD_cons_succ,List.getD_cons_zero,Int.cast_ofNat_Int,Grw] using two_11 y z w hy.2 hz.2
 | 12,_=>simpa only [List.getD_cons_succ,List.getD_cons_zero,Int.cast_ofNat_Int,Grw] using two_12 y z w hy.2 hz.2
 | 0,h=>exact absurd h.1 (by decide)
 | n+13,h=>exact absurd h.2 (by omega)
section
variable {W w:World} {b:Nat} {F0 K:List Nat} {m:Mac}
theorem reckon_1 (h:Gm W F0 b K w m) (n:Int) (x:Nat) (hs:m.st.length<64):Calls Tryz.prog 151 #[.pointer (some ⟨b,0,none⟩),.agg #[.int .i64 1,.int .i64 n,.float .f64 x]] w fun r w'=>r=.returned (.tuple #[])∧Gm W F0 b K w' { m with st:=fixB x::m.st }:=by
 obtain ⟨F,h1,hX⟩:=h.enter (insO ⟨1,n,x⟩)
 have HG:=Lib.hid h1
 have HX:=Lib.hid hX
 have HS:=Lib.hid hs
 clear h h1 hX hs
 go_enter Tryz.func151,Tryz.ntmps151
 go_wp2_with (first | (go_at_call 153;refine (lay_any HG.out _ HS.out).mono ?_;rintro e u_G1 ⟨rfl,q⟩;have G1:=Lib.hid q;clear q) | (go_at_call 67;refine (fix_any _ _).mono ?_;rintro e u ⟨rfl,hu⟩;subst u))
 go_end0
 exact ⟨rfl,(HX.out _ _ G1.out).2.2.2⟩
theorem reckon_2 (h:Gm W F0 b K w m) (n:Int) (x:Nat) {y:Nat} {s:List Nat} (hs:m.st=y::s):Calls Tryz.prog 151 #[.pointer (some ⟨b,0,none⟩),.agg #[.int .i64 2,.int .i64 n,.float .f64 x]] w fun r w'=>r=.returned (.tuple #[])∧Gm W F0 b K w' { m with st:=s }:=by
 obtain ⟨F,h1,hX⟩:=h.enter (insO ⟨2,n,x⟩)
 have HG:=Lib.hid h1
 have HX:=Lib.hid hX
 have HS:=Lib.hid hs
 clear h h1 hX hs
 go_enter Tryz.func151,Tryz.ntmps151
 go_wp2_with (go_at_call 167;refine (take_any HG.out HS.out).mono ?_;rintro e u_G1 ⟨rfl,q⟩;have G1:=Lib.hid q;clear q)
 go_end0
 exact ⟨rfl,(HX.out _ _ G1.out).2.2.2⟩
theorem reckon_3 (h:Gm W F0 b K w m) (n:Int) (x:Nat) (h0:0<m.st.length) (hs:m.st.length<64):Calls Tryz.prog 151 #[.pointer (some ⟨b,0,none⟩),.agg #[.int .i64 3,.int .i64 n,.float .f64 x]] w fun r w'=>r=.returned (.tuple #[])∧Gm W F0 b K w' { m with st:=m.st.getD 0 0::m.st }:=by
 obtain ⟨F,h1,hX⟩:=h.enter (insO ⟨3,n,x⟩)
 have HG:=Lib.hid h1
 have HX:=Lib.hid hX
 have HS:=Lib.hid (And.intro h0 hs)
 clear h h1 hX hs h0
 go_enter Tryz.func151,Tryz.ntmps151
 go_wp2_with (first | (go_at_call 153;refine (lay_any (HG.out.drewN _) _ HS.out.2).mono ?_;rintro e u_G1 ⟨rfl,q⟩;have G1:=Lib.hid q;clear q) | (go_at_call 169;refine (pick_any HG.out 0 HS.out.1).mono ?_;rintro e u ⟨rfl,q,hq⟩;subst u))
 go_end0
 exact ⟨rfl,(HX.out _ _ G1.out).2.2.2⟩
theorem reckon_4 (h:Gm W F0 b K w m) (n:Int) (x:Nat) {y z:Nat} {s:List Nat} (hs:m.st=y::z::s) (hl:s.length+2≤64):Calls Tryz.prog 151 #[.pointer (some ⟨b,0,none⟩),.agg #[.int .i64 4,.int .i64 n,.float .f64 x]] w fun r w'=>r=.returned (.tuple #[])∧Gm W F0 b K w' { m with st:=z::y::s }:=by
 obtain ⟨F,h1,hX⟩:=h.enter (insO ⟨4,n,x⟩)
 have HG:=Lib.hid h1
 have HX:=Lib.hid hX
 have HS:=Lib.hid hs
 have HL:=Lib.hid hl
 clear h h1 hX hs hl
 go_enter Tryz.func151,Tryz.ntmps151
 go_wp2_with (first
  | (go_at_call 153;refine (lay_any G3.out _ (by have:=HL.out;simp;omega)).mono ?_;rintro e u_G4 ⟨rfl,q⟩;have G4:=Lib.hid q;clear q)
  | (go_at_call 153;refine (lay_any G2.out _ (by have:=HL.out;simp;omega)).mono ?_;rintro e u_G3 ⟨rfl,q⟩;have G3:=Lib.hid q;clear q)
  | (go_at_call 167;refine (take_any G1.out rfl).mono ?_;rintro e u_G2 ⟨rfl,q⟩;have G2:=Lib.hid q;clear q)
  | (go_at_call 167;refine (take_any HG.out HS.out).mono ?_;rintro e u_G1 ⟨rfl,q⟩;have G1:=Lib.hid q;clear q))
 go_end0
 exact ⟨rfl,(HX.out _ _ G4.out).2.2.2⟩
theorem reckon_5 (h:Gm W F0 b K w m) (n:Int) (x:Nat) {k:Nat} (hn:n=(k:Int)) (h0:k<m.st.length) (hs:m.st.length<64):Calls Tryz.prog 151 #[.pointer (some ⟨b,0,none⟩),.agg #[.int .i64 5,.int .i64 n,.float .f64 x]] w fun r w'=>r=.returned (.tuple #[])∧Gm W F0 b K w' { m with st:=m.st.getD k 0::m.st }:=by
 obtain ⟨F,h1,hX⟩:=h.enter (insO ⟨5,n,x⟩)
 have HG:=Lib.hid h1
 have HX:=Lib.hid hX
 subst hn
 have HS:=Lib.hid (And.intro h0 hs)
 clear h h1 hX hs h0
 go_enter Tryz.func151,Tryz.ntmps151
 go_wp2_with (first | (go_at_call 153;refine (lay_any (HG.out.drewN _) _ HS.out.2).mono ?_;rintro e u_G1 ⟨rfl,q⟩;have G1:=Lib.hid q;clear q) | (go_at_call 169;refine (pick_any HG.out k HS.out.1).mono ?_;rintro e u ⟨rfl,q,hq⟩;subst u))
 go_end0
 exact ⟨rfl,(HX.out _ _ G1.out).2.2.2⟩
theorem args_at (h:Gm W F0 b K w m) {k:Nat} (hk:k<8):w.cell? ⟨b,4+k,none⟩=some (.float .f64 (m.args k)):=by
 obtain ⟨p,hm,_,_⟩:=h
 match k,hk with
 | 0,_=>exact (hm.cell 4).trans rfl
 | 1,_=>exact (hm.cell 5).trans rfl
 | 2,_=>exact (hm.cell 6).trans rfl
 | 3,_=>exact (hm.cell 7).trans rfl
 | 4,_=>exact (hm.cell 8).trans rfl
 | 5,_=>exact (hm.cell 9).trans rfl
 | 6,_=>exact (hm.cell 10).trans rfl
 | 7,_=>exact (hm.cell 11).trans rfl
theorem loc_at (h:Gm W F0 b K w m) {k:Nat} (hk:k<8):w.cell? ⟨b,12+k,none⟩=some (.float .f64 (m.loc k)):=by
 obtain ⟨p,hm,_,_⟩:=h
 match k,hk with
 | 0,_=>exact (hm.cell 12).trans rfl
 | 1,_=>exact (hm.cell 13).trans rfl
 | 2,_=>exact (hm.cell 14).trans rfl
 | 3,_=>exact (hm.cell 15).trans rfl
 | 4,_=>exact (hm.cell 16).trans rfl
 | 5,_=>exact (hm.cell 17).trans rfl
 | 6,_=>exact (hm.cell 18).trans rfl
 | 7,_=>exact (hm.cell 19).trans rfl
theorem loc_set (h:Gm W F0 b K w m) {k:Nat} (hk:k<8) (y:Nat):Gm W F0 b K (w.setCell ⟨b,12+k,none⟩ (.float .f64 y)) { m with loc:=updF m.loc k y }:=by
 refine h.set (12+k) _ _ (fun p hp=>⟨p.wt,?_,hp⟩) ⟨rfl,rfl,rfl,rfl,rfl,rfl,rfl⟩
 match k,hk with
 | 0,_=>rfl
 | 1,_=>rfl
 | 2,_=>rfl
 | 3,_=>rfl
 | 4,_=>rfl
 | 5,_=>rfl
 | 6,_=>rfl
 | 7,_=>rfl
theorem reckon_6 (h:Gm W F0 b K w m) (n:Int) (x:Nat) {k:Nat} (hn:n=(k:Int)) (h0:k<8) (hs:m.st.length<64):Calls Tryz.prog 151 #[.pointer (some ⟨b,0,none⟩),.agg #[.int .i64 6,.int .i64 n,.float .f64 x]] w fun r w'=>r=.returned (.tuple #[])∧Gm W F0 b K w' { m with st:=m.args k::m.st }:=by
 obtain ⟨F,h1,hX⟩:=h.enter (insO ⟨6,n,x⟩)
 have HG:=Lib.hid h1
 have HX:=Lib.hid hX
 subst hn
 have HS:=Lib.hid hs
 have hb:=h.ltB
 have hk8:(k:Int)<8:=by omega
 have hc:w.cell? ⟨b,4+k,none⟩=some (.float .f64 (m.args k)):=args_at h h0
 clear h h1 hX hs h0
 go_enter Tryz.func151,Tryz.ntmps151
 go_wp2
 refine region_tail 8 (by kernel_rfl) ?_
 simp only [List.take_succ_cons,List.take_zero,List.drop_succ_cons,List.drop_zero]
 repeat still_step
 refine wpStill_nil ?_
 go_wp2_with (go_at_call 153;refine (lay_any (HG.out.drewN 1) _ HS.out).mono ?_;rintro e u_G1 ⟨rfl,q⟩;have G1:=Lib.hid q;clear q)
 go_end0
 exact ⟨rfl,(HX.out _ _ G1.out).2.2.2⟩
theorem reckon_7 (h:Gm W F0 b K w m) (n:Int) (x:Nat) {k:Nat} (hn:n=(k:Int)) (h0:k<8) (hs:m.st.length<64):Calls Tryz.prog 151 #[.pointer (some ⟨b,0,none⟩),.agg #[.int .i64 7,.int .i64 n,.float .f64 x]] w fun r w'=>r=.returned (.tuple #[])∧Gm W F0 b K w' { m with st:=m.loc k::m.st }:=by
 obtain ⟨F,h1,hX⟩:=h.enter (insO ⟨7,n,x⟩)
 have HG:=Lib.hid h1
 have HX:=Lib.hid hX
 subst hn
 have HS:=Lib.hid hs
 have hb:=h.ltB
 have hk8:(k:Int)<8:=by omega
 have hc:w.cell? ⟨b,12+k,none⟩=some (.float .f64 (m.loc k)):=loc_at h h0
 clear h h1 hX hs h0
 go_enter Tryz.func151,Tryz.ntmps151
 go_wp2
 refine region_tail 8 (by kernel_rfl) ?_
 simp only [List.take_succ_cons,List.take_zero,List.drop_succ_cons,List.drop_zero]
 repeat still_step
 refine wpStill_nil ?_
 go_wp2_with (go_at_call 153;refine (lay_any (HG.out.drewN 1) _ HS.out).mono ?_;rintro e u_G1 ⟨rfl,q⟩;have G1:=Lib.hid q;clear q)
 go_end0
 exact ⟨rfl,(HX.out _ _ G1.out).2.2.2⟩
end
end Go.Proofs.YteinilmecnlanabGreatDoor
namespace Go.Proofs.YteinilmecnlanabGreatDoor
open Go.ChangeShapes Go.WideShapes Go.ChangeAt Go.RowKit Num
attribute [local go_sem] run_store_float
section
variable {W w:World} {b:Nat} {F0 K:List Nat} {m:Mac}
theorem move_11 (h:Gm W F0 b K w m) (n:Int) (x:Nat) :Calls Tryz.prog 150 #[.pointer (some ⟨b,0,none⟩),.agg #[.int .i64 11,.int .i64 n,.float .f64 x]] w fun r w'=>r=.returned (.tuple #[])∧Gm W F0 b K w' { m with place:=n }:=by
 have hb:=h.ltB
 have h22:w.cell? ⟨b,22,none⟩=some (.int .i64 m.place):=by obtain ⟨p,hm,_,_⟩:=h;exact (hm.cell 22).trans rfl
 have f22:=h.free 22
 have HD:=Lib.hid (h.set 22 (.int .i64 n) { m with place:=n } (fun p hp=>⟨p.wt,rfl,hp⟩) ⟨rfl,rfl,rfl,rfl,rfl,rfl,rfl⟩)
 clear h
 go_enter Tryz.func150,Tryz.ntmps150
 go_wp2
 go_end0
 exact ⟨rfl,HD.out.alloc _⟩
theorem place_at (h:Gm W F0 b K w m):w.cell? ⟨b,22,none⟩=some (.int .i64 m.place):=by
 obtain ⟨p,hm,_,_⟩:=h
 exact (hm.cell 22).trans rfl
theorem place_set (h:Gm W F0 b K w m) (n:Int):Gm W F0 b K (w.setCell ⟨b,22,none⟩ (.int .i64 n)) { m with place:=n } :=
 h.set 22 (.int .i64 n) { m with place:=n } (fun p hp=>⟨p.wt,rfl,hp⟩) ⟨rfl,rfl,rfl,rfl,rfl,rfl,rfl⟩
theorem move_12y (h:Gm W F0 b K w m) (n:Int) (x:Nat) {y:Nat} {s:List Nat} (hs:m.st=y::s) (ht:trueB y=true):Calls Tryz.prog 150 #[.pointer (some ⟨b,0,none⟩),.agg #[.int .i64 12,.int .i64 n,.float .f64 x]] w fun r w'=>r=.returned (.tuple #[])∧Gm W F0 b K w' { m with place:=n,st:=s }:=by
 obtain ⟨F,h1,hX⟩:=h.enter (insO ⟨12,n,x⟩)
 have HG:=Lib.hid h1
 have HX:=Lib.hid hX
 have HS:=Lib.hid hs
 have HT:Hid (∀ w,_):=fun w=>true_any y w
 rw [ht] at HT
 clear h h1 hX hs ht
 go_enter Tryz.func150,Tryz.ntmps150
 go_wp2_with (first
  | (go_at_call 172;refine (HT.out _).mono ?_;rintro e u ⟨rfl,hu⟩;subst u)
  | (go_at_call 167;refine (take_any HG.out HS.out).mono ?_;rintro e u1 ⟨rfl,q⟩;obtain ⟨r1,r2,r3,r4⟩:=HX.out _ _ q;obtain ⟨c0,c1,c2,c3⟩:=insO_cells r1;have d0:=place_at q;have d1:=q.free 22;have d2:=q.ltB;have G1:=Lib.hid q;clear q r1 r2 r3 r4))
 go_end0
 exact ⟨rfl,(HX.out _ _ (place_set G1.out n)).2.2.2⟩
theorem move_12n (h:Gm W F0 b K w m) (n:Int) (x:Nat) {y:Nat} {s:List Nat} (hs:m.st=y::s) (ht:trueB y=false):Calls Tryz.prog 150 #[.pointer (some ⟨b,0,none⟩),.agg #[.int .i64 12,.int .i64 n,.float .f64 x]] w fun r w'=>r=.returned (.tuple #[])∧Gm W F0 b K w' { m with st:=s }:=by
 obtain ⟨F,h1,hX⟩:=h.enter (insO ⟨12,n,x⟩)
 have HG:=Lib.hid h1
 have HX:=Lib.hid hX
 have HS:=Lib.hid hs
 have HT:Hid (∀ w,_):=fun w=>true_any y w
 rw [ht] at HT
 clear h h1 hX hs ht
 go_enter Tryz.func150,Tryz.ntmps150
 go_wp2_with (first
  | (go_at_call 172;refine (HT.out _).mono ?_;rintro e u ⟨rfl,hu⟩;subst u)
  | (go_at_call 167;refine (take_any HG.out HS.out).mono ?_;rintro e u1 ⟨rfl,q⟩;obtain ⟨r1,r2,r3,r4⟩:=HX.out _ _ q;obtain ⟨c0,c1,c2,c3⟩:=insO_cells r1;have d0:=place_at q;have d1:=q.free 22;have d2:=q.ltB;have G1:=Lib.hid q;clear q r1 r2 r3 r4))
 go_end0
 exact ⟨rfl,(HX.out _ _ G1.out).2.2.2⟩
theorem move_13y (h:Gm W F0 b K w m) (n:Int) (x:Nat) {y:Nat} {s:List Nat} (hs:m.st=y::s) (ht:trueB y=true):Calls Tryz.prog 150 #[.pointer (some ⟨b,0,none⟩),.agg #[.int .i64 13,.int .i64 n,.float .f64 x]] w fun r w'=>r=.returned (.tuple #[])∧Gm W F0 b K w' { m with st:=s }:=by
 obtain ⟨F,h1,hX⟩:=h.enter (insO ⟨13,n,x⟩)
 have HG:=Lib.hid h1
 have HX:=Lib.hid hX
 have HS:=Lib.hid hs
 have HT:Hid (∀ w,_):=fun w=>true_any y w
 rw [ht] at HT
 clear h h1 hX hs ht
 go_enter Tryz.func150,Tryz.ntmps150
 go_wp2_with (first
  | (go_at_call 172;refine (HT.out _).mono ?_;rintro e u ⟨rfl,hu⟩;subst u)
  | (go_at_call 167;refine (take_any HG.out HS.out).mono ?_;rintro e u1 ⟨rfl,q⟩;obtain ⟨r1,r2,r3,r4⟩:=HX.out _ _ q;obtain ⟨c0,c1,c2,c3⟩:=insO_cells r1;have d0:=place_at q;have d1:=q.free 22;have d2:=q.ltB;have G1:=Lib.hid q;clear q r1 r2 r3 r4))
 go_end0
 exact ⟨rfl,(HX.out _ _ G1.out).2.2.2⟩
theorem move_13n (h:Gm W F0 b K w m) (n:Int) (x:Nat) {y:Nat} {s:List Nat} (hs:m.st=y::s) (ht:trueB y=false):Calls Tryz.prog 150 #[.pointer (some ⟨b,0,none⟩),.agg #[.int .i64 13,.int .i64 n,.float .f64 x]] w fun r w'=>r=.returned (.tuple #[])∧Gm W F0 b K w' { m with place:=n,st:=s }:=by
 obtain ⟨F,h1,hX⟩:=h.enter (insO ⟨13,n,x⟩)
 have HG:=Lib.hid h1
 have HX:=Lib.hid hX
 have HS:=Lib.hid hs
 have HT:Hid (∀ w,_):=fun w=>true_any y w
 rw [ht] at HT
 clear h h1 hX hs ht
 go_enter Tryz.func150,Tryz.ntmps150
 go_wp2_with (first
  | (go_at_call 172;refine (HT.out _).mono ?_;rintro e u ⟨rfl,hu⟩;subst u)
  | (go_at_call 167;refine (take_any HG.out HS.out).mono ?_;rintro e u1 ⟨rfl,q⟩;obtain ⟨r1,r2,r3,r4⟩:=HX.out _ _ q;obtain ⟨c0,c1,c2,c3⟩:=insO_cells r1;have d0:=place_at q;have d1:=q.free 22;have d2:=q.ltB;have G1:=Lib.hid q;clear q r1 r2 r3 r4))
 go_end0
 exact ⟨rfl,(HX.out _ _ (place_set G1.out n)).2.2.2⟩
theorem move_14 (h:Gm W F0 b K w m) (n:Int) (x:Nat) (hc:m.calls.length<16):Calls Tryz.prog 150 #[.pointer (some ⟨b,0,none⟩),.agg #[.int .i64 14,.int .i64 n,.float .f64 x]] w fun r w'=>r=.returned (.tuple #[])∧Gm W F0 b K w' { m with calls:=m.place::m.calls,place:=n }:=by
 obtain ⟨F,h1,hX⟩:=h.enter (insO ⟨14,n,x⟩)
 have HG:=Lib.hid h1
 have HX:=Lib.hid hX
 obtain ⟨p,hm,ht,hk⟩:=id h1
 have h21:(w.alloc (insO ⟨14,n,x⟩)).cell? ⟨b,21,none⟩=some (.pointer (some ⟨p.bc,0,none⟩)):=(hm.cell 21).trans rfl
 have h22:=place_at h1
 have hb:=h.ltB
 have hp:=hm.cal
 have HP:Hid (∀ q,Calls Tryz.prog 173 #[.pointer (some ⟨p.bc,0,none⟩),.int .i64 m.place] ((w.alloc (insO ⟨14,n,x⟩)).drewN q) fun e w'=>e=.returned (.int .i64 0)∧Gm (w.alloc (insO ⟨14,n,x⟩)) F b K w' { m with calls:=m.place::m.calls }):=fun q=>by
  refine (iPush_any (hp.same (Same.drewN _ q)) m.place).mono fun e w' ⟨F',he,a1,a2⟩=>⟨?_,?_⟩
  ·rw [he]
   simp [pushE]
   omega
  ·rw [show pushL m.calls.reverse 16 m.place=(m.place::m.calls).reverse by simp [pushL];omega] at a1
   obtain ⟨b1,b2⟩:=(hm.same (Same.drewN _ q)).putC a1 a2
   exact ⟨_,b1,(ht.trans ((Same.drewN _ q).turn _)).trans b2,hk⟩
 clear h h1 hX hm ht hk hp hc
 go_enter Tryz.func150,Tryz.ntmps150
 go_wp2
 refine region_tail 8 (by kernel_rfl) ?_
 simp only [List.take_succ_cons,List.take_zero,List.drop_succ_cons,List.drop_zero]
 repeat still_step
 refine wpStill_nil ?_
 go_wp2_with (go_at_call 173;refine (HP.out 1).mono ?_;rintro e u1 ⟨rfl,q⟩;obtain ⟨r1,r2,r3,r4⟩:=HX.out _ _ q;obtain ⟨c0,c1,c2,c3⟩:=insO_cells r1;have d0:=place_at q;have d1:=q.free 22;have d2:=q.ltB;have G1:=Lib.hid q;clear q r1 r2 r3 r4 HP)
 go_end0
 exact ⟨rfl,(HX.out _ _ (place_set G1.out n)).2.2.2⟩
end
end Go.Proofs.YteinilmecnlanabGreatDoor
namespace Go.Proofs.YteinilmecnlanabGreatDoor
open Go.ChangeShapes Go.WideShapes Go.ChangeAt Go.RowKit Num
attribute [local go_sem] run_store_float
section
variable {W w:World} {b:Nat} {F0 K:List Nat} {m:Mac}
theorem reckon_8 (h:Gm W F0 b K w m) (n:Int) (x:Nat) {k y:Nat} {s:List Nat} (hn:n=(k:Int)) (h0:k<8) (hs:m.st=y::s):Calls Tryz.prog 151 #[.pointer (some ⟨b,0,none⟩),.agg #[.int .i64 8,.int .i64 n,.float .f64 x]] w fun r w'=>r=.returned (.tuple #[])∧Gm W F0 b K w' { m with loc:=updF m.loc k y,st:=s }:=by
 obtain ⟨F,h1,hX⟩:=h.enter (insO ⟨8,n,x⟩)
 have HG:=Lib.hid h1
 have HX:=Lib.hid hX
 subst hn
 have HS:=Lib.hid hs
 have H0:=Lib.hid h0
 have hb:=h.ltB
 have hk8:(k:Int)<8:=by omega
 clear h h1 hX hs h0
 go_enter Tryz.func151,Tryz.ntmps151
 go_wp2
 go_region_held (fun w'=>w'.cell? ⟨w.heap.size,1,none⟩=some (.int .i64 (k:Int))) (first | go_keep | assumption) (first
  | (go_at_call 167;refine (take_any (HG.out.drewN 1) HS.out).mono ?_;rintro e u1 ⟨rfl,q⟩;obtain ⟨r1,r2,r3,r4⟩:=HX.out _ _ q;obtain ⟨c0,c1,c2,c3⟩:=insO_cells r1;have d0:=loc_at q H0.out;have c9:(u1.setCell ⟨b,12+k,none⟩ (.float .f64 y)).cell? ⟨w.heap.size,1,none⟩=some (.int .i64 (k:Int)):=(World.cell?_of_block (a:=⟨w.heap.size,1,none⟩) (heap_setCell_other _ _ _ _ (by simp;omega))).trans c1;have d1:=q.free (12+k);have d2:=q.ltB;have G1:=Lib.hid q;clear q r1 r2 r3 r4))
 all_goals (try go_wp2)
 all_goals go_end0
 all_goals exact ⟨rfl,(HX.out _ _ (loc_set G1.out H0.out y)).2.2.2⟩
theorem reckon_9 (h:Gm W F0 b K w m) (n:Int) (x:Nat) {y:Nat} {s:List Nat} (hn:1≤n∧n≤8) (hy:okN y) (hs:m.st=y::s) (hl:s.length<64):Calls Tryz.prog 151 #[.pointer (some ⟨b,0,none⟩),.agg #[.int .i64 9,.int .i64 n,.float .f64 x]] w fun r w'=>r=.returned (.tuple #[])∧Gm W F0 b K w' { m with st:=oneV n y::s }:=by
 obtain ⟨F,h1,hX⟩:=h.enter (insO ⟨9,n,x⟩)
 have HG:=Lib.hid h1
 have HX:=Lib.hid hX
 have HS:=Lib.hid hs
 have HN:=Lib.hid (And.intro hn (And.intro hy hl))
 have hb:=h.ltB
 clear h h1 hX hs hn hy hl
 go_enter Tryz.func151,Tryz.ntmps151
 go_wp2
 go_region_held (fun w'=>w'.cell? ⟨w.heap.size,1,none⟩=some (.int .i64 n)) (go_keep) (first
  | (go_at_call 174;refine (one_any HN.out.1 HN.out.2.1 _).mono ?_;rintro e u2 ⟨rfl,q⟩;have q2:=G1.out.on q;obtain ⟨r1,r2,r3,r4⟩:=HX.out _ _ q2;obtain ⟨e0,e1,e2,e3⟩:=insO_cells r1;have G2:=Lib.hid q2;clear q q2 r1 r2 r3 r4)
  | (go_at_call 167;refine (take_any (HG.out.drewN 1) HS.out).mono ?_;rintro e u1 ⟨rfl,q⟩;obtain ⟨r1,r2,r3,r4⟩:=HX.out _ _ q;obtain ⟨c0,c1,c2,c3⟩:=insO_cells r1;have G1:=Lib.hid q;clear q r1 r2 r3 r4))
 all_goals go_wp2_with (go_at_call 153;refine (lay_any G2.out _ HN.out.2.2).mono ?_;rintro e u3 ⟨rfl,q⟩;have G3:=Lib.hid q;clear q)
 all_goals go_end0
 all_goals exact ⟨rfl,(HX.out _ _ G3.out).2.2.2⟩
theorem reckon_10 (h:Gm W F0 b K w m) (n:Int) (x:Nat) {y z:Nat} {s:List Nat} (hn:1≤n∧n≤12) (hy:okN y) (hz:okN z) (hs:m.st=y::z::s) (hl:s.length<64):Calls Tryz.prog 151 #[.pointer (some ⟨b,0,none⟩),.agg #[.int .i64 10,.int .i64 n,.float .f64 x]] w fun r w'=>r=.returned (.tuple #[])∧Gm W F0 b K w' { m with st:=twoV n z y::s }:=by
 obtain ⟨F,h1,hX⟩:=h.enter (insO ⟨10,n,x⟩)
 have HG:=Lib.hid h1
 have HX:=Lib.hid hX
 have HS:=Lib.hid hs
 have HN:=Lib.hid (And.intro hn (And.intro hy (And.intro hz hl)))
 have hb:=h.ltB
 clear h h1 hX hs hn hy hz hl
 go_enter Tryz.func151,Tryz.ntmps151
 go_wp2_with (first
  | (go_at_call 153;refine (lay_any G3.out _ HN.out.2.2.2).mono ?_;rintro e u4 ⟨rfl,q⟩;have G4:=Lib.hid q;clear q)
  | (go_at_call 175;refine (two_any HN.out.1 HN.out.2.2.1 HN.out.2.1 _).mono ?_;rintro e u3 ⟨rfl,q⟩;have G3:=Lib.hid (G2.out.on q);clear q)
  | (go_at_call 167;refine (take_any G1.out rfl).mono ?_;rintro e u2 ⟨rfl,q⟩;obtain ⟨r1,r2,r3,r4⟩:=HX.out _ _ q;obtain ⟨c0,c1,c2,c3⟩:=insO_cells r1;have G2:=Lib.hid q;clear q r1 r2 r3 r4)
  | (go_at_call 167;refine (take_any HG.out HS.out).mono ?_;rintro e u_G1 ⟨rfl,q⟩;have G1:=Lib.hid q;clear q))
 go_end0
 exact ⟨rfl,(HX.out _ _ G4.out).2.2.2⟩
end
end Go.Proofs.YteinilmecnlanabGreatDoor
namespace Go.Proofs.YteinilmecnlanabGreatDoor
open Go.ChangeShapes Go.WideShapes Go.ChangeAt Go.RowKit Num
attribute [local go_sem] run_store_float
theorem at_of {v:Value} {g n c H B:Nat} (h:v.ownBlock=some g∨g=H) (hB:B≤H):(Value.slice (some ⟨g,0,none⟩) n c).ownBlock=v.ownBlock∨∃ s,(Value.slice (some ⟨g,0,none⟩) n c).ownBlock=some s∧B≤s:=by
 rcases h with h | h
 ·exact .inl h.symm
 ·exact .inr ⟨g,rfl,by omega⟩
section
variable {W w:World} {b:Nat} {F0 K:List Nat} {m:Mac}
theorem take_at {p:Pt} (hm:MacAt w b m p) {x:Nat} {s:List Nat} (hs:m.st=x::s):Calls Tryz.prog 167 #[.pointer (some ⟨b,0,none⟩)] w fun e w'=>∃ F',e=.returned (.float .f64 x)∧MacAt w' b { m with st:=s } { p with Fn:=F' }∧Turn (p.F b) ({ p with Fn:=F' }.F b) w w':=by
 have h20:w.cell? ⟨b,20,none⟩=some (.pointer (some ⟨p.bn,0,none⟩)):=(hm.cell 20).trans rfl
 have hb:=hm.ltB
 have HP:=Lib.hid (fPop_some (m:=s.reverse) (x:=x) (by have:=hm.num;rw [hs,List.reverse_cons] at this;exact this))
 have HD:Hid (∀ F' w',NStk w' p.bn F' s.reverse→Turn p.Fn F' w w'→MacAt w' b { m with st:=s } { p with Fn:=F' }∧Turn (p.F b) ({ p with Fn:=F' }.F b) w w'):=fun F' w' q1 q2=>hm.putN q1 q2
 clear hm
 go_enter Tryz.func167,Tryz.ntmps167
 go_wp2_with (go_at_call 191;refine HP.out.mono ?_;rintro e w1 ⟨F',rfl,q1,q2⟩;have HQ:=Lib.hid (HD.out _ _ q1 q2);clear q1 q2 HD HP)
 go_ret
 exact ⟨F',rfl,HQ.out⟩
theorem reckon_18 (h:Gm W F0 b K w m) (n:Int) (x:Nat) {y:Nat} {s:List Nat} (hs:m.st=y::s) (hl:m.out.length≤1024):Calls Tryz.prog 151 #[.pointer (some ⟨b,0,none⟩),.agg #[.int .i64 18,.int .i64 n,.float .f64 x]] w fun r w'=>r=.returned (.tuple #[])∧Gm W F0 b K w' { m with out:=m.out ++ [y],st:=s }:=by
 obtain ⟨F,h1,hX⟩:=h.enter (insO ⟨18,n,x⟩)
 have HX:=Lib.hid hX
 obtain ⟨p,hm,ht,hk⟩:=h1
 have hb:=h.ltB
 have h24:w.cell? ⟨b,24,none⟩=some (.slice p.po m.out.length p.co):=((below_alloc w (insO ⟨18,n,x⟩)).cell (p:=⟨b,24,none⟩) hb).symm.trans ((hm.cell 24).trans rfl)
 have HM:=Lib.hid (hm.same (Same.drew _))
 have HT:Hid (Turn F (p.F b) (w.alloc (insO ⟨18,n,x⟩)) (w.alloc (insO ⟨18,n,x⟩)).drew∧K=fpR p.pk):=⟨ht.trans ((Same.drew _).turn _),hk⟩
 have HS:=Lib.hid (And.intro hs hl)
 obtain ⟨i0,hi,hz0,hz1,hz2⟩:=info_parts fInfo
 have HZI:=Lib.hid (And.intro hi (And.intro hz0 (And.intro hz1 hz2)))
 clear h hX hm ht hk hs hl hi hz0 hz1 hz2
 go_enter Tryz.func151,Tryz.ntmps151
 go_wp2
 go_region_law (first
  | (go_simp;go_at_call 167;refine (take_at HM.out HS.out.1).mono ?_;rintro e u1 ⟨F',rfl,q1,q2⟩;have c24:u1.cell? ⟨b,24,none⟩=some (.slice p.po m.out.length p.co):=(q1.cell 24).trans rfl;have f24:=q1.free 24;have l24:=q1.ltB;have HO:Hid ((u1.alloc (.cells #[.float .f64 y] 64)).ownsRow 0 64 1 (.slice p.po m.out.length p.co) m.out.length (fls m.out)):=World.ownsRow.alloc (by have:=q1.out.own;rw [fls_len] at this;exact this) _;have G1:=Lib.hid (And.intro q1 q2);clear q1 q2)
  | (refine step_append_lies _ (by rfl) _ _ _ (by rfl) 0 64 i0 (.float .f64 0) 1 8 Tryz.underlying27 HZI.out.1 HZI.out.2.1 HZI.out.2.2.1 HZI.out.2.2.2 rfl (by omega) _ m.out.length (fls m.out) (by rfl) HO.out ⟨u1.heap.size,0,none⟩ 1 1 [.float .f64 y] (by rfl) (by rfl) (cell_one_new _ _ _) (by simp [Value.oneCell']) (by omega) (by have:=HS.out.2;unfold maxLen;omega) (by have:=HS.out.2;omega) (by omega) (u1.heap.size+1) (by simp) ?_;intro g5 cap5 w5 hown5 hgrow5 hat5 hlt5;obtain ⟨p5,c5,e5,b5,k5,t5⟩:=G1.out.1.putO hown5 ((World.grownBy_alloc u1 _ _).trans hgrow5) (at_of hat5 (by omega));have c25:w5.cell? ⟨b,24,none⟩=some (.slice p.po m.out.length p.co):=(cell_of_row w5 b 24 _ _ _ b5).trans rfl;have f25:=frozen_of_row w5 b 24 _ _ b5;have l25:=lt_of_block b5;have G5:=Lib.hid (And.intro k5 t5);clear e5 b5 k5 t5 hown5 hgrow5 hat5 hlt5))
 all_goals (try go_wp2)
 all_goals go_end0
 all_goals exact ⟨rfl,(HX.out _ _ ⟨_,G5.out.1,(HT.out.1.trans G1.out.2).trans G5.out.2,HT.out.2⟩).2.2.2⟩
end
end Go.Proofs.YteinilmecnlanabGreatDoor
namespace Go.Proofs.YteinilmecnlanabGreatDoor
open Go.ChangeShapes Go.WideShapes Go.ChangeAt Go.RowKit Num
attribute [local go_sem] run_store_float
abbrev askO (k:Ask):Obj:=.cells #[.int .i64 k.kind,.int .i64 k.cell,.float .f64 k.x,.bool k.first] 111
theorem askO_cells {w:World} {g:Nat} {k:Ask} (h:w.heap[g]?=some (askO k)):(w.cell? ⟨g,0,none⟩=some (.int .i64 k.kind)∧w.cell? ⟨g,1,none⟩=some (.int .i64 k.cell)∧w.cell? ⟨g,2,none⟩=some (.float .f64 k.x)∧w.cell? ⟨g,3,none⟩=some (.bool k.first)∧g<w.heap.size)∧w.frozen? ⟨g,0,none⟩=false∧w.frozen? ⟨g,1,none⟩=false∧w.frozen? ⟨g,2,none⟩=false∧w.frozen? ⟨g,3,none⟩=false :=
 ⟨⟨by rw [cell_of_row w g 0 _ _ _ h];rfl,by rw [cell_of_row w g 1 _ _ _ h];rfl,by rw [cell_of_row w g 2 _ _ _ h];rfl,by rw [cell_of_row w g 3 _ _ _ h];rfl,lt_of_block h⟩,frozen_of_row w g 0 _ _ h,frozen_of_row w g 1 _ _ h,frozen_of_row w g 2 _ _ h,frozen_of_row w g 3 _ _ h⟩
theorem askO_set {w:World} {g:Nat} {k k':Ask} (h:w.heap[g]?=some (askO k)):((((w.setCell ⟨g,0,none⟩ (.int .i64 k'.kind)).setCell ⟨g,1,none⟩ (.int .i64 k'.cell)).setCell ⟨g,2,none⟩ (.float .f64 k'.x)).setCell ⟨g,3,none⟩ (.bool k'.first)).heap[g]?=some (askO k'):=by
 have e1:=heap_setCell_same w g 0 _ _ (.int .i64 k'.kind) h
 have e2:=heap_setCell_same _ g 1 _ _ (.int .i64 k'.cell) e1
 have e3:=heap_setCell_same _ g 2 _ _ (.float .f64 k'.x) e2
 exact (heap_setCell_same _ g 3 _ _ (.bool k'.first) e3).trans rfl
section
variable {W w:World} {b:Nat} {F0 K:List Nat} {m:Mac}
theorem Gm.leave (h:Gm W F0 b K w m) (o:Obj) {g:Nat} (hg:g=w.heap.size):∃ F,Gm (w.alloc o) F b K (w.alloc o) m∧∀ w' m',Gm (w.alloc o) F b K w' m'→w'.heap[g]?=some o∧∀ w'',Turn [g] [g] w' w''→Gm W F0 b K w'' m':=by
 subst hg
 obtain ⟨F,hM,hT⟩:=h.mc
 refine ⟨F,(hM.on (below_alloc w o)).gm,fun w' m' hg=>⟨(hg.far (by simp) (fun q=>absurd (hM.blw _ q) (Nat.lt_irrefl _))).trans (heap_alloc_new w o),fun w'' t=>?_⟩⟩
 obtain ⟨p,h1,h2,h3⟩:=hg
 have n1:w.heap.size∉p.F b:=fun q=>(h2.own _ q).elim (fun z=>absurd (hM.blw _ z) (Nat.lt_irrefl _)) (fun z=>by simp at z;omega)
 have n2:w.heap.size∉fpR p.pk:=fun q=>by rw [← h3] at q;exact absurd (hM.blwK _ q) (Nat.lt_irrefl _)
 have a1:Sep (p.F b) [w.heap.size]:=fun k hk q=>n1 (by simp at q;rw [← q];exact hk)
 have a2:Sep (fpR p.pk) [w.heap.size]:=fun k hk q=>n2 (by simp at q;rw [← q];exact hk)
 have hs:w.heap.size≤w'.heap.size:=Nat.le_trans (by simp) h2.size
 refine ⟨p,h1.keep (t.kept a1 h1.blw) (t.kept a2 h1.ltk),hT.trans ⟨t.os.trans h2.os,t.tape.trans h2.tape,t.output.trans h2.output,Nat.le_trans hs t.size,fun k hk hf=>?_,fun k hk=>?_⟩,h3⟩
 ·exact (t.block k (Nat.lt_of_lt_of_le hk hs) (by simp;omega)).trans ((h2.block k (by simp;omega) hf).trans (heap_alloc_old w o hk))
 ·exact (h2.own k hk).imp id (fun z=>by simp at z;omega)
theorem turn4 (w:World) (g:Nat) (v0 v1 v2 v3:Value):Turn [g] [g] w ((((w.setCell ⟨g,0,none⟩ v0).setCell ⟨g,1,none⟩ v1).setCell ⟨g,2,none⟩ v2).setCell ⟨g,3,none⟩ v3) :=
 (((turn_set w g 0 v0).trans (turn_set _ g 1 v1)).trans (turn_set _ g 2 v2)).trans (turn_set _ g 3 v3)
theorem ret_end (h:Gm W F0 b K w m) (hc:m.calls=[]):Calls Tryz.prog 149 #[.pointer (some ⟨b,0,none⟩)] w fun r w'=>r=.returned (askV askEnd)∧Gm W F0 b K w' { m with how:=1,cod:=0,err:=0 }:=by
 obtain ⟨F,h1,hX⟩:=h.leave (askO ask0) rfl
 obtain ⟨p,hm,ht,hk⟩:=id h1
 have hb:=h.ltB
 have h21:w.cell? ⟨b,21,none⟩=some (.pointer (some ⟨p.bc,0,none⟩)):=((below_alloc w (askO ask0)).cell (p:=⟨b,21,none⟩) hb).symm.trans ((hm.cell 21).trans rfl)
 have hp:=hm.cal
 rw [hc] at hp
 have HP:=Lib.hid (iPop_none hp)
 have HG:=Lib.hid h1
 have HX:=Lib.hid hX
 clear h h1 hX hm ht hk hp hc
 go_enter Tryz.func149,Tryz.ntmps149
 go_wp2_with (first
  | (go_at_call 136;refine (ends_any HG.out 1 0 0).mono ?_;rintro e u1 ⟨rfl,q⟩;obtain ⟨r1,r2⟩:=HX.out _ _ q;obtain ⟨⟨c0,c1,c2,c3,c4⟩,d0,d1,d2,d3⟩:=askO_cells r1;have G1:=Lib.hid (And.intro r1 r2);clear q r1 r2;unfold askV)
  | (go_at_call 171;refine HP.out.mono ?_;rintro e u ⟨rfl,hu⟩;subst u))
 exact ask_back rfl w.heap.size askEnd rfl (askO_set G1.out.1) rfl ⟨rfl,G1.out.2 _ (turn4 _ _ _ _ _ _)⟩
theorem ret_back (h:Gm W F0 b K w m) {c:Int} {r:List Int} (hc:m.calls=c::r):Calls Tryz.prog 149 #[.pointer (some ⟨b,0,none⟩)] w fun e w'=>e=.returned (askV ask0)∧Gm W F0 b K w' { m with calls:=r,place:=c }:=by
 obtain ⟨F,h1,hX⟩:=h.leave (askO ask0) rfl
 obtain ⟨p,hm,ht,hk⟩:=id h1
 have hb:=h.ltB
 have h21:w.cell? ⟨b,21,none⟩=some (.pointer (some ⟨p.bc,0,none⟩)):=((below_alloc w (askO ask0)).cell (p:=⟨b,21,none⟩) hb).symm.trans ((hm.cell 21).trans rfl)
 have hp:=hm.cal
 rw [hc,List.reverse_cons] at hp
 have HP:Hid (Calls Tryz.prog 171 #[.pointer (some ⟨p.bc,0,none⟩)] (w.alloc (askO ask0)) fun e w'=>e=.returned (.tuple #[.int .i64 c,.int .i64 0])∧Gm (w.alloc (askO ask0)) F b K w' { m with calls:=r }):=(iPop_some hp).mono fun e w' ⟨F',he,a1,a2⟩=>by
  obtain ⟨b1,b2⟩:=hm.putC a1 a2
  exact ⟨he,_,b1,ht.trans b2,hk⟩
 have HX:=Lib.hid hX
 clear h h1 hX hm ht hk hp hc
 go_enter Tryz.func149,Tryz.ntmps149
 go_wp2_with (first
  | (go_at_call 171;refine HP.out.mono ?_;rintro e u1 ⟨rfl,q⟩;have d0:=place_at q;have d1:=q.free 22;have d2:=q.ltB;have q2:=place_set q c;obtain ⟨r1,r2⟩:=HX.out _ _ q2;obtain ⟨⟨c0,c1,c2,c3,c4⟩,e0,e1,e2,e3⟩:=askO_cells r1;have G1:=Lib.hid (And.intro r1 r2);clear q q2 r1 r2 HP))
 exact ask_back rfl w.heap.size ask0 rfl (askO_set (k':=ask0) G1.out.1) rfl ⟨rfl,G1.out.2 _ (turn4 _ _ (.int .i64 0) (.int .i64 0) (.float .f64 0) (.bool false))⟩
end
end Go.Proofs.YteinilmecnlanabGreatDoor
namespace Go.Proofs.YteinilmecnlanabGreatDoor
open Go.ChangeShapes Go.WideShapes Go.ChangeAt Go.RowKit Num
attribute [local go_sem] run_store_float
def Done (W:World) (F0:List Nat) (b:Nat) (K:List Nat) (m:Mac) (res:Mac × Ask) (r:Ending) (w':World):Prop :=
 (∃ e,res=failM m e∧r=gaveM e∧Gm W F0 b K w' m)∨(r=.returned (askV res.2)∧Gm W F0 b K w' res.1)
section
variable {W w:World} {b:Nat} {F0 K:List Nat} {m:Mac}
theorem Gm.buf (h:Gm W F0 b K w m):∃ bw Fw,w.cell? ⟨b,26,none⟩=some (.pointer (some ⟨bw,0,none⟩))∧Buf w bw Fw m.wmax m.buf∧∀ w' l F',Buf w' bw F' m.wmax l→Turn Fw F' w w'→Gm W F0 b K w' { m with buf:=l }:=by
 obtain ⟨p,hm,ht,hk⟩:=h
 refine ⟨p.bw,p.Fw,(hm.cell 26).trans rfl,hm.wri,fun w' l F' h1 h2=>?_⟩
 obtain ⟨a1,a2⟩:=hm.putW h1 h2
 exact ⟨_,a1,ht.trans a2,hk⟩
theorem address_yes (h:Gm W F0 b K w m) (hs:0<m.st.length) (ha:addrB m=true):Calls Tryz.prog 166 #[.pointer (some ⟨b,0,none⟩)] w fun r w'=>r=.returned (.int .i64 (addrV m))∧Same w w' :=
 (address_any h hs).mono fun _ _ ⟨a1,a2⟩=>⟨by rw [a1,ha];rfl,a2⟩
theorem address_no (h:Gm W F0 b K w m) (hs:0<m.st.length) (ha:addrB m=false):Calls Tryz.prog 166 #[.pointer (some ⟨b,0,none⟩)] w fun r w'=>r=gaveM 50∧Same w w' :=
 (address_any h hs).mono fun _ _ ⟨a1,a2⟩=>⟨by rw [a1,ha];rfl,a2⟩
theorem Gm.waits (h:Gm W F0 b K w m) (c:Int) (hc:0≤c):Gm W F0 b K ((w.setCell ⟨b,27,none⟩ (.bool true)).setCell ⟨b,28,none⟩ (.int .i64 c)) { m with wait:=c }:=by
 obtain ⟨p,h1,h2,h3⟩:=h
 have t:=(turn_set w b 27 (.bool true)).trans (turn_set _ b 28 (.int .i64 c))
 have kk:=h1.others (i:=0) t
 refine ⟨{ p with wt:=c },⟨?_,h1.num.keep (kk 1 (by omega)),h1.cal.keep (kk 2 (by omega)),h1.wri.keep (kk 3 (by omega)),h1.out.keep (kk 4 (by omega)),h1.rds.keep (kk 5 (by omega)),h1.cod.keep (kk 6 (by omega)),h1.ltk' t.size,fun _=>rfl,h1.apart⟩,h2.trans (Turn.part (L:=p.own b) (i:=0) t),h3⟩
 have e1:=heap_setCell_same w b 27 _ _ (.bool true) h1.box
 refine (heap_setCell_same _ b 28 _ _ (.int .i64 c) e1).trans ?_
 unfold boxV
 rw [decide_eq_true hc]
 rfl
theorem idx_wf (y:Nat) {n:Int} (hn:n≤256) (h:idxB y n=true):0≤idxV y n∧idxV y n<n∧(Lit.int .i64 (idxV y n)).wf=true:=by
 have h2:(truncN y:Int)<n:=by
  unfold idxB at h
  simp only [Bool.and_eq_true,decide_eq_true_eq] at h
  exact h.2
 unfold idxV
 rw [if_pos h]
 refine ⟨by omega,h2,?_⟩
 have m1:IntKind.i64.min=-9223372036854775808:=by decide
 have m2:IntKind.i64.max=9223372036854775807:=by decide
 simp [Lit.wf]
 omega
theorem read_no (h:Gm W F0 b K w m) (hs:0<m.st.length) (ha:addrB m=false):Calls Tryz.prog 147 #[.pointer (some ⟨b,0,none⟩)] w fun r w'=>r=gaveM 50∧Gm W F0 b K w' m:=by
 have HG:=Lib.hid (h.alloc (askO ask0))
 have HA:=Lib.hid (address_no (h.alloc (askO ask0)) hs ha)
 clear h hs ha
 go_enter Tryz.func147,Tryz.ntmps147
 go_wp2_with (go_at_call 166;refine HA.out.mono ?_;rintro e u ⟨rfl,q⟩;have HQ:=Lib.hid (HG.out.same q);clear q)
 exact ⟨rfl,rfl,HQ.out⟩
theorem wait_at (h:Gm W F0 b K w m):w.cell? ⟨b,27,none⟩=some (.bool (decide (0≤m.wait)))∧∃ z,w.cell? ⟨b,28,none⟩=some (.int .i64 z):=by
 obtain ⟨p,hm,_,_⟩:=h
 exact ⟨(hm.cell 27).trans rfl,p.wt,(hm.cell 28).trans rfl⟩
theorem upd_at (h:Gm W F0 b K w m):w.cell? ⟨b,2,none⟩=some (.bool m.upd):=by
 obtain ⟨p,hm,_,_⟩:=h
 exact (hm.cell 2).trans rfl
theorem read_own (h:Gm W F0 b K w m) {y:Nat} {s:List Nat} (hs:m.st=y::s) (hl:s.length<64) (hr:m.reads.length≤1024) (hcl:m.cells≤256) (ha:addrB m=true) (hh:hasC m.buf (addrV m)=true):Calls Tryz.prog 147 #[.pointer (some ⟨b,0,none⟩)] w fun r w'=>r=.returned (askV (readM m).2)∧Gm W F0 b K w' (readM m).1:=by
 have e:readM m=(hasRead { m with st:=s } (addrV m) (getC m.buf (addrV m)),⟨2,addrV m,getC m.buf (addrV m),false⟩):=by unfold readM;rw [ha,hh,hs];rfl
 rw [e]
 obtain ⟨F,h1,hX⟩:=h.leave (askO ask0) rfl
 have HG:=Lib.hid h1
 have HX:=Lib.hid hX
 have HA:=Lib.hid (address_yes h1 (by rw [hs];simp) ha)
 have HW:Hid ((Lit.int .i64 (addrV m)).wf=true):=(idx_wf _ hcl ha).2.2
 have HS:=Lib.hid (And.intro hs (And.intro hl hr))
 clear h h1 hX hs hl hr e hcl ha
 generalize addrV m=c at *
 go_enter Tryz.func147,Tryz.ntmps147
 go_wp2_with (first
  | (go_at_call 139;refine (hasRead_any G1.out c _ HS.out.2.1 HS.out.2.2).mono ?_;rintro e u3 ⟨rfl,q⟩;obtain ⟨r1,r2⟩:=HX.out _ _ q;obtain ⟨⟨c0,c1,c2,c3,c4⟩,e0,e1,e2,e3⟩:=askO_cells r1;have G3:=Lib.hid (And.intro r1 r2);clear q r1 r2)
  | (go_at_call 168;refine (get_any HBU.out HW.out).mono ?_;rw [hh];rintro e u ⟨rfl,hu⟩;subst u)
  | (go_at_call 167;refine (take_any G0.out HS.out.1).mono ?_;rintro e u1 ⟨rfl,q⟩;have d1:=q.ltB;obtain ⟨bw,Fw,d0,hbu,_⟩:=q.buf;have HBU:=Lib.hid hbu;have G1:=Lib.hid q;clear q hbu)
  | (go_at_call 166;refine HA.out.mono ?_;rintro e u0 ⟨rfl,q⟩;have G0:=Lib.hid (HG.out.same q);clear q))
 exact ask_back rfl w.heap.size ⟨2,c,getC m.buf c,false⟩ rfl (askO_set (k':=⟨2,c,getC m.buf c,false⟩) G3.out.1) rfl (⟨rfl,G3.out.2 _ (turn4 _ _ (.int .i64 2) (.int .i64 c) (.float .f64 (getC m.buf c)) (.bool false))⟩)
theorem read_wait (h:Gm W F0 b K w m) {y:Nat} {s:List Nat} (hs:m.st=y::s) (hcl:m.cells≤256) (ha:addrB m=true) (hh:hasC m.buf (addrV m)=false):Calls Tryz.prog 147 #[.pointer (some ⟨b,0,none⟩)] w fun r w'=>r=.returned (askV (readM m).2)∧Gm W F0 b K w' (readM m).1:=by
 have e:readM m=({ m with st:=s,wait:=addrV m },askRead (addrV m)):=by unfold readM;rw [ha,hh,hs];rfl
 rw [e]
 obtain ⟨F,h1,hX⟩:=h.leave (askO ask0) rfl
 have HG:=Lib.hid h1
 have HX:=Lib.hid hX
 have HA:=Lib.hid (address_yes h1 (by rw [hs];simp) ha)
 have HW:=Lib.hid (idx_wf _ hcl ha)
 change Hid (0≤addrV m∧addrV m<m.cells∧(Lit.int .i64 (addrV m)).wf=true) at HW
 have HS:=Lib.hid hs
 clear h h1 hX hs e hcl ha
 generalize addrV m=c at *
 go_enter Tryz.func147,Tryz.ntmps147
 go_wp2_with (first
  | (go_at_call 134;refine (wants_any G2.out HW.out.1).mono ?_;rintro e u3 ⟨rfl,q⟩;obtain ⟨r1,r2⟩:=HX.out _ _ (G2.out.on q);obtain ⟨⟨c0,c1,c2,c3,c4⟩,e0,e1,e2,e3⟩:=askO_cells r1;have G3:=Lib.hid (And.intro r1 r2);clear q r1 r2;unfold askV askRead)
  | (go_at_call 168;refine (get_any HBU.out HW.out.2.2).mono ?_;rw [hh];rintro e u ⟨rfl,hu⟩;subst u)
  | (go_at_call 167;refine (take_any G0.out HS.out).mono ?_;rintro e u1 ⟨rfl,q⟩;have d1:=q.ltB;obtain ⟨bw,Fw,d0,hbu,_⟩:=q.buf;have HBU:=Lib.hid hbu;obtain ⟨d3,d4⟩:=wait_at q;have d5:=q.free 27;have d6:=q.free 28;have G2:=Lib.hid (q.waits c HW.out.1);obtain ⟨zw,d7⟩:=d4;clear q hbu)
  | (go_at_call 166;refine HA.out.mono ?_;rintro e u0 ⟨rfl,q⟩;have G0:=Lib.hid (HG.out.same q);clear q))
 exact ask_back rfl w.heap.size (askRead c) rfl (askO_set (k':=askRead c) G3.out.1) rfl (⟨rfl,G3.out.2 _ (turn4 _ _ (.int .i64 1) (.int .i64 c) (.float .f64 0) (.bool false))⟩)
theorem write_ro (h:Gm W F0 b K w m) (hu:m.upd=false):Calls Tryz.prog 148 #[.pointer (some ⟨b,0,none⟩)] w fun r w'=>r=gaveM 81∧Gm W F0 b K w' m:=by
 have h2:=upd_at h
 rw [hu] at h2
 have hb:=h.ltB
 have HG:=Lib.hid (h.alloc (askO ask0))
 clear h hu
 go_enter Tryz.func148,Tryz.ntmps148
 go_wp2_with (go_at_call 152;refine (mustBe_no rfl 81 _).mono ?_;rintro e u ⟨rfl,hu⟩;subst u)
 exact ⟨rfl,rfl,HG.out⟩
theorem write_no (h:Gm W F0 b K w m) (hs:0<m.st.length) (hu:m.upd=true) (ha:addrB m=false):Calls Tryz.prog 148 #[.pointer (some ⟨b,0,none⟩)] w fun r w'=>r=gaveM 50∧Gm W F0 b K w' m:=by
 have h2:=upd_at h
 rw [hu] at h2
 have hb:=h.ltB
 have HG:=Lib.hid (h.alloc (askO ask0))
 have HA:=Lib.hid (address_no (h.alloc (askO ask0)) hs ha)
 clear h hu hs ha
 go_enter Tryz.func148,Tryz.ntmps148
 go_wp2_with (first
  | (go_at_call 166;refine HA.out.mono ?_;rintro e u ⟨rfl,q⟩;have HQ:=Lib.hid (HG.out.same q);clear q)
  | (go_at_call 152;refine (mustBe_yes rfl 81 _).mono ?_;rintro e u ⟨rfl,hu⟩;subst u))
 exact ⟨rfl,rfl,HQ.out⟩
theorem write_full (h:Gm W F0 b K w m) {y z:Nat} {s:List Nat} (hs:m.st=y::z::s) (_hz:okN z) (hcl:m.cells≤256) (hu:m.upd=true) (ha:addrB m=true) (hp:mayP m.wmax m.buf (addrV m)=false):Calls Tryz.prog 148 #[.pointer (some ⟨b,0,none⟩)] w fun r w'=>r=gaveM 70∧Gm W F0 b K w' m:=by
 have h2:=upd_at h
 rw [hu] at h2
 have hb:=h.ltB
 obtain ⟨F,h1,hX⟩:=h.leave (askO ask0) rfl
 have HG:=Lib.hid h1
 have HX:=Lib.hid hX
 have HA:=Lib.hid (address_yes h1 (by rw [hs];simp) ha)
 have HW:=Lib.hid (idx_wf _ hcl ha)
 change Hid (0≤addrV m∧addrV m<m.cells∧(Lit.int .i64 (addrV m)).wf=true) at HW
 have HS:=Lib.hid hs
 have HK:Hid (∀ u,Gm (w.alloc (askO ask0)) F b K u m→Calls Tryz.prog 169 #[.pointer (some ⟨b,0,none⟩),.int .i64 1] u fun e u'=>e=.returned (.float .f64 z)∧∃ q,u'=u.drewN q):=fun u hg=>by
  have:=pick_any hg 1 (by rw [hs];simp)
  rw [hs] at this
  exact this
 have HE:Hid (putE m.wmax m.buf (addrV m)=70∧putL m.wmax m.buf (addrV m) z=m.buf):=by unfold putE putL;rw [hp];exact ⟨rfl,rfl⟩
 clear h h1 hX hs hcl ha hu hp
 generalize addrV m=c at *
 go_enter Tryz.func148,Tryz.ntmps148
 go_wp2_with (first
  | (have t3:=G3.out;clear t3;go_at_call 152;refine (mustBe_no (by first | (simp;done) | rfl) 70 _).mono ?_;rintro e u ⟨rfl,hu⟩;subst u)
  | (go_at_call 170;refine (put_any HBU.out HW.out.2.2 z).mono ?_;rw [HE.out.1,HE.out.2];rintro e u3 ⟨F',rfl,a1,a2⟩;have G3:=Lib.hid (HBT.out _ _ _ a1 a2);clear a1 a2)
  | (go_at_call 169;refine (HK.out _ G0.out).mono ?_;rintro e u1 ⟨rfl,q,hq⟩;subst u1;have q1:=G0.out.drewN q;have d1:=q1.ltB;obtain ⟨bw,Fw,d0,hbu,hbt⟩:=q1.buf;have HBU:=Lib.hid hbu;have HBT:=Lib.hid hbt;clear q1 hbu hbt)
  | (go_at_call 166;refine HA.out.mono ?_;rintro e u0 ⟨rfl,q⟩;have G0:=Lib.hid (HG.out.same q);clear q)
  | (go_at_call 152;refine (mustBe_yes rfl 81 _).mono ?_;rintro e u ⟨rfl,hu⟩;subst u;have T1:=Lib.hid True.intro))
 exact ⟨rfl,rfl,(HX.out _ _ G3.out).2 _ (Turn.refl _ _)⟩
theorem write_ok (h:Gm W F0 b K w m) {y z:Nat} {s:List Nat} (hs:m.st=y::z::s) (hz:okN z) (hcl:m.cells≤256) (hu:m.upd=true) (ha:addrB m=true) (hp:mayP m.wmax m.buf (addrV m)=true):Calls Tryz.prog 148 #[.pointer (some ⟨b,0,none⟩)] w fun r w'=>r=.returned (askV (writeM m).2)∧Gm W F0 b K w' (writeM m).1:=by
 have e:writeM m=({ m with st:=s,buf:=putC m.buf (addrV m) z },⟨3,addrV m,z,!hasC m.buf (addrV m)⟩):=by unfold writeM;rw [hu,ha,hp,hs];rfl
 rw [e]
 have h2:=upd_at h
 rw [hu] at h2
 have hb:=h.ltB
 obtain ⟨F,h1,hX⟩:=h.leave (askO ask0) rfl
 have HG:=Lib.hid h1
 have HX:=Lib.hid hX
 have HA:=Lib.hid (address_yes h1 (by rw [hs];simp) ha)
 have HW:=Lib.hid (idx_wf _ hcl ha)
 change Hid (0≤addrV m∧addrV m<m.cells∧(Lit.int .i64 (addrV m)).wf=true) at HW
 have HS:=Lib.hid hs
 have HK:Hid (∀ u,Gm (w.alloc (askO ask0)) F b K u m→Calls Tryz.prog 169 #[.pointer (some ⟨b,0,none⟩),.int .i64 1] u fun e u'=>e=.returned (.float .f64 z)∧∃ q,u'=u.drewN q):=fun u hg=>by
  have:=pick_any hg 1 (by rw [hs];simp)
  rw [hs] at this
  exact this
 have HE:Hid (putE m.wmax m.buf (addrV m)=0∧putF m.wmax m.buf (addrV m)=(!hasC m.buf (addrV m))∧putL m.wmax m.buf (addrV m) z=putC m.buf (addrV m) z):=by
  unfold putE putF putL
  rw [hp,hz.1]
  refine ⟨rfl,?_,rfl⟩
  unfold mayP at hp
  cases hc:hasC m.buf (addrV m)
  ·rw [hc] at hp
   simpa using hp
  ·rfl
 clear h h1 hX hs e hcl ha hu hp hz
 generalize addrV m=c at *
 go_enter Tryz.func148,Tryz.ntmps148
 go_wp2_with (first
  | (go_at_call 167;refine (take_any G4.out rfl).mono ?_;rintro e u5 ⟨rfl,q⟩;obtain ⟨r1,r2⟩:=HX.out _ _ q;obtain ⟨⟨c0,c1,c2,c3,c4⟩,e0,e1,e2,e3⟩:=askO_cells r1;have G5:=Lib.hid (And.intro r1 r2);clear q r1 r2)
  | (go_at_call 167;refine (take_any G3.out HS.out).mono ?_;rintro e u4 ⟨rfl,q⟩;have G4:=Lib.hid q;clear q)
  | (have t3:=G3.out;clear t3;go_at_call 152;refine (mustBe_yes (by first | rfl | (simp;done)) 0 _).mono ?_;rintro e u ⟨rfl,hu⟩;subst u)
  | (go_at_call 170;refine (put_any HBU.out HW.out.2.2 z).mono ?_;rw [HE.out.1,HE.out.2.1,HE.out.2.2];rintro e u3 ⟨F',rfl,a1,a2⟩;have G3:=Lib.hid (HBT.out _ _ _ a1 a2);clear a1 a2)
  | (go_at_call 169;refine (HK.out _ G0.out).mono ?_;rintro e u1 ⟨rfl,q,hq⟩;subst u1;have q1:=G0.out.drewN q;have d1:=q1.ltB;obtain ⟨bw,Fw,d0,hbu,hbt⟩:=q1.buf;have HBU:=Lib.hid hbu;have HBT:=Lib.hid hbt;clear q1 hbu hbt)
  | (go_at_call 166;refine HA.out.mono ?_;rintro e u0 ⟨rfl,q⟩;have G0:=Lib.hid (HG.out.same q);clear q)
  | (go_at_call 152;refine (mustBe_yes rfl 81 _).mono ?_;rintro e u ⟨rfl,hu⟩;subst u;have T1:=Lib.hid True.intro))
 exact ask_back rfl w.heap.size ⟨3,c,z,!hasC m.buf c⟩ rfl (askO_set (k':=⟨3,c,z,!hasC m.buf c⟩) G5.out.1) rfl (⟨rfl,G5.out.2 _ (turn4 _ _ (.int .i64 3) (.int .i64 c) (.float .f64 z) (.bool (!hasC m.buf c)))⟩)
end
end Go.Proofs.YteinilmecnlanabGreatDoor
namespace Go.Proofs.YteinilmecnlanabGreatDoor.Md
open Go.ChangeShapes Go.WideShapes Go.ChangeAt Go.RowKit
def inB (n g:Int):Bool:=decide (1≤n) && decide (n≤g)
def cfgB (a b c e:Int):Bool:=inB a 256 && inB b 8 && inB c 1024 && inB e 32
theorem inB_iff {n g:Int}:inB n g=true ↔ 1≤n∧n≤g:=by simp [inB]
theorem cfgB_iff {a b c e:Int}:cfgB a b c e=true ↔ (1≤a∧a≤256)∧(1≤b∧b≤8)∧(1≤c∧c≤1024)∧(1≤e∧e≤32):=by
 simp only [cfgB,Bool.and_eq_true,inB_iff]
 constructor
 ·rintro ⟨⟨⟨h1,h2⟩,h3⟩,h4⟩;exact ⟨h1,h2,h3,h4⟩
 ·rintro ⟨h1,h2,h3,h4⟩;exact ⟨⟨⟨h1,h2⟩,h3⟩,h4⟩
theorem within_in {n g:Int} {x:Bool} (h:inB n g=x) (w:World):Calls Tryz.prog 41 #[.int .i64 n,.int .i64 g] w fun e w'=>e=.returned (.bool x)∧w'=w:=by
 subst h
 exact within_any n g w
theorem mayBe_any (a b c e:Int) (w:World):Calls Tryz.prog 61 #[.agg #[.int .i64 a,.int .i64 b,.int .i64 c,.int .i64 e]] w fun r w'=>r=.returned (.bool (cfgB a b c e))∧w'=w.alloc (.cells #[.int .i64 a,.int .i64 b,.int .i64 c,.int .i64 e] 23):=by
 unfold cfgB
 cases h1:inB a 256
 ·go_enter Tryz.func61,Tryz.ntmps61
  go_wp2_with ((go_at_call 41;refine (within_in h1 _).mono ?_;rintro r w' ⟨rfl,hw⟩;subst w';clear h1))
  go_ret
  exact ⟨rfl,rfl⟩
 cases h2:inB b 8
 ·go_enter Tryz.func61,Tryz.ntmps61
  go_wp2_with (first | (go_at_call 41;refine (within_in h1 _).mono ?_;rintro r w' ⟨rfl,hw⟩;subst w';clear h1) | (go_at_call 41;refine (within_in h2 _).mono ?_;rintro r w' ⟨rfl,hw⟩;subst w';clear h2))
  go_ret
  exact ⟨rfl,rfl⟩
 cases h3:inB c 1024
 ·go_enter Tryz.func61,Tryz.ntmps61
  go_wp2_with (first | (go_at_call 41;refine (within_in h1 _).mono ?_;rintro r w' ⟨rfl,hw⟩;subst w';clear h1) | (go_at_call 41;refine (within_in h2 _).mono ?_;rintro r w' ⟨rfl,hw⟩;subst w';clear h2) | (go_at_call 41;refine (within_in h3 _).mono ?_;rintro r w' ⟨rfl,hw⟩;subst w';clear h3))
  go_ret
  exact ⟨rfl,rfl⟩
 cases h4:inB e 32
 all_goals
  go_enter Tryz.func61,Tryz.ntmps61
  go_wp2_with (first | (go_at_call 41;refine (within_in h1 _).mono ?_;rintro r w' ⟨rfl,hw⟩;subst w';clear h1) | (go_at_call 41;refine (within_in h2 _).mono ?_;rintro r w' ⟨rfl,hw⟩;subst w';clear h2) | (go_at_call 41;refine (within_in h3 _).mono ?_;rintro r w' ⟨rfl,hw⟩;subst w';clear h3) | (go_at_call 41;refine (within_in h4 _).mono ?_;rintro r w' ⟨rfl,hw⟩;subst w';clear h4))
  go_ret
  exact ⟨rfl,rfl⟩
theorem refMayBe_any (a b c e:Int) (w:World):Calls Tryz.prog 49 #[.agg #[.int .i64 a,.int .i64 b,.int .i64 c,.int .i64 e]] w fun r w'=>r=.returned (.bool (cfgB a b c e))∧w'=w.alloc (.cells #[.int .i64 a,.int .i64 b,.int .i64 c,.int .i64 e] 23):=by
 have H:Hid (cfgB a b c e=(decide (1≤a) && decide (a≤256) && decide (1≤b) && decide (b≤8) && decide (1≤c) && decide (c≤1024) && decide (1≤e) && decide (e≤32))):=by
  show _=_
  simp only [cfgB,inB,Bool.and_assoc]
 go_enter Tryz.func49,Tryz.ntmps49
 go_wp2
 all_goals go_ret
 all_goals refine ⟨?_,rfl⟩
 all_goals rw [H.out]
 all_goals refine congrArg (fun x=>Ending.returned (Value.bool x)) ?_
 all_goals rw [Bool.eq_iff_iff]
 all_goals simp
 all_goals omega
theorem place_any (a b c e:Int) (w:World):Calls Tryz.prog 42 #[.agg #[.int .i64 a,.int .i64 b,.int .i64 c,.int .i64 e]] w fun r w'=>r=.returned (if cfgB a b c e then .tuple #[.agg #[.int .i64 0,.int .i64 1,.int .i64 2,.int .i64 3,.int .i64 (3+b),.int .i64 (3+b+3*a)],.int .i64 0] else .tuple #[.agg #[.int .i64 0,.int .i64 0,.int .i64 0,.int .i64 0,.int .i64 0,.int .i64 0],.int .i64 1])∧Below w.heap.size w w':=by
 cases hc:cfgB a b c e
 ·have HM:=fun W=>mayBe_any a b c e W
  rw [hc] at HM
  replace HM:=Lib.hid HM
  clear hc
  rw [if_neg Bool.false_ne_true]
  go_enter Tryz.func42,Tryz.ntmps42
  go_wp2_with (go_at_call 61;refine (HM.out _).mono ?_;rintro r w1 ⟨rfl,hb⟩;subst w1)
  exact bodyPost_ret (v:=.tuple #[.agg #[.int .i64 0,.int .i64 0,.int .i64 0,.int .i64 0,.int .i64 0,.int .i64 0],.int .i64 1]) (by simp [results,Tryz.results42,go_sem]) rfl ⟨rfl,(((Below.refl _ _).alloc (Nat.le_refl _) _).alloc (by simp) _).alloc (by simp;omega) _⟩
 ·obtain ⟨⟨a1,a2⟩,⟨b1,b2⟩,_,_⟩:=cfgB_iff.1 hc
  have HM:=fun W=>mayBe_any a b c e W
  rw [hc] at HM
  replace HM:=Lib.hid HM
  clear hc
  rw [if_pos rfl]
  go_enter Tryz.func42,Tryz.ntmps42
  go_wp2_with (go_at_call 61;refine (HM.out _).mono ?_;rintro r w1 ⟨rfl,hb⟩;subst w1)
  exact bodyPost_ret (v:=.tuple #[.agg #[.int .i64 0,.int .i64 1,.int .i64 2,.int .i64 3,.int .i64 (3+b),.int .i64 (3+b+3*a)],.int .i64 0]) (by simp [results,Tryz.results42,go_sem]) rfl ⟨rfl,(((Below.refl _ _).alloc (Nat.le_refl _) _).alloc (by simp) _).alloc (by simp;omega) _⟩
theorem refPlace_any (a b c e:Int) (w:World):Calls Tryz.prog 22 #[.agg #[.int .i64 a,.int .i64 b,.int .i64 c,.int .i64 e]] w fun r w'=>r=.returned (if cfgB a b c e then .tuple #[.agg #[.int .i64 0,.int .i64 1,.int .i64 2,.int .i64 3,.int .i64 (3+b),.int .i64 (3+b+3*a)],.int .i64 0] else .tuple #[.agg #[.int .i64 0,.int .i64 0,.int .i64 0,.int .i64 0,.int .i64 0,.int .i64 0],.int .i64 1])∧Below w.heap.size w w':=by
 cases hc:cfgB a b c e
 ·have HM:=fun W=>refMayBe_any a b c e W
  rw [hc] at HM
  replace HM:=Lib.hid HM
  clear hc
  rw [if_neg Bool.false_ne_true]
  go_enter Tryz.func22,Tryz.ntmps22
  go_wp2_with (go_at_call 49;refine (HM.out _).mono ?_;rintro r w1 ⟨rfl,hb⟩;subst w1)
  exact bodyPost_ret (v:=.tuple #[.agg #[.int .i64 0,.int .i64 0,.int .i64 0,.int .i64 0,.int .i64 0,.int .i64 0],.int .i64 1]) (by simp [results,Tryz.results22,go_sem]) rfl ⟨rfl,(((Below.refl _ _).alloc (Nat.le_refl _) _).alloc (by simp) _).alloc (by simp;omega) _⟩
 ·obtain ⟨⟨a1,a2⟩,⟨b1,b2⟩,_,_⟩:=cfgB_iff.1 hc
  have HM:=fun W=>refMayBe_any a b c e W
  rw [hc] at HM
  replace HM:=Lib.hid HM
  clear hc
  rw [if_pos rfl]
  go_enter Tryz.func22,Tryz.ntmps22
  go_wp2_with (go_at_call 49;refine (HM.out _).mono ?_;rintro r w1 ⟨rfl,hb⟩;subst w1)
  exact bodyPost_ret (v:=.tuple #[.agg #[.int .i64 0,.int .i64 1,.int .i64 2,.int .i64 3,.int .i64 (3+b),.int .i64 (3+b+3*a)],.int .i64 0]) (by simp [results,Tryz.results22,go_sem]) rfl ⟨rfl,(((Below.refl _ _).alloc (Nat.le_refl _) _).alloc (by simp) _).alloc (by simp;omega) _⟩
theorem cells4 {w:World} {x:Nat} {v0 v1 v2 v3:Value} {T:TypeId} (h:w.heap[x]?=some (.cells #[v0,v1,v2,v3] T (0,0))) :
  w.cell? ⟨x,0,none⟩=some v0∧w.cell? ⟨x,1,none⟩=some v1∧w.cell? ⟨x,2,none⟩=some v2∧w.cell? ⟨x,3,none⟩=some v3∧x<w.heap.size :=
 ⟨by rw [cell_of_row w x 0 _ _ _ h];rfl,by rw [cell_of_row w x 1 _ _ _ h];rfl,by rw [cell_of_row w x 2 _ _ _ h];rfl,by rw [cell_of_row w x 3 _ _ _ h];rfl,lt_of_block h⟩
end Go.Proofs.YteinilmecnlanabGreatDoor.Md
