import Derived.Test.YtlkldgopliablaaGreatDoorWalkB
import Derived.Lib.IndexMore
import Derived.Test.YtlkldgopliablaaGreatDoorC0
import Derived.Test.YtlkldgopliablaaGreatDoorY1
import Derived.Test.YtlkldgopliablaaGreatDoorS1
import Derived.Test.YtlkldgopliablaaGreatDoorS1f
import Derived.Test.YtlkldgopliablaaGreatDoorY2
import Derived.Deep.RegionLaw
import Derived.Shelf.SlMaps.Clone
import Derived.Test.YtlkldgopliablaaGreatDoorWalkH
import Derived.Laws.FloatArith
import Derived.Laws.FloatBits
import Derived.StillTailTactics
import Derived.Test.YtlkldgopliablaaGreatDoorM9
import Derived.Deep.RegionHeld
import Derived.Test.YtlkldgopliablaaGreatDoorTie
import Derived.ProofKit
import Derived.LaidMore
import Derived.OpenShut
import Derived.Handed
import Derived.SizedLaws
import Derived.ChangeSame
import Derived.ChangeVars
import Derived.JoinedOf
import Derived.RowKitTokens
import Derived.LaidLaws
import Derived.LaidHandle
import Derived.MakeChecks
import Derived.Lib.LaidTab
import Derived.Stop.LaidErr
import Derived.Stop.Joined
import Derived.SevenTiedAt
import Derived.ChangeMaps5
import Derived.HandedShaped
import Derived.Deep.Slices
import Derived.Carry
import Derived.Recover
import Derived.Defers
set_option maxRecDepth 100000
set_option maxHeartbeats 8000000
namespace Go.Proofs.YtlkldgopliablaaGreatDoor
open Go.ChangeShapes Go.WideShapes Go.ChangeAt Go.RowKit Num
structure Shp where
 word:List UInt8
 kind:Nat
 lo:Int
 hi:Int
 takes:Int
 lays:Int
def shpT:List Shp:=[
 ⟨[],0,0,0,0,0⟩,
 ⟨[112,117,115,104],1,0,0,0,1⟩,
 ⟨[100,114,111,112],0,0,0,1,0⟩,
 ⟨[100,117,112],0,0,0,1,2⟩,
 ⟨[115,119,97,112],0,0,0,2,2⟩,
 ⟨[112,105,99,107],2,0,63,0,1⟩,
 ⟨[97,114,103],2,0,7,0,1⟩,
 ⟨[103,101,116],2,0,7,0,1⟩,
 ⟨[115,101,116],2,0,7,1,0⟩,
 ⟨[],4,1,8,1,1⟩,
 ⟨[],5,1,12,2,1⟩,
 ⟨[106,117,109,112],3,0,1023,0,0⟩,
 ⟨[105,102],3,0,1023,1,0⟩,
 ⟨[117,110,108,101,115,115],3,0,1023,1,0⟩,
 ⟨[99,97,108,108],3,0,1023,0,0⟩,
 ⟨[114,101,116],0,0,0,0,0⟩,
 ⟨[114,101,97,100],0,0,0,1,1⟩,
 ⟨[119,114,105,116,101],0,0,0,2,0⟩,
 ⟨[101,109,105,116],0,0,0,1,0⟩,
 ⟨[97,98,111,114,116],2,0,99,0,0⟩,
 ⟨[104,97,108,116],0,0,0,0,0⟩]
def shp (k:Nat):Shp:=shpT.getD k ⟨[],0,0,0,0,0⟩
structure Ins where
 op:Int
 n:Int
 x:Nat
def ci (c:List Ins) (k:Nat):Ins:=c.getD k ⟨0,0,0⟩
theorem ci_lt {c:List Ins} {k:Nat} (h:k<c.length):c[k]?=some (ci c k):=by
 unfold ci
 rw [List.getD_eq_getElem?_getD,List.getElem?_eq_getElem h]
 rfl
theorem all_range {n:Nat} {p:Nat→Bool}:(List.range n).all p=true ↔ ∀ i,i<n→p i=true:=by
 rw [List.all_eq_true]
 exact ⟨fun h i hi=>h i (List.mem_range.2 hi),fun h i hi=>h i (List.mem_range.1 hi)⟩
def knownB (op:Int):Bool:=decide (0<op) && decide (op≤20)
def fitsB (op:Nat) (n:Int):Bool:=decide ((shp op).lo≤n) && decide (n≤(shp op).hi)
def outB (op:Nat) (n:Int) (many:Nat):Bool:=decide ((shp op).kind=3) && decide ((many:Int)≤n)
def mayB (i:Ins) (many:Nat):Bool:=knownB i.op && fitsB i.op.toNat i.n && !outB i.op.toNat i.n many && (decide (i.op=1) || fixB i.x == 0)
def checkB (tag:Int) (c:List Ins):Bool:=(decide (tag=1) || decide (tag=2)) && decide (1≤c.length) && decide (c.length≤1024) && (List.range c.length).all fun k=>mayB (ci c k) c.length
def checkE (tag:Int) (c:List Ins):Int:=if checkB tag c then 0 else 50
theorem check_parts {t:Int} {c:List Ins}:checkB t c=true ↔ (t=1∨t=2)∧1≤c.length∧c.length≤1024∧∀ k,k<c.length→mayB (ci c k) c.length=true:=by
 unfold checkB
 simp only [Bool.and_eq_true,Bool.or_eq_true,decide_eq_true_eq,all_range]
 exact ⟨fun ⟨⟨⟨a,b⟩,c⟩,d⟩=>⟨a,b,c,d⟩,fun ⟨a,b,c,d⟩=>⟨⟨⟨a,b⟩,c⟩,d⟩⟩
end Go.Proofs.YtlkldgopliablaaGreatDoor
namespace Go.Proofs.YtlkldgopliablaaGreatDoor
open Go.ChangeShapes Go.WideShapes Go.ChangeAt Go.RowKit Num
def strB (l:List UInt8):Value:=.string ⟨l.toArray⟩
structure Shaped5 (w:World):Prop where
 shp:∀ k,k<21→w.cell? ⟨1,k*6,none⟩=some (strB (shp k).word)∧w.cell? ⟨1,k*6+1,none⟩=some (.int .i64 (shp k).kind)∧w.cell? ⟨1,k*6+2,none⟩=some (.int .i64 (shp k).lo) ∧
  w.cell? ⟨1,k*6+3,none⟩=some (.int .i64 (shp k).hi)∧w.cell? ⟨1,k*6+4,none⟩=some (.int .i64 (shp k).takes)∧w.cell? ⟨1,k*6+5,none⟩=some (.int .i64 (shp k).lays)
theorem Shaped5.on {w w':World} (h:Shaped5 w) (hb:Below w.heap.size w w'):Shaped5 w':=by
 have on:∀ {a:Addr} {v:Value},w.cell? a=some v→w'.cell? a=some v:=fun {a v} h=>by
  rw [hb.cell (World.block_lt_of_cell? w a h)]
  exact h
 refine ⟨fun k hk=>?_⟩
 obtain ⟨c0,c1,c2,c3,c4,c5⟩:=h.shp k hk
 exact ⟨on c0,on c1,on c2,on c3,on c4,on c5⟩
theorem known_any (op:Int) (w:World):Calls Tryz.prog 199 #[.int .i64 op] w fun e w'=>e=.returned (.bool (knownB op))∧w'=w:=by
 by_cases h:0<op
 ·by_cases h2:op≤20
  ·have e:knownB op=true:=by unfold knownB;simp [h,h2]
   rw [e]
   go_enter Tryz.func199,Tryz.ntmps199
   go_wp2
   go_ret
   exact ⟨rfl,rfl⟩
  ·have e:knownB op=false:=by unfold knownB;simp;omega
   rw [e]
   have h2':20<op:=by omega
   go_enter Tryz.func199,Tryz.ntmps199
   go_wp2
   go_ret
   exact ⟨rfl,rfl⟩
 ·have h':op≤0:=by omega
  have e:knownB op=false:=by unfold knownB;simp;omega
  rw [e]
  go_enter Tryz.func199,Tryz.ntmps199
  go_wp2
  go_ret
  exact ⟨rfl,rfl⟩
theorem effect_some (k:Nat) (w:World) (hT:Shaped5 w) (hk:k<21) (h1:1≤k):Calls Tryz.prog 245 #[.int .i64 k] w fun e w'=>e=.returned (.tuple #[.int .i64 (shp k).takes,.int .i64 (shp k).lays,.int .i64 0])∧Same w w':=by
 obtain ⟨c0,c1,c2,c3,c4,c5⟩:=hT.shp k hk
 have hkn:knownB (k:Int)=true:=by unfold knownB;simp;omega
 have hk':(k:Int)<21:=by omega
 clear hT c0 c1 c2 c3
 generalize (shp k).takes=t at *
 generalize (shp k).lays=l at *
 go_enter Tryz.func245,Tryz.ntmps245
 go_wp2_with (first
  | (go_at_call 199;refine (known_any _ _).mono ?_;rintro e w' ⟨rfl,hw⟩;subst w'))
 go_quiet (fail)
 go_wp2
 go_ret3
 exact ⟨rfl,Same.drewN _ _⟩
theorem fits_any (k:Nat) (n:Int) (w:World) (hT:Shaped5 w) (hk:k<21):Calls Tryz.prog 200 #[.int .i64 k,.int .i64 n] w fun e w'=>e=.returned (.bool (fitsB k n))∧w'=w:=by
 obtain ⟨c0,c1,c2,c3,c4,c5⟩:=hT.shp k hk
 have hk':(k:Int)<21:=by omega
 have HE:Hid (fitsB k n=(decide ((shp k).lo≤n) && decide (n≤(shp k).hi))):=rfl
 clear hT c0 c1 c4 c5
 generalize (shp k).lo=t at *
 generalize (shp k).hi=l at *
 by_cases h:t≤n
 ·by_cases h2:n≤l
  ·have e:fitsB k n=true:=by rw [HE.out];simp [h,h2]
   rw [e]
   go_enter Tryz.func200,Tryz.ntmps200
   go_wp2
   go_ret
   exact ⟨rfl,rfl⟩
  ·have e:fitsB k n=false:=by rw [HE.out];simp;omega
   rw [e]
   have h2':l<n:=by omega
   go_enter Tryz.func200,Tryz.ntmps200
   go_wp2
   go_ret
   exact ⟨rfl,rfl⟩
 ·have h':n<t:=by omega
  have e:fitsB k n=false:=by rw [HE.out];simp;omega
  rw [e]
  go_enter Tryz.func200,Tryz.ntmps200
  go_wp2
  go_ret
  exact ⟨rfl,rfl⟩
theorem outside_any (k:Nat) (n:Int) (x many:Nat) (w:World) (hT:Shaped5 w) (hk:k<21):Calls Tryz.prog 201 #[.agg #[.int .i64 k,.int .i64 n,.float .f64 x],.int .i64 many] w fun e w'=>e=.returned (.bool (outB k n many))∧w'=w.alloc (.cells #[.int .i64 k,.int .i64 n,.float .f64 x] 133):=by
 obtain ⟨c0,c1,c2,c3,c4,c5⟩:=hT.shp k hk
 have hk':(k:Int)<21:=by omega
 have HE:Hid (outB k n many=(decide ((shp k).kind=3) && decide ((many:Int)≤n))):=rfl
 have h0:1<w.heap.size:=World.block_lt_of_cell? w _ c1
 clear hT c0 c2 c3 c4 c5
 by_cases h:(shp k).kind=3
 ·rw [h] at c1
  by_cases h2:(many:Int)≤n
  ·have e:outB k n many=true:=by rw [HE.out];simp [h,h2]
   rw [e]
   go_enter Tryz.func201,Tryz.ntmps201
   go_wp2
   go_ret
   exact ⟨rfl,rfl⟩
  ·have h2':n<(many:Int):=by omega
   have e:outB k n many=false:=by rw [HE.out];simp [h,h2]
   rw [e]
   go_enter Tryz.func201,Tryz.ntmps201
   go_wp2
   go_ret
   exact ⟨rfl,rfl⟩
 ·have e:outB k n many=false:=by rw [HE.out];simp [h]
  rw [e]
  have h':(((shp k).kind:Nat):Int)≠3:=by omega
  generalize (shp k).kind=t at *
  go_enter Tryz.func201,Tryz.ntmps201
  go_wp2
  go_ret
  exact ⟨rfl,rfl⟩
end Go.Proofs.YtlkldgopliablaaGreatDoor
namespace Go.Proofs.YtlkldgopliablaaGreatDoor
open Go.ChangeShapes Go.WideShapes Go.ChangeAt Go.RowKit Num
theorem chain5 {a b c:World} (h:Below a.heap.size a b) (k:Below b.heap.size b c):Below a.heap.size a c:=h.trans (k.mono h.size)
theorem box5 (w:World) (x:Obj):Below w.heap.size w (w.alloc x):=(Below.refl _ _).alloc (Nat.le_refl _) x
def insV (i:Ins):Value:=.agg #[.int .i64 i.op,.int .i64 i.n,.float .f64 i.x]
theorem mayBe_any (i:Ins) (many:Nat) (w:World) (hT:Shaped5 w):Calls Tryz.prog 184 #[insV i,.int .i64 many] w fun e w'=>e=.returned (.bool (mayB i many))∧Below w.heap.size w w':=by
 obtain ⟨op,n,x⟩:=i
 unfold insV
 simp only
 have HT:=Lib.hid hT
 clear hT
 cases hk:knownB op with
 | false =>
  have e:mayB ⟨op,n,x⟩ many=false:=by unfold mayB;simp [hk]
  rw [e]
  go_enter Tryz.func184,Tryz.ntmps184
  go_wp2_with (first
   | (go_at_call 199;refine (known_any _ _).mono ?_;rintro e w' ⟨rfl,hw⟩;subst w'))
  go_ret
  exact ⟨rfl,box5 _ _⟩
 | true =>
  have hop:0<op∧op≤20:=by unfold knownB at hk;simpa using hk
  obtain ⟨k,rfl⟩:∃ k:Nat,op=k:=⟨op.toNat,by omega⟩
  have hk21:k<21:=by omega
  have HE:Hid (mayB ⟨k,n,x⟩ many=(true && fitsB k n && !outB k n many && (decide ((k:Int)=1) || fixB x == 0))):=by
   show mayB _ _=_
   unfold mayB
   rw [hk]
   rfl
  cases hf:fitsB k n with
  | false =>
   have e:mayB ⟨k,n,x⟩ many=false:=by rw [HE.out,hf];rfl
   rw [e]
   go_enter Tryz.func184,Tryz.ntmps184
   go_wp2_with (first
    | (go_at_call 199;refine (known_any _ _).mono ?_;rintro e w' ⟨rfl,hw⟩;subst w')
    | (go_at_call 200;refine (fits_any k n _ (HT.out.on (box5 _ _)) hk21).mono ?_;rintro e w' ⟨rfl,hw⟩;subst w'))
   go_ret
   exact ⟨rfl,box5 _ _⟩
  | true =>
   cases ho:outB k n many with
   | true =>
    have e:mayB ⟨k,n,x⟩ many=false:=by rw [HE.out,hf,ho];rfl
    rw [e]
    go_enter Tryz.func184,Tryz.ntmps184
    go_wp2_with (first
     | (go_at_call 199;refine (known_any _ _).mono ?_;rintro e w' ⟨rfl,hw⟩;subst w')
     | (go_at_call 200;refine (fits_any k n _ (HT.out.on (box5 _ _)) hk21).mono ?_;rintro e w' ⟨rfl,hw⟩;subst w')
     | (go_at_call 201;refine (outside_any k n x many _ (HT.out.on (box5 _ _)) hk21).mono ?_;rintro e w' ⟨rfl,hw⟩;subst w'))
    go_ret
    exact ⟨rfl,chain5 (box5 _ _) (box5 _ _)⟩
   | false =>
    by_cases h1:(k:Int)=1
    ·obtain rfl:k=1:=by omega
     have e:mayB ⟨(1:Nat),n,x⟩ many=true:=by rw [HE.out,hf,ho];simp
     rw [e]
     have HK1:Hid (∀ w,Calls Tryz.prog 199 #[.int .i64 1] w fun e w'=>e=.returned (.bool true)∧w'=w):=fun w=>by
      have:=known_any ((1:Nat):Int) w
      rw [hk] at this
      exact this
     have HF1:Hid (∀ w,Shaped5 w→Calls Tryz.prog 200 #[.int .i64 1,.int .i64 n] w fun e w'=>e=.returned (.bool true)∧w'=w):=fun w h=>by
      have:=fits_any 1 n w h hk21
      rw [hf] at this
      exact this
     have HO1:Hid (∀ w,Shaped5 w→Calls Tryz.prog 201 #[.agg #[.int .i64 1,.int .i64 n,.float .f64 x],.int .i64 many] w fun e w'=>e=.returned (.bool false)∧w'=w.alloc (.cells #[.int .i64 1,.int .i64 n,.float .f64 x] 133)):=fun w h=>by
      have:=outside_any 1 n x many w h hk21
      rw [ho] at this
      exact this
     clear hk hf ho HE e h1 hop
     go_enter Tryz.func184,Tryz.ntmps184
     go_wp2_with (first
      | (go_at_call 199;refine (HK1.out _).mono ?_;rintro e w' ⟨rfl,hw⟩;subst w')
      | (go_at_call 200;refine (HF1.out _ (HT.out.on (box5 _ _))).mono ?_;rintro e w' ⟨rfl,hw⟩;subst w')
      | (go_at_call 201;refine (HO1.out _ (HT.out.on (box5 _ _))).mono ?_;rintro e w' ⟨rfl,hw⟩;subst w'))
     go_ret
     exact ⟨by simp,chain5 (box5 _ _) (box5 _ _)⟩
    ·have e:mayB ⟨k,n,x⟩ many=(fixB x == fixB 0):=by rw [HE.out,hf,ho,decide_eq_false h1,fixB_num nan_zero];rfl
     rw [e]
     go_enter Tryz.func184,Tryz.ntmps184
     go_wp2_with (first
      | (go_at_call 199;refine (known_any _ _).mono ?_;rintro e w' ⟨rfl,hw⟩;subst w')
      | (go_at_call 200;refine (fits_any k n _ (HT.out.on (box5 _ _)) hk21).mono ?_;rintro e w' ⟨rfl,hw⟩;subst w')
      | (go_at_call 201;refine (outside_any k n x many _ (HT.out.on (box5 _ _)) hk21).mono ?_;rintro e w' ⟨rfl,hw⟩;subst w')
      | (go_at_call 202;refine (same_any _ _ _).mono ?_;rintro e w' ⟨rfl,hw⟩;subst w'))
     go_ret
     exact ⟨by simp;intro h;exact absurd h h1,chain5 (box5 _ _) (box5 _ _)⟩
end Go.Proofs.YtlkldgopliablaaGreatDoor
namespace Go.Proofs.YtlkldgopliablaaGreatDoor
open Go.ChangeShapes Go.WideShapes Go.ChangeAt Go.RowKit Num
attribute [local go_sem] run_store_float
def CodeAt (w:World) (ao:Option Addr) (c:List Ins):Prop :=
 ∀ k,k<c.length→∃ b off,ao=some ⟨b,off,none⟩∧b<w.heap.size∧w.cell? ⟨b,off+k*3,none⟩=some (.int .i64 (ci c k).op)∧w.cell? ⟨b,off+k*3+1,none⟩=some (.int .i64 (ci c k).n)∧w.cell? ⟨b,off+k*3+2,none⟩=some (.float .f64 (ci c k).x)
theorem CodeAt.on {w w':World} {ao:Option Addr} {c:List Ins} (h:CodeAt w ao c) (hb:Below w.heap.size w w'):CodeAt w' ao c:=fun k hk=>by
 obtain ⟨b,off,e,hlt,c0,c1,c2⟩:=h k hk
 exact ⟨b,off,e,Nat.lt_of_lt_of_le hlt hb.size,(hb.cell (p:=⟨b,off+k*3,none⟩) hlt).trans c0,(hb.cell (p:=⟨b,off+k*3+1,none⟩) hlt).trans c1,(hb.cell (p:=⟨b,off+k*3+2,none⟩) hlt).trans c2⟩
def progV (t:Int) (ao:Option Addr) (n cap:Nat):Value:=.agg #[.int .i64 t,.slice ao n cap]
theorem cells2_of {w:World} {x:Nat} {v0 v1:Value} {T:TypeId} (h:w.heap[x]?=some (.cells #[v0,v1] T (0,0))) :
  w.cell? ⟨x,0,none⟩=some v0∧w.cell? ⟨x,1,none⟩=some v1∧x<w.heap.size :=
 ⟨by rw [cell_of_row w x 0 _ _ _ h];rfl,by rw [cell_of_row w x 1 _ _ _ h];rfl,lt_of_block h⟩
theorem cells3_of {w:World} {x:Nat} {v0 v1 v2:Value} {T:TypeId} (h:w.heap[x]?=some (.cells #[v0,v1,v2] T (0,0))) :
  w.cell? ⟨x,0,none⟩=some v0∧w.cell? ⟨x,1,none⟩=some v1∧w.cell? ⟨x,2,none⟩=some v2∧x<w.heap.size :=
 ⟨by rw [cell_of_row w x 0 _ _ _ h];rfl,by rw [cell_of_row w x 1 _ _ _ h];rfl,by rw [cell_of_row w x 2 _ _ _ h];rfl,lt_of_block h⟩
theorem checkE_no {t:Int} {c:List Ins} (h:checkB t c=false):checkE t c=50:=by unfold checkE;rw [h];rfl
theorem checkE_yes {t:Int} {c:List Ins} (h:checkB t c=true):checkE t c=0:=by unfold checkE;rw [h];rfl
theorem check_false {t:Int} {c:List Ins} (h:¬ ((t=1∨t=2)∧1≤c.length∧c.length≤1024∧∀ k,k<c.length→mayB (ci c k) c.length=true)):checkB t c=false:=by
 cases hc:checkB t c
 ·rfl
 ·exact absurd (check_parts.1 hc) h
theorem check_any {w:World} (t:Int) {ao:Option Addr} {c:List Ins} (cap:Nat) (hT:Shaped5 w) (hc:CodeAt w ao c) (hl:c.length≤9223372036854775807) :
  Calls Tryz.prog 163 #[progV t ao c.length cap] w fun e w'=>e=.returned (.int .i64 (checkE t c))∧Below w.heap.size w w':=by
 unfold progV
 by_cases ht:t=1∨t=2
 ·by_cases hn:c.length<1∨1024<c.length
  ·rw [checkE_no (check_false (fun q=>by omega))]
   clear hT hc
   generalize c.length=n at *
   rcases ht with rfl | rfl <;> rcases hn with hn | hn
   ·obtain rfl:n=0:=by omega
    go_enter Tryz.func163,Tryz.ntmps163
    go_wp2
    go_ret
    exact ⟨rfl,box5 _ _⟩
   ·have h1:¬ (n:Int)<1:=by omega
    have h2:(1024:Int)<n:=by omega
    go_enter Tryz.func163,Tryz.ntmps163
    go_wp2
    go_ret
    exact ⟨rfl,box5 _ _⟩
   ·obtain rfl:n=0:=by omega
    go_enter Tryz.func163,Tryz.ntmps163
    go_wp2
    go_ret
    exact ⟨rfl,box5 _ _⟩
   ·have h1:¬ (n:Int)<1:=by omega
    have h2:(1024:Int)<n:=by omega
    go_enter Tryz.func163,Tryz.ntmps163
    go_wp2
    go_ret
    exact ⟨rfl,box5 _ _⟩
  ·have h1:¬ ((c.length:Nat):Int)<1:=by omega
   have h2:((c.length:Nat):Int)≤1024:=by omega
   have HC:=Lib.hid hc
   have HT:=Lib.hid hT
   have HN:=Lib.hid hn
   clear hT hc hn
   have HX:=Lib.hid (heap_alloc_new w (.cells #[.int .i64 t,.slice ao c.length cap] 136))
   have HB1:=Lib.hid (box5 w (.cells #[.int .i64 t,.slice ao c.length cap] 136))
   rcases ht with rfl | rfl
   all_goals go_enter Tryz.func163,Tryz.ntmps163
   all_goals go_wp2
   all_goals (go_loopw [26] (fun vi wr=>∃ (i:Nat),vi=.int .i64 i∧i≤c.length∧Hid (∀ j,j<i→mayB (ci c j) c.length=true)∧Hid (Below (w.heap.size+1) (w.alloc (.cells #[.int .i64 _,.slice ao c.length cap] 136)) wr)) (fun vi _=>c.length - (intOf vi).toNat))
   case atStart=>exact ⟨0,rfl,Nat.zero_le _,fun j hj=>absurd hj (Nat.not_lt_zero j),Below.refl _ _⟩
   case atStart=>exact ⟨0,rfl,Nat.zero_le _,fun j hj=>absurd hj (Nat.not_lt_zero j),Below.refl _ _⟩
   all_goals (
    obtain ⟨i,rfl,hi,HM,HB⟩:=hrel
    have HBW:=Lib.hid (HB1.out.trans (HB.out.mono (Nat.le_succ _)))
    by_cases hlt:i<c.length
    ·have hlt':(i:Int)<(c.length:Int):=by omega
     obtain ⟨b0,off,hao,hbW,k0,k1,k2⟩:=HC.out i hlt
     subst hao
     rw [← HBW.out.cell (p:=⟨b0,off+i*3,none⟩) hbW] at k0
     rw [← HBW.out.cell (p:=⟨b0,off+i*3+1,none⟩) hbW] at k1
     rw [← HBW.out.cell (p:=⟨b0,off+i*3+2,none⟩) hbW] at k2
     have hbw:b0<wr.heap.size:=Nat.lt_of_lt_of_le hbW HBW.out.size
     obtain ⟨q0,q1,q2⟩:=cells2_of ((HB.out.block w.heap.size (Nat.lt_succ_self _)).trans HX.out)
     have HMB:=Lib.hid (fun w' h=>mayBe_any (ci c i) c.length w' h)
     cases hmb:mayB (ci c i) c.length with
     | true =>
      rw [hmb] at HMB
      have HM2:Hid (∀ j,j<i+1→mayB (ci c j) c.length=true):=fun j hj=>by
       rcases Nat.lt_succ_iff_lt_or_eq.1 hj with q | rfl
       ·exact HM.out j q
       ·exact hmb
      generalize ci c i=z at k0 k1 k2 HMB
      obtain ⟨zo,zn,zx⟩:=z
      unfold insV at HMB
      simp only at k0 k1 k2 HMB
      clear hbW hmb HM
      go_wp2_with (first
       | (go_at_call 184;refine (HMB.out _ (HT.out.on (chain5 HBW.out (box5 _ _)))).mono ?_;rintro e w2 ⟨rfl,hb2⟩;have HB2:=Lib.hid (HB.out.trans ((chain5 (box5 _ _) hb2).mono (Nat.le_trans (by simp) HB.out.size)));clear hb2))
      exact ⟨⟨i+1,by first | rfl | (congr 1),by omega,HM2,HB2⟩,by simp [intOf];omega⟩
     | false =>
      rw [hmb] at HMB
      have HNO:=Lib.hid (fun t=>checkE_no (t:=t) (check_false (fun q=>by have:=q.2.2.2 i hlt;rw [hmb] at this;cases this)))
      generalize ci c i=z at k0 k1 k2 HMB
      obtain ⟨zo,zn,zx⟩:=z
      unfold insV at HMB
      simp only at k0 k1 k2 HMB
      clear hbW hmb HM
      go_wp2_with (first
       | (go_at_call 184;refine (HMB.out _ (HT.out.on (chain5 HBW.out (box5 _ _)))).mono ?_;rintro e w2 ⟨rfl,hb2⟩;have HB2:=Lib.hid (chain5 HBW.out (chain5 (box5 _ _) hb2));clear hb2))
      go_ret
      exact ⟨by rw [HNO.out];rfl,HB2.out⟩
    ·have hlt':¬ (i:Int)<(c.length:Int):=by omega
     have HYES:=Lib.hid (fun t ht=>checkE_yes (t:=t) (check_parts.2 ⟨ht,by have:=HN.out;omega,by omega,fun k hk=>HM.out k (by omega)⟩))
     go_wp2
     go_ret
     exact ⟨by rw [HYES.out _ (by first | exact .inl rfl | exact .inr rfl)];rfl,HBW.out⟩)
 ·rw [checkE_no (check_false (fun q=>ht q.1))]
  have h1:(t != 1)=true:=by simpa using fun q=>ht (.inl q)
  have h2:(t != 2)=true:=by simpa using fun q=>ht (.inr q)
  clear hT hc ht
  go_enter Tryz.func163,Tryz.ntmps163
  go_wp2
  go_ret
  exact ⟨rfl,box5 _ _⟩
end Go.Proofs.YtlkldgopliablaaGreatDoor
namespace Go.Proofs.YtlkldgopliablaaGreatDoor
open Go.ChangeShapes Go.WideShapes Go.ChangeAt Go.RowKit
theorem iInfo:(Tryz.prog.info? 3).map (fun i=>(i.zero,i.size,i.bytes))=some (some (.int .i64 0),1,8):=by kernel_rfl
theorem iNew_any (r:Int) (w:World):Calls Tryz.prog 162 #[.int .i64 r] w fun e w'=>∃ b,e=.returned (.pointer (some ⟨b,0,none⟩))∧b=w.heap.size∧Stk 290 3 w' b [b] [] (roomV r)∧Below w.heap.size w w':=by
 have H0:=Lib.hid (fun r0=>stk_new w 290 3 r0)
 have HB:=Lib.hid (fun o=>(Below.refl w.heap.size w).alloc (Nat.le_refl _) o)
 have HR:=Lib.hid (roomV_ok r)
 by_cases h1:r<0
 ·have e:roomV r=0:=by simp [roomV,h1]
  rw [e] at HR ⊢
  have h1':¬ 0≤r:=by omega
  clear e
  go_enter Tryz.func162,Tryz.ntmps162
  go_wp2
  go_ret
  exact ⟨_,rfl,rfl,H0.out _ HR.out.1 HR.out.2,HB.out _⟩
 ·by_cases h2:65536<r
  ·have e:roomV r=65536:=by simp [roomV,h1,h2]
   rw [e] at HR ⊢
   clear e
   go_enter Tryz.func162,Tryz.ntmps162
   go_wp2
   go_ret
   exact ⟨_,rfl,rfl,H0.out _ HR.out.1 HR.out.2,HB.out _⟩
  ·have e:roomV r=r:=by simp [roomV,h1,h2]
   rw [e] at HR ⊢
   clear e
   go_enter Tryz.func162,Tryz.ntmps162
   go_wp2
   go_ret
   exact ⟨_,rfl,rfl,H0.out _ HR.out.1 HR.out.2,HB.out _⟩
section
variable {w:World} {b:Nat} {F:List Nat} {l:List Int} {r:Int}
theorem iLen_any (h:Stk 290 3 w b F (i64s l) r):Calls Tryz.prog 248 #[.pointer (some ⟨b,0,none⟩)] w fun e w'=>e=.returned (.int .i64 l.length)∧w'=w:=by
 obtain ⟨p,c,hs,rfl⟩:=h
 have h0:=hs.cell0
 rw [i64s_len] at h0
 have hb:=hs.ltB
 clear hs
 go_enter Tryz.func248,Tryz.ntmps248
 go_wp2
 go_ret
 exact ⟨rfl,rfl⟩
theorem iRoom_any (h:Stk 290 3 w b F (i64s l) r):Calls Tryz.prog 249 #[.pointer (some ⟨b,0,none⟩)] w fun e w'=>e=.returned (.int .i64 r)∧w'=w:=by
 obtain ⟨p,c,hs,rfl⟩:=h
 have h0:=hs.cell1
 have hb:=hs.ltB
 clear hs
 go_enter Tryz.func249,Tryz.ntmps249
 go_wp2
 go_ret
 exact ⟨rfl,rfl⟩
theorem iPush_any (h:Stk 290 3 w b F (i64s l) r) (x:Int):Calls Tryz.prog 257 #[.pointer (some ⟨b,0,none⟩),Value.int .i64 x] w fun e w'=>∃ F',e=.returned (.int .i64 (pushE l r))∧Stk 290 3 w' b F' (i64s (pushL l r x)) r∧Turn F F' w w':=by
 have HS:=Lib.hid h
 obtain ⟨p,c,hs,rfl⟩:=h
 have h0:=hs.cell0
 have h1:=hs.cell1
 have hb:=hs.ltB
 have hf:=hs.free 0
 have hm:=hs.most
 rw [i64s_len] at h0
 by_cases hlt:(l.length:Int)<r
 ·have e1:pushE l r=0:=by simp [pushE,hlt]
  have e2:pushL l r x=l ++ [x]:=by simp [pushL,hlt]
  rw [e1,e2,i64s_snoc]
  clear e1 e2
  obtain ⟨i0,hi,hz0,hz1,hz2⟩:=info_parts iInfo
  have HZI:=Lib.hid (And.intro hi (And.intro hz0 (And.intro hz1 hz2)))
  have HA:Hid (∀ k,StAt 290 3 (w.drewN k) b p c (i64s l) r):=fun k=>hs.keep ((Same.drewN w k).kept _)
  have HO:Hid (∀ k,(w.drewN k).ownsRow 0 3 1 (.slice p l.length c) l.length (i64s l)):=fun k=>by
   have:=(HA.out k).row.own
   rw [i64s_len] at this
   exact this
  have HMORE:Hid (∀ k o w3 v,w3.ownsRow 0 3 1 v (l.length+1) (i64s l ++ [Value.int .i64 x])→((w.drewN k).alloc o).grownBy w3 (Value.slice p l.length c).ownBlock→(v.ownBlock=(Value.slice p l.length c).ownBlock∨v.ownBlock=some ((w.drewN k).alloc o).heap.size)→∃ p' c',v=.slice p' (l.length+1) c'∧Stk 290 3 (w3.setCell ⟨b,0,none⟩ (.slice p' (l.length+1) c')) b (b::fpR p') (i64s l ++ [Value.int .i64 x]) r∧Turn (b::fpR p) (b::fpR p') w (w3.setCell ⟨b,0,none⟩ (.slice p' (l.length+1) c'))∧w3.cell? ⟨b,0,none⟩=some (.slice p l.length c)∧w3.frozen? ⟨b,0,none⟩=false∧b<w3.heap.size):=by
   intro k o w3 v ho hg hat
   have hne:some b≠(Value.slice p l.length c).ownBlock:=fun q=>hs.ne (own_fpR.2 q.symm)
   have hbk:=hg.block b (by simp;have:=hs.ltB;omega) hne
   have e:=(hs.alloc_box k o)
   have hm3:=(HA.out k).more (w3:=w3) (v:=v) (o:=o) (x:=Value.int .i64 x) (by rw [i64s_len];exact ho) (by rw [i64s_len];exact hg) (by rw [i64s_len];exact hat) (by rw [i64s_len];exact hlt)
   rw [i64s_len] at hm3
   obtain ⟨p',c',q1,q2,q3⟩:=hm3
   rw [e,i64s_len] at hbk
   refine ⟨p',c',q1,q2,((Same.drewN w k).turn _).trans q3,?_,frozen_of_row w3 b 0 _ _ hbk,lt_of_block hbk⟩
   rw [cell_of_row w3 b 0 _ _ _ hbk]
   rfl
  have HLT:=Lib.hid (And.intro hlt hm)
  clear hi hz0 hz1 hz2 hs hm
  go_enter Tryz.func257,Tryz.ntmps257
  go_wp2
  go_quiet (fail)
  go_wp2_with (at_builtin;refine wpList_append_own_at _ rfl _ _ 36 rfl 0 3 i0 (.int .i64 0) 1 8 Tryz.underlying36 HZI.out.1 HZI.out.2.1 HZI.out.2.2.1 HZI.out.2.2.2 rfl (by decide) _ l.length (i64s l) rfl (World.ownsRow.alloc (HO.out _) _) ⟨w.heap.size,0,none⟩ 1 1 [Value.int .i64 x] rfl rfl (cell_one_new _ _ _) (fun u hu=>by simp at hu;subst hu;rfl) (by have:=HLT.out;unfold maxLen;omega) (by have:=HLT.out;omega) (Nat.zero_le _) ?_;intro v3 w3 hown3 hgrow3 hnil3 hat3;obtain ⟨p',c',hv3,q1,q2,q3,q4,q5⟩:=HMORE.out _ _ _ _ hown3 hgrow3 hat3;subst hv3;have HQ:=Lib.hid (And.intro q1 q2);clear hown3 hgrow3 hnil3 hat3 q1 q2 HMORE)
  go_ret
  exact ⟨_,rfl,HQ.out.1,HQ.out.2⟩
 ·have e1:pushE l r=40:=by simp [pushE,hlt]
  have e2:pushL l r x=l:=by simp [pushL,hlt]
  rw [e1,e2]
  clear e1 e2 hs hm
  go_enter Tryz.func257,Tryz.ntmps257
  go_wp2
  go_quiet (fail)
  go_wp2
  go_ret
  exact ⟨_,rfl,HS.out.same (Same.drewN _ _),(Same.drewN _ _).turn _⟩
theorem iPick_none (h:Stk 290 3 w b F (i64s l) r) (i:Int) (hi:inB l.length i=false):Calls Tryz.prog 273 #[.pointer (some ⟨b,0,none⟩),.int .i64 i] w fun e w'=>e=.returned (.tuple #[Value.int .i64 0,.int .i64 41])∧w'=w:=by
 obtain ⟨p,c,hs,rfl⟩:=h
 have h0:=hs.cell0
 have hb:=hs.ltB
 rw [i64s_len] at h0
 have hi:=of_decide_eq_false hi
 clear hs
 by_cases h1:i<0
 ·clear hi
  go_enter Tryz.func273,Tryz.ntmps273
  go_wp2
  go_ret2
  exact ⟨rfl,rfl⟩
 ·have h2:(l.length:Int)≤i:=by omega
  clear hi
  go_enter Tryz.func273,Tryz.ntmps273
  go_wp2
  go_ret2
  exact ⟨rfl,rfl⟩
theorem iPick_drew (h:Stk 290 3 w b F (i64s l) r) (k j:Nat) (hk:j+1+k=l.length) (x:Int) (hx:l[j]?=some x):Calls Tryz.prog 273 #[.pointer (some ⟨b,0,none⟩),.int .i64 k] w fun e w'=>e=.returned (.tuple #[Value.int .i64 x,.int .i64 0])∧∃ q,w'=w.drewN q:=by
 obtain ⟨p,c,hs,rfl⟩:=h
 have h0:=hs.cell0
 have hb:=hs.ltB
 obtain ⟨g,rfl,hg,_,_,_,_,hc⟩:=hs.some_at (by rw [i64s_len];omega)
 have hj:w.cell? ⟨g,j,none⟩=some (Value.int .i64 x):=by
  rw [hc j (by rw [i64s_len];omega),i64s_at l j _ (by omega)]
  rw [List.getElem?_eq_getElem (by omega)] at hx
  rw [Option.some.inj hx]
 have hm:=hs.most
 have hfi:=hs.fits
 rw [i64s_len] at h0 hfi
 have hn:l.length≤65536:=by omega
 clear hs hc hx hfi hm
 obtain ⟨n,hnn⟩:∃ n,n=l.length:=⟨_,rfl⟩
 rw [← hnn] at h0 hk hn
 clear hnn
 subst hk
 have k1:(k:Int)<((j+1+k:Nat):Int):=by omega
 have e1:((j+1+k:Nat):Int) - 1 - (k:Int)=(j:Int):=by omega
 have k2:(j:Int)<((j+1+k:Nat):Int):=by omega
 go_enter Tryz.func273,Tryz.ntmps273
 go_wp2
 go_quiet (fail)
 go_wp2
 go_ret2
 exact ⟨rfl,_,rfl⟩
theorem iPick_some (h:Stk 290 3 w b F (i64s l) r) (k j:Nat) (hk:j+1+k=l.length) (x:Int) (hx:l[j]?=some x):Calls Tryz.prog 273 #[.pointer (some ⟨b,0,none⟩),.int .i64 k] w fun e w'=>e=.returned (.tuple #[Value.int .i64 x,.int .i64 0])∧Same w w' :=
 (iPick_drew h k j hk x hx).mono fun _ _ ⟨he,_,hq⟩=>⟨he,hq ▸ Same.drewN _ _⟩
theorem iPop_none (h:Stk 290 3 w b F (i64s []) r):Calls Tryz.prog 255 #[.pointer (some ⟨b,0,none⟩)] w fun e w'=>e=.returned (.tuple #[Value.int .i64 0,.int .i64 41])∧w'=w:=by
 have HS:=Lib.hid h
 clear h
 go_enter Tryz.func255,Tryz.ntmps255
 go_wp2_with (go_at_call 273;refine (iPick_none HS.out _ (by decide)).mono ?_;rintro e w1 ⟨rfl,hw⟩;subst w1)
 go_ret2
 exact ⟨rfl,rfl⟩
theorem iZero:∀ w,(zeroValue 3).run Tryz.prog w=.ok (.int .i64 0) w:=by
 intro w
 obtain ⟨i0,hi,hz0,_,_⟩:=info_parts iInfo
 simp [zeroValue,typeInfo,hi,hz0]
theorem iWipe {w:World} {b g c:Nat} {m:List Int} {x:Int} {r:Int} (h:StAt 290 3 w b (some ⟨g,0,none⟩) c (i64s m ++ [Value.int .i64 x]) r):∀ ty,(Builtin.clear_ #[36] ty #[.slice (some ⟨g,m.length,none⟩) 1 (c - m.length)]).run Tryz.prog w=.ok (.tuple #[]) (w.setCell ⟨g,m.length,none⟩ (.int .i64 0)):=by
 intro ty
 obtain ⟨g',hg',_,hn,_,hc,hf,_⟩:=h.some_at (by simp)
 cases hg'
 have hl:(i64s m ++ [Value.int .i64 x]).length=m.length+1:=by simp [i64s_len]
 exact Lib.run_clear_slice w 36 3 ty (.int .i64 0) Tryz.underlying36 iZero rfl rfl g m.length 1 (c - m.length) (by decide) (fun j hj=>hc _ (by omega)) (fun j _=>hf _)
theorem iPop_some {m:List Int} {x:Int} (h:Stk 290 3 w b F (i64s (m ++ [x])) r):Calls Tryz.prog 255 #[.pointer (some ⟨b,0,none⟩)] w fun e w'=>∃ F',e=.returned (.tuple #[Value.int .i64 x,.int .i64 0])∧Stk 290 3 w' b F' (i64s m) r∧Turn F F' w w':=by
 have HS:=Lib.hid h
 obtain ⟨p,c,hs,rfl⟩:=h
 obtain ⟨g,rfl,hg,hc,hmx,_,hff,_⟩:=hs.some_at (by rw [i64s_len];simp)
 have hb:=hs.ltB
 have hn:m.length+1≤65536:=by
  have h1:=hs.fits
  have h2:=hs.most
  rw [i64s_len] at h1
  simp at h1
  omega
 have hc':m.length+1≤c:=by rw [i64s_len] at hc;simpa using hc
 have hmx':c≤9223372036854775807:=hmx
 have HA:Hid (∀ w1,Same w w1→StAt 290 3 w1 b (some ⟨g,0,none⟩) c (i64s m ++ [Value.int .i64 x]) r):=fun w1 k=>by
  have:=hs.keep (k.kept _)
  rw [i64s_snoc] at this
  exact this
 have HP:=Lib.hid (iPick_some HS.out 0 m.length (by simp) x (by simp))
 clear hs hc hmx
 have HALL:Hid (∀ w1,Same w w1→w1.cell? ⟨b,0,none⟩=some (.slice (some ⟨g,0,none⟩) (m.length+1) c)∧(w1.setCell ⟨g,m.length,none⟩ (.int .i64 0)).cell? ⟨b,0,none⟩=some (.slice (some ⟨g,0,none⟩) (m.length+1) c)∧(w1.setCell ⟨g,m.length,none⟩ (.int .i64 0)).frozen? ⟨b,0,none⟩=false∧b<w1.heap.size∧(∀ ty,(Builtin.clear_ #[36] ty #[.slice (some ⟨g,m.length,none⟩) 1 (c - m.length)]).run Tryz.prog w1=.ok (.tuple #[]) (w1.setCell ⟨g,m.length,none⟩ (.int .i64 0)))∧Stk 290 3 ((w1.setCell ⟨g,m.length,none⟩ (.int .i64 0)).setCell ⟨b,0,none⟩ (.slice (some ⟨g,0,none⟩) m.length c)) b [b,g] (i64s m) r∧Turn [b,g] [b,g] w ((w1.setCell ⟨g,m.length,none⟩ (.int .i64 0)).setCell ⟨b,0,none⟩ (.slice (some ⟨g,0,none⟩) m.length c))):=by
  intro w1 k
  have a:=HA.out w1 k
  have hl:(i64s m ++ [Value.int .i64 x]).length=m.length+1:=by simp [i64s_len]
  have q:=a.less (.int .i64 0)
  have q0:=a.cell0
  have hne:b≠g:=fun z=>a.ne (by simp [fpR,z])
  have hbx:(w1.setCell ⟨g,m.length,none⟩ (.int .i64 0)).heap[b]?=w1.heap[b]?:=heap_setCell_other _ _ _ _ hne
  rw [i64s_len] at q
  rw [hl] at q0
  exact ⟨q0,(World.cell?_of_block (a:=⟨b,0,none⟩) hbx).trans q0,(World.frozen?_of_block (a:=⟨b,0,none⟩) hbx).trans (a.free 0),a.ltB,iWipe a,q.1,(k.turn _).trans q.2⟩
 clear HS
 have e1:((m.length+1:Nat):Int) - 1=(m.length:Int):=by omega
 have e2:m.length+1 - m.length=1:=by omega
 have k1:(m.length:Int)≤((m.length+1:Nat):Int):=by omega
 have k2:(m.length:Int)≤(c:Int):=by omega
 go_enter Tryz.func255,Tryz.ntmps255
 go_wp2_with (go_at_call 273;refine HP.out.mono ?_;rintro e w1 ⟨rfl,hw⟩;obtain ⟨q0,q1,q2,q3,q4,q5,q6⟩:=HALL.out w1 hw;have HQ:=Lib.hid (And.intro q5 q6);clear q5 q6 hw HALL HP)
 go_ret2
 exact ⟨_,rfl,HQ.out.1,HQ.out.2⟩
end
end Go.Proofs.YtlkldgopliablaaGreatDoor
namespace Go.Proofs.YtlkldgopliablaaGreatDoor
open Go.ChangeShapes Go.WideShapes Go.ChangeAt Go.RowKit
attribute [local go_sem] run_store_float
theorem fInfo:(Tryz.prog.info? 71).map (fun i=>(i.zero,i.size,i.bytes))=some (some (.float .f64 0),1,8):=by kernel_rfl
theorem fNew_any (r:Int) (w:World):Calls Tryz.prog 161 #[.int .i64 r] w fun e w'=>∃ b,e=.returned (.pointer (some ⟨b,0,none⟩))∧b=w.heap.size∧Stk 288 71 w' b [b] [] (roomV r)∧Below w.heap.size w w':=by
 have H0:=Lib.hid (fun r0=>stk_new w 288 71 r0)
 have HB:=Lib.hid (fun o=>(Below.refl w.heap.size w).alloc (Nat.le_refl _) o)
 have HR:=Lib.hid (roomV_ok r)
 by_cases h1:r<0
 ·have e:roomV r=0:=by simp [roomV,h1]
  rw [e] at HR ⊢
  have h1':¬ 0≤r:=by omega
  clear e
  go_enter Tryz.func161,Tryz.ntmps161
  go_wp2
  go_ret
  exact ⟨_,rfl,rfl,H0.out _ HR.out.1 HR.out.2,HB.out _⟩
 ·by_cases h2:65536<r
  ·have e:roomV r=65536:=by simp [roomV,h1,h2]
   rw [e] at HR ⊢
   clear e
   go_enter Tryz.func161,Tryz.ntmps161
   go_wp2
   go_ret
   exact ⟨_,rfl,rfl,H0.out _ HR.out.1 HR.out.2,HB.out _⟩
  ·have e:roomV r=r:=by simp [roomV,h1,h2]
   rw [e] at HR ⊢
   clear e
   go_enter Tryz.func161,Tryz.ntmps161
   go_wp2
   go_ret
   exact ⟨_,rfl,rfl,H0.out _ HR.out.1 HR.out.2,HB.out _⟩
section
variable {w:World} {b:Nat} {F:List Nat} {l:List Nat} {r:Int}
theorem fLen_any (h:Stk 288 71 w b F (fls l) r):Calls Tryz.prog 246 #[.pointer (some ⟨b,0,none⟩)] w fun e w'=>e=.returned (.int .i64 l.length)∧w'=w:=by
 obtain ⟨p,c,hs,rfl⟩:=h
 have h0:=hs.cell0
 rw [fls_len] at h0
 have hb:=hs.ltB
 clear hs
 go_enter Tryz.func246,Tryz.ntmps246
 go_wp2
 go_ret
 exact ⟨rfl,rfl⟩
theorem fRoom_any (h:Stk 288 71 w b F (fls l) r):Calls Tryz.prog 247 #[.pointer (some ⟨b,0,none⟩)] w fun e w'=>e=.returned (.int .i64 r)∧w'=w:=by
 obtain ⟨p,c,hs,rfl⟩:=h
 have h0:=hs.cell1
 have hb:=hs.ltB
 clear hs
 go_enter Tryz.func247,Tryz.ntmps247
 go_wp2
 go_ret
 exact ⟨rfl,rfl⟩
theorem fPush_any (h:Stk 288 71 w b F (fls l) r) (x:Nat):Calls Tryz.prog 260 #[.pointer (some ⟨b,0,none⟩),Value.float .f64 x] w fun e w'=>∃ F',e=.returned (.int .i64 (pushE l r))∧Stk 288 71 w' b F' (fls (pushL l r x)) r∧Turn F F' w w':=by
 have HS:=Lib.hid h
 obtain ⟨p,c,hs,rfl⟩:=h
 have h0:=hs.cell0
 have h1:=hs.cell1
 have hb:=hs.ltB
 have hf:=hs.free 0
 have hm:=hs.most
 rw [fls_len] at h0
 by_cases hlt:(l.length:Int)<r
 ·have e1:pushE l r=0:=by simp [pushE,hlt]
  have e2:pushL l r x=l ++ [x]:=by simp [pushL,hlt]
  rw [e1,e2,fls_snoc]
  clear e1 e2
  obtain ⟨i0,hi,hz0,hz1,hz2⟩:=info_parts fInfo
  have HZI:=Lib.hid (And.intro hi (And.intro hz0 (And.intro hz1 hz2)))
  have HA:Hid (∀ k,StAt 288 71 (w.drewN k) b p c (fls l) r):=fun k=>hs.keep ((Same.drewN w k).kept _)
  have HO:Hid (∀ k,(w.drewN k).ownsRow 0 71 1 (.slice p l.length c) l.length (fls l)):=fun k=>by
   have:=(HA.out k).row.own
   rw [fls_len] at this
   exact this
  have HMORE:Hid (∀ k o w3 v,w3.ownsRow 0 71 1 v (l.length+1) (fls l ++ [Value.float .f64 x])→((w.drewN k).alloc o).grownBy w3 (Value.slice p l.length c).ownBlock→(v.ownBlock=(Value.slice p l.length c).ownBlock∨v.ownBlock=some ((w.drewN k).alloc o).heap.size)→∃ p' c',v=.slice p' (l.length+1) c'∧Stk 288 71 (w3.setCell ⟨b,0,none⟩ (.slice p' (l.length+1) c')) b (b::fpR p') (fls l ++ [Value.float .f64 x]) r∧Turn (b::fpR p) (b::fpR p') w (w3.setCell ⟨b,0,none⟩ (.slice p' (l.length+1) c'))∧w3.cell? ⟨b,0,none⟩=some (.slice p l.length c)∧w3.frozen? ⟨b,0,none⟩=false∧b<w3.heap.size):=by
   intro k o w3 v ho hg hat
   have hne:some b≠(Value.slice p l.length c).ownBlock:=fun q=>hs.ne (own_fpR.2 q.symm)
   have hbk:=hg.block b (by simp;have:=hs.ltB;omega) hne
   have e:=(hs.alloc_box k o)
   have hm3:=(HA.out k).more (w3:=w3) (v:=v) (o:=o) (x:=Value.float .f64 x) (by rw [fls_len];exact ho) (by rw [fls_len];exact hg) (by rw [fls_len];exact hat) (by rw [fls_len];exact hlt)
   rw [fls_len] at hm3
   obtain ⟨p',c',q1,q2,q3⟩:=hm3
   rw [e,fls_len] at hbk
   refine ⟨p',c',q1,q2,((Same.drewN w k).turn _).trans q3,?_,frozen_of_row w3 b 0 _ _ hbk,lt_of_block hbk⟩
   rw [cell_of_row w3 b 0 _ _ _ hbk]
   rfl
  have HLT:=Lib.hid (And.intro hlt hm)
  clear hi hz0 hz1 hz2 hs hm
  go_enter Tryz.func260,Tryz.ntmps260
  go_wp2
  go_quiet (fail)
  go_wp2_with (at_builtin;refine wpList_append_own_at _ rfl _ _ 24 rfl 0 71 i0 (.float .f64 0) 1 8 Tryz.underlying24 HZI.out.1 HZI.out.2.1 HZI.out.2.2.1 HZI.out.2.2.2 rfl (by decide) _ l.length (fls l) rfl (World.ownsRow.alloc (HO.out _) _) ⟨w.heap.size,0,none⟩ 1 1 [Value.float .f64 x] rfl rfl (cell_one_new _ _ _) (fun u hu=>by simp at hu;subst hu;rfl) (by have:=HLT.out;unfold maxLen;omega) (by have:=HLT.out;omega) (Nat.zero_le _) ?_;intro v3 w3 hown3 hgrow3 hnil3 hat3;obtain ⟨p',c',hv3,q1,q2,q3,q4,q5⟩:=HMORE.out _ _ _ _ hown3 hgrow3 hat3;subst hv3;have HQ:=Lib.hid (And.intro q1 q2);clear hown3 hgrow3 hnil3 hat3 q1 q2 HMORE)
  go_ret
  exact ⟨_,rfl,HQ.out.1,HQ.out.2⟩
 ·have e1:pushE l r=40:=by simp [pushE,hlt]
  have e2:pushL l r x=l:=by simp [pushL,hlt]
  rw [e1,e2]
  clear e1 e2 hs hm
  go_enter Tryz.func260,Tryz.ntmps260
  go_wp2
  go_quiet (fail)
  go_wp2
  go_ret
  exact ⟨_,rfl,HS.out.same (Same.drewN _ _),(Same.drewN _ _).turn _⟩
theorem fPick_drew (h:Stk 288 71 w b F (fls l) r) (k j:Nat) (hk:j+1+k=l.length) (x:Nat) (hx:l[j]?=some x):Calls Tryz.prog 272 #[.pointer (some ⟨b,0,none⟩),.int .i64 k] w fun e w'=>e=.returned (.tuple #[Value.float .f64 x,.int .i64 0])∧∃ q,w'=w.drewN q:=by
 obtain ⟨p,c,hs,rfl⟩:=h
 have h0:=hs.cell0
 have hb:=hs.ltB
 obtain ⟨g,rfl,hg,_,_,_,_,hc⟩:=hs.some_at (by rw [fls_len];omega)
 have hj:w.cell? ⟨g,j,none⟩=some (Value.float .f64 x):=by
  rw [hc j (by rw [fls_len];omega),fls_at l j _ (by omega)]
  rw [List.getElem?_eq_getElem (by omega)] at hx
  rw [Option.some.inj hx]
 have hm:=hs.most
 have hfi:=hs.fits
 rw [fls_len] at h0 hfi
 have hn:l.length≤65536:=by omega
 clear hs hc hx hfi hm
 obtain ⟨n,hnn⟩:∃ n,n=l.length:=⟨_,rfl⟩
 rw [← hnn] at h0 hk hn
 clear hnn
 subst hk
 have k1:(k:Int)<((j+1+k:Nat):Int):=by omega
 have e1:((j+1+k:Nat):Int) - 1 - (k:Int)=(j:Int):=by omega
 have k2:(j:Int)<((j+1+k:Nat):Int):=by omega
 go_enter Tryz.func272,Tryz.ntmps272
 go_wp2
 go_quiet (fail)
 go_wp2
 go_ret2
 exact ⟨rfl,_,rfl⟩
theorem fPick_some (h:Stk 288 71 w b F (fls l) r) (k j:Nat) (hk:j+1+k=l.length) (x:Nat) (hx:l[j]?=some x):Calls Tryz.prog 272 #[.pointer (some ⟨b,0,none⟩),.int .i64 k] w fun e w'=>e=.returned (.tuple #[Value.float .f64 x,.int .i64 0])∧Same w w' :=
 (fPick_drew h k j hk x hx).mono fun _ _ ⟨he,_,hq⟩=>⟨he,hq ▸ Same.drewN _ _⟩
theorem fZero:∀ w,(zeroValue 71).run Tryz.prog w=.ok (.float .f64 0) w:=by
 intro w
 obtain ⟨i0,hi,hz0,_,_⟩:=info_parts fInfo
 simp [zeroValue,typeInfo,hi,hz0]
theorem fWipe {w:World} {b g c:Nat} {m:List Nat} {x:Nat} {r:Int} (h:StAt 288 71 w b (some ⟨g,0,none⟩) c (fls m ++ [Value.float .f64 x]) r):∀ ty,(Builtin.clear_ #[24] ty #[.slice (some ⟨g,m.length,none⟩) 1 (c - m.length)]).run Tryz.prog w=.ok (.tuple #[]) (w.setCell ⟨g,m.length,none⟩ (.float .f64 0)):=by
 intro ty
 obtain ⟨g',hg',_,hn,_,hc,hf,_⟩:=h.some_at (by simp)
 cases hg'
 have hl:(fls m ++ [Value.float .f64 x]).length=m.length+1:=by simp [fls_len]
 exact Lib.run_clear_slice w 24 71 ty (.float .f64 0) Tryz.underlying24 fZero rfl rfl g m.length 1 (c - m.length) (by decide) (fun j hj=>hc _ (by omega)) (fun j _=>hf _)
theorem fPop_some {m:List Nat} {x:Nat} (h:Stk 288 71 w b F (fls (m ++ [x])) r):Calls Tryz.prog 271 #[.pointer (some ⟨b,0,none⟩)] w fun e w'=>∃ F',e=.returned (.tuple #[Value.float .f64 x,.int .i64 0])∧Stk 288 71 w' b F' (fls m) r∧Turn F F' w w':=by
 have HS:=Lib.hid h
 obtain ⟨p,c,hs,rfl⟩:=h
 obtain ⟨g,rfl,hg,hc,hmx,_,hff,_⟩:=hs.some_at (by rw [fls_len];simp)
 have hb:=hs.ltB
 have hn:m.length+1≤65536:=by
  have h1:=hs.fits
  have h2:=hs.most
  rw [fls_len] at h1
  simp at h1
  omega
 have hc':m.length+1≤c:=by rw [fls_len] at hc;simpa using hc
 have hmx':c≤9223372036854775807:=hmx
 have HA:Hid (∀ w1,Same w w1→StAt 288 71 w1 b (some ⟨g,0,none⟩) c (fls m ++ [Value.float .f64 x]) r):=fun w1 k=>by
  have:=hs.keep (k.kept _)
  rw [fls_snoc] at this
  exact this
 have HP:=Lib.hid (fPick_some HS.out 0 m.length (by simp) x (by simp))
 clear hs hc hmx
 have HALL:Hid (∀ w1,Same w w1→w1.cell? ⟨b,0,none⟩=some (.slice (some ⟨g,0,none⟩) (m.length+1) c)∧(w1.setCell ⟨g,m.length,none⟩ (.float .f64 0)).cell? ⟨b,0,none⟩=some (.slice (some ⟨g,0,none⟩) (m.length+1) c)∧(w1.setCell ⟨g,m.length,none⟩ (.float .f64 0)).frozen? ⟨b,0,none⟩=false∧b<w1.heap.size∧(∀ ty,(Builtin.clear_ #[24] ty #[.slice (some ⟨g,m.length,none⟩) 1 (c - m.length)]).run Tryz.prog w1=.ok (.tuple #[]) (w1.setCell ⟨g,m.length,none⟩ (.float .f64 0)))∧Stk 288 71 ((w1.setCell ⟨g,m.length,none⟩ (.float .f64 0)).setCell ⟨b,0,none⟩ (.slice (some ⟨g,0,none⟩) m.length c)) b [b,g] (fls m) r∧Turn [b,g] [b,g] w ((w1.setCell ⟨g,m.length,none⟩ (.float .f64 0)).setCell ⟨b,0,none⟩ (.slice (some ⟨g,0,none⟩) m.length c))):=by
  intro w1 k
  have a:=HA.out w1 k
  have hl:(fls m ++ [Value.float .f64 x]).length=m.length+1:=by simp [fls_len]
  have q:=a.less (.float .f64 0)
  have q0:=a.cell0
  have hne:b≠g:=fun z=>a.ne (by simp [fpR,z])
  have hbx:(w1.setCell ⟨g,m.length,none⟩ (.float .f64 0)).heap[b]?=w1.heap[b]?:=heap_setCell_other _ _ _ _ hne
  rw [fls_len] at q
  rw [hl] at q0
  exact ⟨q0,(World.cell?_of_block (a:=⟨b,0,none⟩) hbx).trans q0,(World.frozen?_of_block (a:=⟨b,0,none⟩) hbx).trans (a.free 0),a.ltB,fWipe a,q.1,(k.turn _).trans q.2⟩
 clear HS
 have e1:((m.length+1:Nat):Int) - 1=(m.length:Int):=by omega
 have e2:m.length+1 - m.length=1:=by omega
 have k1:(m.length:Int)≤((m.length+1:Nat):Int):=by omega
 have k2:(m.length:Int)≤(c:Int):=by omega
 go_enter Tryz.func271,Tryz.ntmps271
 go_wp2_with (go_at_call 272;refine HP.out.mono ?_;rintro e w1 ⟨rfl,hw⟩;obtain ⟨q0,q1,q2,q3,q4,q5,q6⟩:=HALL.out w1 hw;have HQ:=Lib.hid (And.intro q5 q6);clear q5 q6 hw HALL HP)
 go_ret2
 exact ⟨_,rfl,HQ.out.1,HQ.out.2⟩
end
end Go.Proofs.YtlkldgopliablaaGreatDoor
namespace Go.Proofs.YtlkldgopliablaaGreatDoor
open Go.ChangeShapes Go.WideShapes Go.ChangeAt Go.RowKit Num Go.Maps
attribute [local go_sem] run_store_float frombits_run bits_run
section
variable {w:World} {b:Nat} {F:List Nat} {m:Int} {l:Wr}
theorem put_old (h:Buf w b F m l) {d:Int} (hd:(Lit.int .i64 d).wf=true) (hh:hasC l d=true) (x:Nat):Calls Tryz.prog 254 #[.pointer (some ⟨b,0,none⟩),.int .i64 d,.float .f64 x] w fun e w'=>∃ F',e=.returned (.tuple #[.bool false,.int .i64 0])∧Buf w' b F' m (putC l d (fixB x))∧Turn F F' w w':=by
 obtain ⟨bm,p,c,hs,rfl⟩:=h
 have h0:=hs.cell1
 have hb:=hs.ltB
 have hlk:=hs.map.look hd
 rw [hh] at hlk
 have hmost:=hs.most
 have hfits:=hs.fits
 obtain ⟨w1,hrun,hm1,hg1⟩:=(hs.same (Same.drew w)).map.lay hd (fixB x) (by unfold maxLen;omega)
 have HF:=Lib.hid ((hs.same (Same.drew w)).laid hh hm1 hg1)
 clear hs hd hh hm1 hg1 hmost hfits
 go_enter Tryz.func254,Tryz.ntmps254
 go_wp2
 go_region_with (go_at_call 128;refine (fix_any _ _).mono ?_;rintro e w' ⟨rfl,hw⟩;subst w')
 all_goals (try go_wp2)
 all_goals go_ret2
 all_goals exact ⟨_,rfl,HF.out.1.buf,((Same.drew _).turn _).trans HF.out.2⟩
theorem put_full (h:Buf w b F m l) {d:Int} (hd:(Lit.int .i64 d).wf=true) (hh:hasC l d=false) (hf:¬ (l.length:Int)<m) (x:Nat):Calls Tryz.prog 254 #[.pointer (some ⟨b,0,none⟩),.int .i64 d,.float .f64 x] w fun e w'=>e=.returned (.tuple #[.bool false,.int .i64 70])∧Same w w':=by
 obtain ⟨bm,p,c,hs,rfl⟩:=h
 have h0:=hs.cell1
 have h1:=hs.cell0
 have h2:=hs.cell2
 have hb:=hs.ltB
 have hlk:=hs.map.look hd
 rw [hh] at hlk
 have hfits:=hs.fits
 have e:m=(l.length:Int):=by omega
 subst e
 clear hs hd hh hf hfits
 go_enter Tryz.func254,Tryz.ntmps254
 go_wp2
 go_quiet (fail)
 all_goals (try go_wp2)
 all_goals go_ret2
 all_goals exact ⟨rfl,by first | exact Same.refl _ | exact Same.drew _ | exact Same.drewN _ _⟩
theorem put_new (h:Buf w b F m l) {d:Int} (hd:(Lit.int .i64 d).wf=true) (hh:hasC l d=false) (hf:(l.length:Int)<m) (x:Nat):Calls Tryz.prog 254 #[.pointer (some ⟨b,0,none⟩),.int .i64 d,.float .f64 x] w fun e w'=>∃ F',e=.returned (.tuple #[.bool true,.int .i64 0])∧Buf w' b F' m (putC l d (fixB x))∧Turn F F' w w':=by
 obtain ⟨bm,p,c,hs,rfl⟩:=h
 have h0:=hs.cell1
 have h1:=hs.cell0
 have h2:=hs.cell2
 have hb:=hs.ltB
 have hlk:=hs.map.look hd
 rw [hh] at hlk
 have hne:¬ (l.length:Int)=m:=by omega
 have HLT:Hid (l.length<32):=by have:=hs.most;show _<_;omega
 have HD:Hid ((∀ k,BufAt (w.drewN k) b bm p c m l)∧hasC l d=false∧(Lit.int .i64 d).wf=true∧(l.length:Int)<m):=⟨fun k=>hs.same (Same.drewN w k),hh,hd,hf⟩
 have HO:Hid (∀ u:World,u.heap=w.heap→u.ownsRow 0 3 1 (.slice p l.length c) l.length (i64s (cellsOfL l))):=fun u e=>by
  have:=(hs.row.keep (w':=u) ⟨by rw [e];exact Nat.le_refl _,fun k _=>by rw [e]⟩).own
  rw [i64s_len,cells_len] at this
  exact this
 obtain ⟨i0,hi,hz0,hz1,hz2⟩:=info_parts iInfo
 have HZI:=Lib.hid (And.intro hi (And.intro hz0 (And.intro hz1 hz2)))
 clear hi hz0 hz1 hz2 hs hh hd hf
 go_enter Tryz.func254,Tryz.ntmps254
 go_wp2
 go_quiet (fail)
 go_wp2_with (at_builtin;refine wpList_append_own_at _ rfl _ _ 36 rfl 0 3 i0 (.int .i64 0) 1 8 Tryz.underlying36 HZI.out.1 HZI.out.2.1 HZI.out.2.2.1 HZI.out.2.2.2 rfl (by decide) _ l.length (i64s (cellsOfL l)) rfl (World.ownsRow.alloc (HO.out _ rfl) _) ⟨w.heap.size,0,none⟩ 1 1 [.int .i64 d] rfl rfl (cell_one_new _ _ _) (fun u hu=>by simp at hu;subst hu;rfl) (by have:=HLT.out;unfold maxLen;omega) (by have:=HLT.out;omega) (Nat.zero_le _) ?_;intro v w3 hown hgrow hnil hloc;obtain ⟨p',c',hv,k1,k2,kf,kb,w4,hrun,hs4,ht4⟩:=(HD.out.1 _).more hown hgrow hloc HD.out.2.1 HD.out.2.2.1 HD.out.2.2.2 (fixB x);subst hv;have HS4:=Lib.hid (And.intro hs4 ht4);clear hown hgrow hnil hloc hs4 ht4)
 go_region_with (go_at_call 128;refine (fix_any _ _).mono ?_;rintro e w' ⟨rfl,hw⟩;subst w')
 all_goals (try go_wp2)
 all_goals go_ret2
 all_goals exact ⟨_,rfl,HS4.out.1.buf,((Same.drewN _ _).turn _).trans HS4.out.2⟩
theorem put_any (h:Buf w b F m l) {d:Int} (hd:(Lit.int .i64 d).wf=true) (x:Nat):Calls Tryz.prog 254 #[.pointer (some ⟨b,0,none⟩),.int .i64 d,.float .f64 x] w fun e w'=>∃ F',e=.returned (.tuple #[.bool (putF m l d),.int .i64 (putE m l d)])∧Buf w' b F' m (putL m l d x)∧Turn F F' w w':=by
 unfold putF putE putL mayP
 cases hh:hasC l d
 ·by_cases hf:(l.length:Int)<m
  ·simp only [hf]
   exact put_new h hd hh hf x
  ·simp only [hf]
   exact (put_full h hd hh hf x).mono fun e w' ⟨a1,a2⟩=>⟨_,a1,h.same a2,a2.turn _⟩
 ·exact put_old h hd hh x
end
end Go.Proofs.YtlkldgopliablaaGreatDoor
namespace Go.Proofs.YtlkldgopliablaaGreatDoor
open Go.ChangeShapes Go.WideShapes Go.ChangeAt Go.RowKit Num Go.Maps
attribute [local go_sem] run_store_float frombits_run bits_run
theorem tInfo:(Tryz.prog.info? 189).map (fun i=>(i.zero,i.size,i.bytes))=some (some (.agg #[.int .i64 0,.float .f64 0]),2,16):=by kernel_rfl
def tchC (t:Int × Nat):List Value:=[.int .i64 t.1,.float .f64 t.2]
theorem tch_len (l:Wr):(l.flatMap tchC).length=l.length*2:=by
 induction l with
 | nil=>rfl
 | cons t l ih=>rw [List.flatMap_cons,List.length_append,ih];simp [tchC];omega
theorem take_tch (l:Wr) (k:Nat) (h:k<l.length):(l.take (k+1)).flatMap tchC=(l.take k).flatMap tchC ++ [.int .i64 (l.getD k (0,0)).1,.float .f64 (l.getD k (0,0)).2]:=by
 rw [List.take_succ_eq_append_getElem h,List.flatMap_append,show l.getD k (0,0)=l[k] by simp [h]]
 simp [tchC]
theorem flat_pair (l:Wr):∀ k (h:k<l.length),(l.flatMap tchC)[k*2]?=some (.int .i64 l[k].1)∧(l.flatMap tchC)[k*2+1]?=some (.float .f64 l[k].2):=by
 induction l with
 | nil=>intro k h;exact absurd h (Nat.not_lt_zero k)
 | cons t l ih =>
  intro k h
  cases k with
  | zero=>simp [tchC]
  | succ k =>
   have:=ih k (by simpa using h)
   rw [List.flatMap_cons]
   have e:(k+1)*2=(tchC t).length+k*2:=by simp [tchC];omega
   rw [e,List.getElem?_append_right (by omega),Nat.add_assoc,List.getElem?_append_right (by omega)]
   simpa using this
structure TRow (w:World) (p:Option Addr) (c:Nat) (l:Wr):Prop where
 own:w.ownsRow 0 189 2 (.slice p l.length c) l.length (l.flatMap tchC)
theorem TRow.blw {w:World} {p:Option Addr} {c:Nat} {l:Wr} (h:TRow w p c l):Blw w (fpR p):=fun k hk=>(h.own.lt k (own_fpR.1 hk)).2
theorem TRow.keep {w w':World} {p:Option Addr} {c:Nat} {l:Wr} (h:TRow w p c l) (k:Kept (fpR p) w w'):TRow w' p c l:=by
 refine ⟨h.own.1,?_⟩
 rcases h.own.2 with q | ⟨g,cap,cur,hv,hb,hg,rest⟩
 ·exact .inl q
 ·refine .inr ⟨g,cap,cur,hv,hb,?_,rest⟩
  rw [k.2 g (own_fpR.2 (by rw [hv];rfl))]
  exact hg
theorem TRow.on {w w':World} {p:Option Addr} {c:Nat} {l:Wr} (h:TRow w p c l) (k:Below w.heap.size w w'):TRow w' p c l:=h.keep (kept_below k h.blw)
theorem TRow.at {w:World} {p:Option Addr} {c:Nat} {l:Wr} (h:TRow w p c l) (i:Nat) (hi:i<l.length):∃ g,p=some ⟨g,0,none⟩∧g<w.heap.size∧w.cell? ⟨g,i*2,none⟩=some (.int .i64 l[i].1)∧w.cell? ⟨g,i*2+1,none⟩=some (.float .f64 l[i].2)∧∀ j,w.frozen? ⟨g,j,none⟩=false:=by
 rcases h.own.2 with ⟨_,q⟩ | ⟨g,cap',cur,hv,hB,hg,_,_,_,ht⟩
 ·omega
 ·cases hv
  have e:∀ j,j<l.length*2→cur[j]?=(l.flatMap tchC)[j]?:=fun j hj=>by
   have h1:cur.toList[j]?=(cur.toList.take (l.length*2))[j]?:=by
    rw [List.getElem?_take,if_pos (by omega)]
   rw [ht] at h1
   simpa using h1
  have q:=flat_pair l i hi
  refine ⟨g,rfl,lt_of_block hg,?_,?_,fun j=>frozen_of_row w g j _ _ hg⟩
  ·rw [cell_of_row w g _ _ _ _ hg,e _ (by omega)];exact q.1
  ·rw [cell_of_row w g _ _ _ _ hg,e _ (by omega)];exact q.2
theorem owns_slice2 {B:Nat} {E:TypeId} {w:World} {v:Value} {n s:Nat} {xs:List Value} (h:w.ownsRow B E s v n xs):∃ p c,v=.slice p n c∧Abv B (fpR p):=by
 rcases h.2 with ⟨rfl,h0⟩ | ⟨g,cap,cur,rfl,hB,_⟩
 ·exact ⟨none,0,by rw [h0],fun k hk=>by simp [fpR] at hk⟩
 ·exact ⟨some ⟨g,0,none⟩,cap,rfl,fun k hk=>by simp [fpR] at hk;omega⟩
theorem owns_zero {B:Nat} {E:TypeId} {w:World} {v:Value} {n s:Nat} {xs:List Value} (h:w.ownsRow B E s v n xs):w.ownsRow 0 E s v n xs :=
 ⟨h.1,h.2.imp id (fun ⟨g,cap,cur,a1,_,a3⟩=>⟨g,cap,cur,a1,Nat.zero_le _,a3⟩)⟩
theorem owns_heap {B:Nat} {E:TypeId} {s:Nat} {w w':World} {v:Value} {n:Nat} {xs:List Value} (h:w.ownsRow B E s v n xs) (e:w'.heap=w.heap):w'.ownsRow B E s v n xs:=by
 refine ⟨h.1,?_⟩
 rcases h.2 with q | ⟨g,cap,cur,hv,hB,hg,rest⟩
 ·exact .inl q
 ·exact .inr ⟨g,cap,cur,hv,hB,by rw [e];exact hg,rest⟩
end Go.Proofs.YtlkldgopliablaaGreatDoor
namespace Go.Proofs.YtlkldgopliablaaGreatDoor
open Go.ChangeShapes Go.WideShapes Go.ChangeAt Go.RowKit Num Go.Maps
attribute [local go_sem] run_store_float frombits_run bits_run
section
variable {w:World} {b:Nat} {F:List Nat} {m:Int} {l:Wr}
theorem row_step {cur:Array Value} {k n:Nat} {l:Wr} (hs:cur.size=n*2) (ht:cur.toList.take (k*2)=(l.take k).flatMap tchC) (hk:k<n) (hn:l.length=n):((cur.setIfInBounds (k*2) (.int .i64 (l.getD k (0,0)).1)).setIfInBounds (k*2+1) (.float .f64 (l.getD k (0,0)).2)).toList.take ((k+1)*2)=(l.take (k+1)).flatMap tchC:=by
 rw [take_tch l k (by omega),← ht]
 rw [Array.toList_setIfInBounds,Array.toList_setIfInBounds]
 have hl:cur.toList.length=n*2:=by simpa using hs
 generalize cur.toList=t at hl
 apply List.ext_getElem?
 intro j
 have e2:(t.take (k*2)).length=k*2:=by simp;omega
 rw [List.getElem?_take]
 by_cases h1:j<k*2
 ·rw [if_pos (by omega),List.getElem?_set_ne (by omega),List.getElem?_set_ne (by omega),List.getElem?_append_left (by omega),List.getElem?_take,if_pos h1]
 ·rw [List.getElem?_append_right (by omega),e2]
  by_cases h2:j=k*2
  ·subst h2
   rw [if_pos (by omega),List.getElem?_set_ne (by omega),List.getElem?_set_self (by omega)]
   simp
  ·by_cases h3:j=k*2+1
   ·subst h3
    rw [if_pos (by omega),List.getElem?_set_self (by simp;omega)]
    simp
   ·rw [if_neg (by omega)]
    symm
    rw [List.getElem?_eq_none (by simp;omega)]
theorem tMake (n:Nat) (hn:n≤32):∃ cur:Array Value,cur.size=n*2∧∀ w:World,(Instr.makeSlice 61 (.int .i64 (n:Int)) (.int .i64 (n:Int))).run Tryz.prog w=.ok (.slice (some ⟨w.heap.size,0,none⟩) n n) (w.alloc (.cells cur 189)):=by
 obtain ⟨i,hi,hz0,hz1,hz2⟩:=info_parts tInfo
 refine ⟨madeCells (Value.agg #[.int .i64 0,.float .f64 0]).cells (n*2),size_madeCells _ _,fun w=>?_⟩
 rw [run_make w 61 189 i _ Tryz.underlying61 hi hz0 .i64 .i64 n n (by omega) (Int.le_refl _) (by rw [hz2];omega) (by omega),hz1,Int.toNat_natCast]
theorem row_two {w:World} {g n k:Nat} {cur:Array Value} {T:TypeId} (h:w.heap[g]?=some (.cells cur T (0,0))) (hs:cur.size=n*2) (hk:k<n):∃ u v,w.cell? ⟨g,k*2,none⟩=some u∧w.cell? ⟨g,k*2+1,none⟩=some v∧w.frozen? ⟨g,k*2,none⟩=false∧w.frozen? ⟨g,k*2+1,none⟩=false:=by
 refine ⟨cur[k*2]'(by omega),cur[k*2+1]'(by omega),?_,?_,frozen_of_row w g _ _ _ h,frozen_of_row w g _ _ _ h⟩
 ·rw [cell_of_row w g _ _ _ _ h];simp [show k*2<cur.size by omega]
 ·rw [cell_of_row w g _ _ _ _ h];simp [show k*2+1<cur.size by omega]
theorem all_any' (h:Buf w b F m l) {n:Nat} (hn:l.length=n):Calls Tryz.prog 167 #[.pointer (some ⟨b,0,none⟩)] w fun e w'=>e=.returned (.slice (some ⟨w.heap.size,0,none⟩) n n)∧TRow w' (some ⟨w.heap.size,0,none⟩) n l∧Below w.heap.size w w':=by
 have hn32:n≤32:=by have:=h.few;omega
 obtain ⟨cur0,hc0,hmk⟩:=tMake n hn32
 have HB:=Lib.hid h
 obtain ⟨bm,p,c,hs,rfl⟩:=h
 have h1:=hs.cell1
 have h2:=hs.cell2
 rw [hn] at h2
 have hb:=hs.ltB
 have HC:Hid (∀ wr,Below w.heap.size w wr→∀ k,k<n→∃ g,p=some ⟨g,0,none⟩∧g<wr.heap.size∧wr.cell? ⟨g,k,none⟩=some (.int .i64 (l.getD k (0,0)).1)∧wr.cell? ⟨b,1,none⟩=some (.map (some bm))∧b<wr.heap.size∧(Instr.lookup 284 (.map (some bm)) (.int .i64 (l.getD k (0,0)).1) false).run Tryz.prog wr=.ok (.float .f64 (l.getD k (0,0)).2) wr):=fun wr hbw k hk=>by
  have hw:=hs.keep (kept_below hbw hs.blw)
  have hkl:k<l.length:=by omega
  have e:l.getD k (0,0)=l[k]:=by simp [hkl]
  rw [e]
  have ho:=hw.row.own
  rw [i64s_len,cells_len] at ho
  rcases ho.2 with ⟨_,q⟩ | ⟨g,cap,cur,hv,_,hg,_⟩
  ·omega
  ·cases hv
   refine ⟨g,rfl,lt_of_block hg,?_,hw.cell1,hw.ltB,?_⟩
   ·rw [ho.cellAt k (by omega)]
    simp [i64s,cellsOfL,hkl]
   ·have:=hw.map.look1 (c:=l[k].1) (hw.wfs _ (List.getElem_mem hkl))
    rw [getC_of hw.nod hkl] at this
    exact this
 have HN:Hid (l.length=n):=hn
 clear hs hn
 have HC0:=Lib.hid hc0
 clear hc0
 go_enter Tryz.func167,Tryz.ntmps167
 go_wp2
 go_loopw [17] (fun vi wr=>∃ (k:Nat) (cur:Array Value),vi=.int .i64 k∧k≤n∧Hid (wr.heap[w.heap.size]?=some (.cells cur 189 (0,0)))∧Hid (cur.size=n*2)∧Hid (cur.toList.take (k*2)=(l.take k).flatMap tchC)∧Hid (Below w.heap.size w wr)) (fun vi _=>n - (intOf vi).toNat)
 case atStart=>exact ⟨0,cur0,rfl,Nat.zero_le _,heap_alloc_new _ _,HC0,by show _=_;simp,below_alloc _ _⟩
 case round =>
  obtain ⟨k,cur,rfl,hk,HG,HS,HT,HBL⟩:=hrel
  by_cases hlt:k<n
  ·have hlt':(k:Int)<(n:Int):=by omega
   obtain ⟨g,hpg,hg,hx,hbm,hbw,hlk⟩:=HC.out _ HBL.out k hlt
   subst hpg
   obtain ⟨u,v,k0,k1,f0,f1⟩:=row_two HG.out HS.out hlt
   have hgg:w.heap.size<wr.heap.size:=lt_of_block HG.out
   have HF:Hid (((cur.setIfInBounds (k*2) (.int .i64 (l.getD k (0,0)).1)).setIfInBounds (k*2+1) (.float .f64 (l.getD k (0,0)).2)).toList.take ((k+1)*2)=(l.take (k+1)).flatMap tchC):=row_step HS.out HT.out hlt HN.out
   generalize (l.getD k (0,0)).1=x at hx hlk HF
   generalize (l.getD k (0,0)).2=y at hlk HF
   have HG2:Hid (((wr.setCell ⟨w.heap.size,k*2,none⟩ (.int .i64 x)).setCell ⟨w.heap.size,k*2+1,none⟩ (.float .f64 y)).heap[w.heap.size]?=some (.cells ((cur.setIfInBounds (k*2) (.int .i64 x)).setIfInBounds (k*2+1) (.float .f64 y)) 189 (0,0))):=heap_setCell_same _ _ _ _ _ _ (heap_setCell_same _ _ _ _ _ _ HG.out)
   have HB2:Hid (Below w.heap.size w ((wr.setCell ⟨w.heap.size,k*2,none⟩ (.int .i64 x)).setCell ⟨w.heap.size,k*2+1,none⟩ (.float .f64 y))):=HBL.out.trans ⟨rfl,rfl,rfl,by simp,fun j hj=>by rw [heap_setCell_other _ _ _ _ (by simp;omega),heap_setCell_other _ _ _ _ (by simp;omega)]⟩
   clear HC
   go_wp2
   exact ⟨⟨k+1,_,by first | rfl | (congr 1),by omega,HG2,by show _=_;simp;exact HS.out,HF,HB2⟩,by simp [intOf];omega⟩
  ·have hlt':¬ (k:Int)<(n:Int):=by omega
   have e:k=n:=by omega
   subst e
   have hT:=HT.out
   rw [← HN.out,List.take_length,HN.out] at hT
   have HF:Hid (TRow wr (some ⟨w.heap.size,0,none⟩) k l):=⟨⟨by rw [tch_len],.inr ⟨w.heap.size,k,cur,rfl,Nat.zero_le _,HG.out,by rw [HN.out];exact Nat.le_refl _,by unfold maxLen;omega,by rw [HS.out],by rw [HN.out];exact hT⟩⟩⟩
   clear hT HC hlt
   go_wp2
   go_ret
   exact ⟨rfl,HF.out,HBL.out⟩
theorem all_any (h:Buf w b F m l):Calls Tryz.prog 167 #[.pointer (some ⟨b,0,none⟩)] w fun e w'=>e=.returned (.slice (some ⟨w.heap.size,0,none⟩) l.length l.length)∧TRow w' (some ⟨w.heap.size,0,none⟩) l.length l∧Below w.heap.size w w':=all_any' h rfl
end
end Go.Proofs.YtlkldgopliablaaGreatDoor
namespace Go.Proofs.YtlkldgopliablaaGreatDoor
open Go.ChangeShapes Go.WideShapes Go.ChangeAt Go.RowKit Num
def okN (x:Nat):Prop:=fixB x=x∧x<18446744073709551616
theorem fixB_idem (x:Nat):fixB (fixB x)=fixB x:=by
 unfold fixB
 by_cases h:nan x=true
 ·rw [if_pos h,if_pos (by decide)]
 ·rw [if_neg h,if_neg h]
theorem okN_fix {x:Nat} (h:x<18446744073709551616):okN (fixB x):=⟨fixB_idem x,fixB_lt h⟩
theorem okN_zero:okN 0:=⟨by decide,by decide⟩
theorem okN_nan:okN 9221120237041090560:=⟨by decide,by decide⟩
theorem okN_yes (c:Bool):okN (yesB c):=by cases c <;> exact ⟨by decide,by decide⟩
theorem okN_res {o:Option Nat} (h:∀ r,o=some r→r<18446744073709551616):okN (resV o):=by
 cases o with
 | none=>exact okN_nan
 | some r=>exact okN_fix (h r rfl)
theorem wf_lt {b:Nat} (h:(Lit.float .f64 b).wf=true):b<18446744073709551616:=by simpa [Lit.wf] using h
def oneV (op:Int) (x:Nat):Nat:=([0,fixB (fixB x ^^^ 9223372036854775808),fixB (fixB x &&& 9223372036854775807),floorV x,rootV x,yesB (!trueB x),yesB (nan x),signB x,fixB (floatOfInt .f64 (hashI (fixB x)))].getD op.toNat 0)
def twoV (op:Int) (a b:Nat):Nat:=([0,resV (floatBits .add .f64 a b),resV (floatBits .sub .f64 a b),resV (floatBits .mul .f64 a b),resV (floatBits .quo .f64 a b),modV a b,minV a b,maxV a b,yesB (FloatKind.f64.format.order a b == some .lt),yesB (FloatKind.f64.format.order a b == some .lt || FloatKind.f64.format.order a b == some .eq),yesB (FloatKind.f64.format.order a b == some .eq),yesB (fixB a == fixB b),yesB (decide (cmpB a b<0))].getD op.toNat 0)
theorem getD_all {P:Nat→Prop} (d:Nat) (hd:P d):∀ (l:List Nat),(∀ x∈l,P x)→∀ k,P (l.getD k d)
 | [],_,_=>by simpa using hd
 | a::l,h,0=>h a (by simp)
 | a::l,h,k+1=>by
  have:=getD_all d hd l (fun x hx=>h x (by simp [hx])) k
  simpa using this
theorem floatInt_lt (n:Int):floatOfInt .f64 n<18446744073709551616:=wf_lt (floatOfInt_wf .f64 n)
theorem okN_floor (x:Nat):okN (floorV x):=by
 unfold floorV
 split
 ·exact okN_nan
 ·exact okN_fix (wf_lt (encode_wf .f64 _))
theorem okN_one {x:Nat} (op:Int) (h:okN x):okN (oneV op x):=by
 refine getD_all 0 okN_zero _ (fun y hy=>?_) _
 simp only [List.mem_cons,List.not_mem_nil,or_false] at hy
 rcases hy with rfl | rfl | rfl | rfl | rfl | rfl | rfl | rfl | rfl
 ·exact okN_zero
 ·exact okN_fix (Nat.xor_lt_two_pow (n:=64) (fixB_lt h.2) (by decide))
 ·exact okN_fix (Nat.lt_of_le_of_lt Nat.and_le_left (fixB_lt h.2))
 ·exact okN_floor x
 ·exact okN_res fun r hr=>FloatKind.f64.format.sqrt_lt hr
 ·exact okN_yes _
 ·exact okN_yes _
 ·unfold signB
  split
  ·exact okN_nan
  ·split
   ·exact ⟨by decide,by decide⟩
   ·split
    ·exact ⟨by decide,by decide⟩
    ·exact h
 ·exact okN_fix (floatInt_lt _)
theorem okN_two {x y:Nat} (op:Int) (hx:okN x) (hy:okN y):okN (twoV op x y):=by
 refine getD_all 0 okN_zero _ (fun z hz=>?_) _
 simp only [List.mem_cons,List.not_mem_nil,or_false] at hz
 rcases hz with rfl | rfl | rfl | rfl | rfl | rfl | rfl | rfl | rfl | rfl | rfl | rfl | rfl
 ·exact okN_zero
 ·exact okN_res fun r hr=>wf_lt (floatBits_wf hr)
 ·exact okN_res fun r hr=>wf_lt (floatBits_wf hr)
 ·exact okN_res fun r hr=>wf_lt (floatBits_wf hr)
 ·exact okN_res fun r hr=>wf_lt (floatBits_wf hr)
 ·unfold modV
  split
  ·exact okN_fix (floatInt_lt _)
  ·exact okN_nan
 ·unfold minV
  split
  ·exact okN_nan
  ·split
   ·exact hy
   ·exact hx
 ·unfold maxV
  split
  ·exact okN_nan
  ·split
   ·exact hy
   ·exact hx
 ·exact okN_yes _
 ·exact okN_yes _
 ·exact okN_yes _
 ·exact okN_yes _
 ·exact okN_yes _
structure Mac where
 cells:Int
 fuel:Int
 wmax:Int
 upd:Bool
 code:List Ins
 args:Nat→Nat
 loc:Nat→Nat
 st:List Nat
 calls:List Int
 place:Int
 used:Int
 out:List Nat
 reads:Wr
 buf:Wr
 wait:Int
 how:Int
 cod:Int
 err:Int
structure Ask where
 kind:Int
 cell:Int
 x:Nat
 first:Bool
def ask0:Ask:=⟨0,0,0,false⟩
def askEnd:Ask:=⟨4,0,0,false⟩
def askRead (c:Int):Ask:=⟨1,c,0,false⟩
def failM (m:Mac) (e:Int):Mac × Ask:=({ m with how:=3,cod:=0,err:=e },askEnd)
def updF (f:Nat→Nat) (n x:Nat):Nat→Nat:=fun k=>if k=n then x else f k
def takesI (i:Ins):Int:=(shp i.op.toNat).takes
def laysI (i:Ins):Int:=(shp i.op.toNat).lays
def leastI (i:Ins):Int:=if i.op=5 then i.n+1 else takesI i
def roomB (m:Mac) (i:Ins):Bool:=decide (leastI i≤(m.st.length:Int)) && decide ((m.st.length:Int) - takesI i+laysI i≤64) && !(decide (i.op=14) && decide (16≤m.calls.length))
def addrB (m:Mac):Bool:=idxB (m.st.getD 0 0) m.cells
def addrV (m:Mac):Int:=idxV (m.st.getD 0 0) m.cells
def hasRead (m:Mac) (c:Int) (x:Nat):Mac:={ m with reads:=m.reads ++ [(c,x)],st:=x::m.st }
def readM (m:Mac):Mac × Ask :=
 if addrB m then
  if hasC m.buf (addrV m) then (hasRead { m with st:=m.st.drop 1 } (addrV m) (getC m.buf (addrV m)),⟨2,addrV m,getC m.buf (addrV m),false⟩)
  else ({ m with st:=m.st.drop 1,wait:=addrV m },askRead (addrV m))
 else failM m 50
def writeM (m:Mac):Mac × Ask :=
 if m.upd then
  if addrB m then
   if mayP m.wmax m.buf (addrV m) then ({ m with st:=m.st.drop 2,buf:=putC m.buf (addrV m) (m.st.getD 1 0) },⟨3,addrV m,m.st.getD 1 0,!hasC m.buf (addrV m)⟩)
   else failM m 70
  else failM m 50
 else failM m 81
def retM (m:Mac):Mac × Ask:=match m.calls with
 | []=>({ m with how:=1,cod:=0,err:=0 },askEnd)
 | c::r=>({ m with calls:=r,place:=c },ask0)
def doT:List (Mac→Ins→Mac × Ask):=[
 fun m _=>(m,ask0),
 fun m i=>({ m with st:=fixB i.x::m.st },ask0),
 fun m _=>({ m with st:=m.st.drop 1 },ask0),
 fun m _=>({ m with st:=m.st.getD 0 0::m.st },ask0),
 fun m _=>({ m with st:=m.st.getD 1 0::m.st.getD 0 0::m.st.drop 2 },ask0),
 fun m i=>({ m with st:=m.st.getD i.n.toNat 0::m.st },ask0),
 fun m i=>({ m with st:=m.args i.n.toNat::m.st },ask0),
 fun m i=>({ m with st:=m.loc i.n.toNat::m.st },ask0),
 fun m i=>({ m with loc:=updF m.loc i.n.toNat (m.st.getD 0 0),st:=m.st.drop 1 },ask0),
 fun m i=>({ m with st:=oneV i.n (m.st.getD 0 0)::m.st.drop 1 },ask0),
 fun m i=>({ m with st:=twoV i.n (m.st.getD 1 0) (m.st.getD 0 0)::m.st.drop 2 },ask0),
 fun m i=>({ m with place:=i.n },ask0),
 fun m i=>({ m with place:=if trueB (m.st.getD 0 0) then i.n else m.place,st:=m.st.drop 1 },ask0),
 fun m i=>({ m with place:=if trueB (m.st.getD 0 0) then m.place else i.n,st:=m.st.drop 1 },ask0),
 fun m i=>({ m with calls:=m.place::m.calls,place:=i.n },ask0),
 fun m _=>retM m,
 fun m _=>readM m,
 fun m _=>writeM m,
 fun m _=>({ m with out:=m.out ++ [m.st.getD 0 0],st:=m.st.drop 1 },ask0),
 fun m i=>({ m with how:=2,cod:=i.n,err:=0 },askEnd),
 fun m _=>({ m with how:=1,cod:=0,err:=0 },askEnd)]
def doM (m:Mac) (i:Ins):Mac × Ask:=(doT.getD i.op.toNat (fun m _=>(m,ask0))) m i
def begM (m:Mac):Mac:={ m with used:=m.used+1,place:=m.place+1 }
def insM (m:Mac):Ins:=ci m.code m.place.toNat
def stepM (m:Mac):Mac × Ask :=
 if 0≤m.wait then (m,askRead m.wait)
 else if m.how=0 then
  if m.used<m.fuel then
   if m.place<(m.code.length:Int) then
    if roomB (begM m) (insM m) then doM (begM m) (insM m) else failM (begM m) 82
   else failM m 50
  else failM m 80
 else (m,askEnd)
def giveM (m:Mac) (x:Nat):Mac:=if 0≤m.wait then hasRead { m with wait:=-1 } m.wait (fixB x) else m
def giveE (m:Mac):Int:=if 0≤m.wait then 0 else 3
structure Inv (m:Mac):Prop where
 cells:1≤m.cells∧m.cells≤256
 fuel:1≤m.fuel∧m.fuel≤1024
 wmax:1≤m.wmax∧m.wmax≤32
 len:m.code.length≤1024
 may:∀ k,k<m.code.length→mayB (ci m.code k) m.code.length=true∧(ci m.code k).x<18446744073709551616
 args:∀ k,okN (m.args k)
 loc:∀ k,okN (m.loc k)
 st:∀ x∈m.st,okN x
 high:(m.st.length:Int)+(if 0≤m.wait then 1 else 0)≤64
 calls:∀ c∈m.calls,0≤c∧c≤(m.code.length:Int)
 deep:m.calls.length≤16
 place:0≤m.place∧m.place≤(m.code.length:Int)
 used:0≤m.used∧m.used≤m.fuel
 out:(m.out.length:Int)≤m.used
 reads:(m.reads.length:Int)+(if 0≤m.wait then 1 else 0)≤m.used
 buf:∀ t∈m.buf,okN t.2
 few:(m.buf.length:Int)≤m.wmax
 wait:-1≤m.wait∧m.wait<m.cells
 how:0≤m.how∧m.how≤3
 none:m.upd=false→m.buf=[]
 fail:m.how=3 ↔ m.err≠0
 full:m.err=80→m.used=m.fuel
 idle:m.code=[]→m.used=0
end Go.Proofs.YtlkldgopliablaaGreatDoor
namespace Go.Proofs.YtlkldgopliablaaGreatDoor
open Go.ChangeShapes Go.WideShapes Go.ChangeAt Go.RowKit Num
def Apart (L:List (List Nat)):Prop:=∀ i j,i≠j→Sep (L.getD i []) (L.getD j [])
theorem getD_set {L:List (List Nat)} {i:Nat} (hi:i<L.length) (F:List Nat) (j:Nat):(L.set i F).getD j []=if j=i then F else L.getD j []:=by
 rw [List.getD_eq_getElem?_getD,List.getD_eq_getElem?_getD,List.getElem?_set]
 by_cases h:i=j
 ·subst h
  simp [hi]
 ·rw [if_neg h,if_neg (fun q=>h q.symm)]
theorem Apart.turn {L:List (List Nat)} {i:Nat} {F:List Nat} {w w':World} (h:Apart L) (hb:∀ j,Blw w (L.getD j [])) (hi:i<L.length) (k:Turn (L.getD i []) F w w'):Apart (L.set i F):=by
 intro a b hab
 rw [getD_set hi,getD_set hi]
 by_cases h1:a=i
 ·by_cases h2:b=i
  ·exact absurd (h1.trans h2.symm) hab
  ·rw [if_pos h1,if_neg h2]
   exact ((h b i h2).turn (hb b) k).symm
 ·rw [if_neg h1]
  by_cases h2:b=i
  ·rw [if_pos h2]
   exact (h a i h1).turn (hb a) k
  ·rw [if_neg h2]
   exact h a b hab
theorem getD_mem {L:List (List Nat)} {i:Nat} {x:Nat} (h:x∈L.getD i []):x∈L.flatten:=by
 rw [List.getD_eq_getElem?_getD] at h
 cases hl:L[i]? with
 | none=>rw [hl] at h;simp at h
 | some l =>
  rw [hl] at h
  exact List.mem_flatten.2 ⟨l,List.mem_of_getElem? hl,h⟩
theorem Turn.part {L:List (List Nat)} {i:Nat} {F:List Nat} {w w':World} (k:Turn (L.getD i []) F w w'):Turn L.flatten (L.set i F).flatten w w' :=
 ⟨k.os,k.tape,k.output,k.size,fun x hx hn=>k.block x hx (fun q=>hn (getD_mem q)),fun x hx=>by
  obtain ⟨l,hl,hxl⟩:=List.mem_flatten.1 hx
  rcases List.mem_or_eq_of_mem_set hl with q | q
  ·exact .inl (List.mem_flatten.2 ⟨l,q,hxl⟩)
  ·subst q
   exact (k.own x hxl).imp getD_mem id⟩
theorem turn_set (w:World) (b j:Nat) (v:Value):Turn [b] [b] w (w.setCell ⟨b,j,none⟩ v):=⟨rfl,rfl,rfl,by simp,fun k _ hn=>heap_setCell_other _ _ _ _ (by simpa using hn),fun _ h=>.inl h⟩
structure Pt where
 pk:Option Addr
 ck:Nat
 bn:Nat
 bc:Nat
 bw:Nat
 Fn:List Nat
 Fc:List Nat
 Fw:List Nat
 po:Option Addr
 co:Nat
 pr:Option Addr
 cr:Nat
 wt:Int
def Pt.own (p:Pt) (b:Nat):List (List Nat):=[[b],p.Fn,p.Fc,p.Fw,fpR p.po,fpR p.pr]
def Pt.L (p:Pt) (b:Nat):List (List Nat):=[[b],p.Fn,p.Fc,p.Fw,fpR p.po,fpR p.pr,fpR p.pk]
def Pt.F (p:Pt) (b:Nat):List Nat:=(p.own b).flatten
def boxV (m:Mac) (p:Pt):Array Value:=#[.int .i64 m.cells,.int .i64 m.fuel,.bool m.upd,.slice p.pk m.code.length p.ck,
 .float .f64 (m.args 0),.float .f64 (m.args 1),.float .f64 (m.args 2),.float .f64 (m.args 3),.float .f64 (m.args 4),.float .f64 (m.args 5),.float .f64 (m.args 6),.float .f64 (m.args 7),
 .float .f64 (m.loc 0),.float .f64 (m.loc 1),.float .f64 (m.loc 2),.float .f64 (m.loc 3),.float .f64 (m.loc 4),.float .f64 (m.loc 5),.float .f64 (m.loc 6),.float .f64 (m.loc 7),
 .pointer (some ⟨p.bn,0,none⟩),.pointer (some ⟨p.bc,0,none⟩),.int .i64 m.place,.int .i64 m.used,.slice p.po m.out.length p.co,.slice p.pr m.reads.length p.cr,.pointer (some ⟨p.bw,0,none⟩),
 .bool (decide (0≤m.wait)),.int .i64 p.wt,.int .i64 m.how,.int .i64 m.cod,.int .i64 m.err]
abbrev NStk (w:World) (b:Nat) (F:List Nat) (l:List Nat):Prop:=Stk 288 71 w b F (fls l) 64
abbrev CStk (w:World) (b:Nat) (F:List Nat) (l:List Int):Prop:=Stk 290 3 w b F (i64s l) 16
theorem CodeAt.keep {w w':World} {ao:Option Addr} {c:List Ins} (h:CodeAt w ao c) (k:Kept (fpR ao) w w'):CodeAt w' ao c:=fun i hi=>by
 obtain ⟨b,off,e,hlt,c0,c1,c2⟩:=h i hi
 have hb:w'.heap[b]?=w.heap[b]?:=k.2 b (mem_fpR.2 ⟨_,e,rfl⟩)
 exact ⟨b,off,e,Nat.lt_of_lt_of_le hlt k.1,(World.cell?_of_block (a:=⟨b,off+i*3,none⟩) hb).trans c0,(World.cell?_of_block (a:=⟨b,off+i*3+1,none⟩) hb).trans c1,(World.cell?_of_block (a:=⟨b,off+i*3+2,none⟩) hb).trans c2⟩
structure MacAt (w:World) (b:Nat) (m:Mac) (p:Pt):Prop where
 box:w.heap[b]?=some (.cells (boxV m p) 250 (0,0))
 num:NStk w p.bn p.Fn m.st.reverse
 cal:CStk w p.bc p.Fc m.calls.reverse
 wri:Buf w p.bw p.Fw m.wmax m.buf
 out:RowAt 71 w p.po p.co (fls m.out)
 rds:TRow w p.pr p.cr m.reads
 cod:CodeAt w p.pk m.code
 ltk:Blw w (fpR p.pk)
 wt:0≤m.wait→p.wt=m.wait
 apart:Apart (p.L b)
section
variable {w w':World} {b:Nat} {m:Mac} {p:Pt}
theorem MacAt.ltB (h:MacAt w b m p):b<w.heap.size:=lt_of_block h.box
theorem MacAt.blws (h:MacAt w b m p):∀ j,Blw w ((p.L b).getD j []):=fun j=>by
 match j with
 | 0=>exact fun k hk=>by rw [show k=b by simpa [Pt.L] using hk];exact h.ltB
 | 1=>exact h.num.blw
 | 2=>exact h.cal.blw
 | 3=>exact h.wri.blw
 | 4=>exact h.out.blw
 | 5=>exact h.rds.blw
 | 6=>exact h.ltk
 | n+7=>intro k hk;simp [Pt.L] at hk
theorem own_in {x j:Nat} (hj:j<6) (h:x∈(p.L b).getD j []):x∈p.F b:=by
 have e:(p.L b).getD j []=(p.own b).getD j []:=by
  match j,hj with
  | 0,_=>rfl
  | 1,_=>rfl
  | 2,_=>rfl
  | 3,_=>rfl
  | 4,_=>rfl
  | 5,_=>rfl
 rw [e] at h
 exact getD_mem h
theorem in_own {x:Nat} (h:x∈p.F b):∃ j,j<6∧x∈(p.L b).getD j []:=by
 simp only [Pt.F,Pt.own,List.flatten_cons,List.flatten_nil,List.mem_append,List.append_nil] at h
 rcases h with h | h | h | h | h | h
 ·exact ⟨0,by omega,h⟩
 ·exact ⟨1,by omega,h⟩
 ·exact ⟨2,by omega,h⟩
 ·exact ⟨3,by omega,h⟩
 ·exact ⟨4,by omega,h⟩
 ·exact ⟨5,by omega,h⟩
theorem MacAt.blw (h:MacAt w b m p):Blw w (p.F b):=fun k hk=>by
 obtain ⟨j,_,hj⟩:=in_own hk
 exact h.blws j k hj
theorem MacAt.sepK (h:MacAt w b m p):Sep (fpR p.pk) (p.F b):=fun k hk q=>by
 obtain ⟨j,hj,hq⟩:=in_own q
 exact h.apart 6 j (by omega) k hk hq
theorem MacAt.keep (h:MacAt w b m p) (k:Kept (p.F b) w w') (k2:Kept (fpR p.pk) w w'):MacAt w' b m p:=by
 have kk:∀ j,j<6→Kept ((p.L b).getD j []) w w':=fun j hj=>⟨k.1,fun i hi=>k.2 i (own_in hj hi)⟩
 exact ⟨((kk 0 (by omega)).2 b (by simp [Pt.L])).trans h.box,h.num.keep (kk 1 (by omega)),h.cal.keep (kk 2 (by omega)),h.wri.keep (kk 3 (by omega)),h.out.keep (kk 4 (by omega)),h.rds.keep (kk 5 (by omega)),h.cod.keep k2,fun x hx=>Nat.lt_of_lt_of_le (h.ltk x hx) k2.1,h.wt,h.apart⟩
theorem MacAt.same (h:MacAt w b m p) (k:Same w w'):MacAt w' b m p:=h.keep (k.kept _) (k.kept _)
theorem MacAt.on (h:MacAt w b m p) (k:Below w.heap.size w w'):MacAt w' b m p:=h.keep (kept_below k h.blw) (kept_below k h.ltk)
theorem MacAt.others (h:MacAt w b m p) {i:Nat} {F':List Nat} (t:Turn ((p.L b).getD i []) F' w w'):∀ j,j≠i→Kept ((p.L b).getD j []) w w':=fun j hj=>t.kept (h.apart j i hj) (h.blws j)
theorem MacAt.ltk' (h:MacAt w b m p) (k:w.heap.size≤w'.heap.size):Blw w' (fpR p.pk):=fun x hx=>Nat.lt_of_lt_of_le (h.ltk x hx) k
theorem MacAt.putN (h:MacAt w b m p) {s:List Nat} {F':List Nat} (hs:NStk w' p.bn F' s.reverse) (t:Turn p.Fn F' w w'):MacAt w' b { m with st:=s } { p with Fn:=F' }∧Turn (p.F b) ({ p with Fn:=F' }.F b) w w':=by
 have kk:=h.others (i:=1) t
 exact ⟨⟨((kk 0 (by omega)).2 b (by simp [Pt.L])).trans h.box,hs,h.cal.keep (kk 2 (by omega)),h.wri.keep (kk 3 (by omega)),h.out.keep (kk 4 (by omega)),h.rds.keep (kk 5 (by omega)),h.cod.keep (kk 6 (by omega)),h.ltk' t.size,h.wt,h.apart.turn (i:=1) h.blws (by simp [Pt.L]) t⟩,Turn.part (L:=p.own b) (i:=1) t⟩
theorem MacAt.putC (h:MacAt w b m p) {s:List Int} {F':List Nat} (hs:CStk w' p.bc F' s.reverse) (t:Turn p.Fc F' w w'):MacAt w' b { m with calls:=s } { p with Fc:=F' }∧Turn (p.F b) ({ p with Fc:=F' }.F b) w w':=by
 have kk:=h.others (i:=2) t
 exact ⟨⟨((kk 0 (by omega)).2 b (by simp [Pt.L])).trans h.box,h.num.keep (kk 1 (by omega)),hs,h.wri.keep (kk 3 (by omega)),h.out.keep (kk 4 (by omega)),h.rds.keep (kk 5 (by omega)),h.cod.keep (kk 6 (by omega)),h.ltk' t.size,h.wt,h.apart.turn (i:=2) h.blws (by simp [Pt.L]) t⟩,Turn.part (L:=p.own b) (i:=2) t⟩
theorem MacAt.putW (h:MacAt w b m p) {s:Wr} {F':List Nat} (hs:Buf w' p.bw F' m.wmax s) (t:Turn p.Fw F' w w'):MacAt w' b { m with buf:=s } { p with Fw:=F' }∧Turn (p.F b) ({ p with Fw:=F' }.F b) w w':=by
 have kk:=h.others (i:=3) t
 exact ⟨⟨((kk 0 (by omega)).2 b (by simp [Pt.L])).trans h.box,h.num.keep (kk 1 (by omega)),h.cal.keep (kk 2 (by omega)),hs,h.out.keep (kk 4 (by omega)),h.rds.keep (kk 5 (by omega)),h.cod.keep (kk 6 (by omega)),h.ltk' t.size,h.wt,h.apart.turn (i:=3) h.blws (by simp [Pt.L]) t⟩,Turn.part (L:=p.own b) (i:=3) t⟩
theorem MacAt.set (h:MacAt w b m p) (j:Nat) (v:Value) (m':Mac) (z:Int) (e:(boxV m p).setIfInBounds j v=boxV m' { p with wt:=z }) (e1:m'.st=m.st∧m'.calls=m.calls∧m'.wmax=m.wmax∧m'.buf=m.buf∧m'.out=m.out∧m'.reads=m.reads∧m'.code=m.code) (hz:0≤m'.wait→z=m'.wait) :
  MacAt (w.setCell ⟨b,j,none⟩ v) b m' { p with wt:=z }∧Turn (p.F b) ({ p with wt:=z }.F b) w (w.setCell ⟨b,j,none⟩ v):=by
 have t:=turn_set w b j v
 have kk:=h.others (i:=0) t
 obtain ⟨f1,f2,f3,f4,f5,f6,f7⟩:=e1
 refine ⟨⟨?_,by rw [f1];exact h.num.keep (kk 1 (by omega)),by rw [f2];exact h.cal.keep (kk 2 (by omega)),by rw [f3,f4];exact h.wri.keep (kk 3 (by omega)),by rw [f5];exact h.out.keep (kk 4 (by omega)),by rw [f6];exact h.rds.keep (kk 5 (by omega)),by rw [f7];exact h.cod.keep (kk 6 (by omega)),h.ltk' t.size,hz,h.apart⟩,Turn.part (L:=p.own b) (i:=0) t⟩
 rw [← e]
 exact heap_setCell_same w b j _ _ v h.box
theorem MacAt.putO (h:MacAt w b m p) {w3:World} {v:Value} {x:Nat} (hown:w3.ownsRow 0 71 1 v (m.out.length+1) (fls m.out ++ [.float .f64 x])) (hg:w.grownBy w3 (Value.slice p.po m.out.length p.co).ownBlock) (hat:v.ownBlock=(Value.slice p.po m.out.length p.co).ownBlock∨∃ s,v.ownBlock=some s∧w.heap.size≤s) :
  ∃ p' c',v=.slice p' (m.out.length+1) c'∧w3.heap[b]?=some (.cells (boxV m p) 250 (0,0))∧MacAt (w3.setCell ⟨b,24,none⟩ v) b { m with out:=m.out ++ [x] } { p with po:=p',co:=c' }∧Turn (p.F b) ({ p with po:=p',co:=c' }.F b) w (w3.setCell ⟨b,24,none⟩ v):=by
 obtain ⟨p',c',rfl,hr⟩:=ownsRow_slice hown
 have hl:(fls m.out ++ [Value.float .f64 x]).length=m.out.length+1:=by simp [fls_len]
 rw [hl] at hat ⊢
 have ho:∀ k,k∈fpR p'→k∈fpR p.po∨w.heap.size≤k:=by
  rcases hat with q | ⟨s,q,hs⟩
  ·exact own_at (s:=w.heap.size) (.inl q) (Nat.le_refl _)
  ·exact own_at (n:=m.out.length) (c:=p.co) (.inr q) hs
 have t:Turn (fpR p.po) (fpR p') w w3:=⟨hg.os,hg.tape,hg.output,hg.size,fun k hk hn=>hg.block k hk (fun q=>hn (own_fpR.2 q.symm)),ho⟩
 have kk:=h.others (i:=4) t
 have hbox:w3.heap[b]?=_:=((kk 0 (by omega)).2 b (by simp [Pt.L])).trans h.box
 have ap:Apart ({ p with po:=p',co:=c' }.L b):=h.apart.turn (i:=4) h.blws (by simp [Pt.L]) t
 have t2:=turn_set w3 b 24 (.slice p' (m.out.length+1) c')
 have k2:∀ F,Blw w3 F→Sep F [b]→Kept F w3 (w3.setCell ⟨b,24,none⟩ (.slice p' (m.out.length+1) c')):=fun F hb hs=>t2.kept hs hb
 refine ⟨p',c',rfl,hbox,⟨?_,?_,?_,?_,?_,?_,?_,?_,h.wt,ap⟩,(Turn.part (L:=p.own b) (i:=4) t).trans (Turn.part (L:=Pt.own { p with po:=p',co:=c' } b) (i:=0) t2)⟩
 ·refine (heap_setCell_same w3 b 24 _ _ _ hbox).trans ?_
  have:(m.out ++ [x]).length=m.out.length+1:=by simp
  unfold boxV
  rw [this]
  rfl
 ·exact (h.num.keep (kk 1 (by omega))).keep (k2 _ (h.num.keep (kk 1 (by omega))).blw (ap 1 0 (by omega)))
 ·exact (h.cal.keep (kk 2 (by omega))).keep (k2 _ (h.cal.keep (kk 2 (by omega))).blw (ap 2 0 (by omega)))
 ·exact (h.wri.keep (kk 3 (by omega))).keep (k2 _ (h.wri.keep (kk 3 (by omega))).blw (ap 3 0 (by omega)))
 ·rw [fls_snoc]
  exact hr.keep (k2 _ hr.blw (ap 4 0 (by omega)))
 ·exact (h.rds.keep (kk 5 (by omega))).keep (k2 _ (h.rds.keep (kk 5 (by omega))).blw (ap 5 0 (by omega)))
 ·exact (h.cod.keep (kk 6 (by omega))).keep (k2 _ (h.ltk' t.size) (ap 6 0 (by omega)))
 ·exact h.ltk' (Nat.le_trans t.size t2.size)
theorem MacAt.putR (h:MacAt w b m p) {w3:World} {v:Value} {d:Int} {x:Nat} (hown:w3.ownsRow 0 189 2 v (m.reads.length+1) (m.reads.flatMap tchC ++ [.int .i64 d,.float .f64 x])) (hg:w.grownBy w3 (Value.slice p.pr m.reads.length p.cr).ownBlock) (hat:v.ownBlock=(Value.slice p.pr m.reads.length p.cr).ownBlock∨∃ s,v.ownBlock=some s∧w.heap.size≤s) :
  ∃ p' c',v=.slice p' (m.reads.length+1) c'∧w3.heap[b]?=some (.cells (boxV m p) 250 (0,0))∧MacAt (w3.setCell ⟨b,25,none⟩ v) b { m with reads:=m.reads ++ [(d,x)] } { p with pr:=p',cr:=c' }∧Turn (p.F b) ({ p with pr:=p',cr:=c' }.F b) w (w3.setCell ⟨b,25,none⟩ v):=by
 obtain ⟨p',c',rfl,_⟩:=owns_slice2 hown
 have hl:(m.reads ++ [(d,x)]).length=m.reads.length+1:=by simp
 have hr:TRow w3 p' c' (m.reads ++ [(d,x)]):=⟨by rw [hl,List.flatMap_append];simpa [tchC] using hown⟩
 have ho:∀ k,k∈fpR p'→k∈fpR p.pr∨w.heap.size≤k:=by
  rcases hat with q | ⟨s,q,hs⟩
  ·exact own_at (s:=w.heap.size) (.inl q) (Nat.le_refl _)
  ·exact own_at (n:=m.reads.length) (c:=p.cr) (.inr q) hs
 have t:Turn (fpR p.pr) (fpR p') w w3:=⟨hg.os,hg.tape,hg.output,hg.size,fun k hk hn=>hg.block k hk (fun q=>hn (own_fpR.2 q.symm)),ho⟩
 have kk:=h.others (i:=5) t
 have hbox:w3.heap[b]?=_:=((kk 0 (by omega)).2 b (by simp [Pt.L])).trans h.box
 have ap:Apart ({ p with pr:=p',cr:=c' }.L b):=h.apart.turn (i:=5) h.blws (by simp [Pt.L]) t
 have t2:=turn_set w3 b 25 (.slice p' (m.reads.length+1) c')
 have k2:∀ F,Blw w3 F→Sep F [b]→Kept F w3 (w3.setCell ⟨b,25,none⟩ (.slice p' (m.reads.length+1) c')):=fun F hb hs=>t2.kept hs hb
 refine ⟨p',c',rfl,hbox,⟨?_,?_,?_,?_,?_,?_,?_,?_,h.wt,ap⟩,(Turn.part (L:=p.own b) (i:=5) t).trans (Turn.part (L:=Pt.own { p with pr:=p',cr:=c' } b) (i:=0) t2)⟩
 ·refine (heap_setCell_same w3 b 25 _ _ _ hbox).trans ?_
  unfold boxV
  rw [hl]
  rfl
 ·exact (h.num.keep (kk 1 (by omega))).keep (k2 _ (h.num.keep (kk 1 (by omega))).blw (ap 1 0 (by omega)))
 ·exact (h.cal.keep (kk 2 (by omega))).keep (k2 _ (h.cal.keep (kk 2 (by omega))).blw (ap 2 0 (by omega)))
 ·exact (h.wri.keep (kk 3 (by omega))).keep (k2 _ (h.wri.keep (kk 3 (by omega))).blw (ap 3 0 (by omega)))
 ·exact (h.out.keep (kk 4 (by omega))).keep (k2 _ (h.out.keep (kk 4 (by omega))).blw (ap 4 0 (by omega)))
 ·exact hr.keep (k2 _ hr.blw (ap 5 0 (by omega)))
 ·exact (h.cod.keep (kk 6 (by omega))).keep (k2 _ (h.ltk' t.size) (ap 6 0 (by omega)))
 ·exact h.ltk' (Nat.le_trans t.size t2.size)
end
def Mc (w:World) (b:Nat) (F K:List Nat) (m:Mac):Prop:=∃ p,MacAt w b m p∧F=p.F b∧K=fpR p.pk
def Gm (W:World) (F0:List Nat) (b:Nat) (K:List Nat) (w:World) (m:Mac):Prop:=∃ p,MacAt w b m p∧Turn F0 (p.F b) W w∧K=fpR p.pk
section
variable {W w w':World} {b:Nat} {F F0 K:List Nat} {m:Mac}
theorem Mc.gm (h:Mc w b F K m):Gm w F b K w m:=by
 obtain ⟨p,h1,rfl,h3⟩:=h
 exact ⟨p,h1,Turn.refl _ _,h3⟩
theorem Gm.mc (h:Gm W F0 b K w m):∃ F',Mc w b F' K m∧Turn F0 F' W w:=by
 obtain ⟨p,h1,h2,h3⟩:=h
 exact ⟨_,⟨p,h1,rfl,h3⟩,h2⟩
theorem Gm.trans {w0:World} {F1:List Nat} (h:Gm w0 F1 b K w m) (t:Turn F0 F1 W w0):Gm W F0 b K w m:=by
 obtain ⟨p,h1,h2,h3⟩:=h
 exact ⟨p,h1,t.trans h2,h3⟩
theorem Gm.same (h:Gm W F0 b K w m) (k:Same w w'):Gm W F0 b K w' m:=by
 obtain ⟨p,h1,h2,h3⟩:=h
 exact ⟨p,h1.same k,h2.trans (k.turn _),h3⟩
theorem Gm.on (h:Gm W F0 b K w m) (k:Below w.heap.size w w'):Gm W F0 b K w' m:=by
 obtain ⟨p,h1,h2,h3⟩:=h
 exact ⟨p,h1.on k,h2.trans (Below.turn k _),h3⟩
theorem Gm.alloc (h:Gm W F0 b K w m) (x:Obj):Gm W F0 b K (w.alloc x) m:=h.on (below_alloc _ x)
theorem Gm.set (h:Gm W F0 b K w m) (j:Nat) (v:Value) (m':Mac) (e:∀ p,(0≤m.wait→p.wt=m.wait)→∃ z,(boxV m p).setIfInBounds j v=boxV m' { p with wt:=z }∧(0≤m'.wait→z=m'.wait)) (e1:m'.st=m.st∧m'.calls=m.calls∧m'.wmax=m.wmax∧m'.buf=m.buf∧m'.out=m.out∧m'.reads=m.reads∧m'.code=m.code):Gm W F0 b K (w.setCell ⟨b,j,none⟩ v) m':=by
 obtain ⟨p,h1,h2,h3⟩:=h
 obtain ⟨z,hz,hz2⟩:=e p h1.wt
 obtain ⟨q1,q2⟩:=h1.set j v m' z hz e1 hz2
 exact ⟨{ p with wt:=z },q1,h2.trans q2,h3⟩
theorem Mc.blw (h:Mc w b F K m):Blw w F:=by obtain ⟨p,h1,rfl,rfl⟩:=h;exact h1.blw
theorem Mc.blwK (h:Mc w b F K m):Blw w K:=by obtain ⟨p,h1,rfl,rfl⟩:=h;exact h1.ltk
theorem Mc.sepK (h:Mc w b F K m):Sep K F:=by obtain ⟨p,h1,rfl,rfl⟩:=h;exact h1.sepK
theorem Mc.keep (h:Mc w b F K m) (k:Kept F w w') (k2:Kept K w w'):Mc w' b F K m:=by obtain ⟨p,h1,rfl,rfl⟩:=h;exact ⟨p,h1.keep k k2,rfl,rfl⟩
theorem Mc.on (h:Mc w b F K m) (k:Below w.heap.size w w'):Mc w' b F K m:=h.keep (kept_below k h.blw) (kept_below k h.blwK)
theorem Gm.ltB (h:Gm W F0 b K w m):b<w.heap.size:=by obtain ⟨p,h1,_⟩:=h;exact h1.ltB
theorem Gm.free (h:Gm W F0 b K w m) (j:Nat):w.frozen? ⟨b,j,none⟩=false:=by obtain ⟨p,h1,_⟩:=h;exact frozen_of_row w b j _ _ h1.box
end
theorem MacAt.cell {w:World} {b:Nat} {m:Mac} {p:Pt} (h:MacAt w b m p) (j:Nat):w.cell? ⟨b,j,none⟩=(boxV m p)[j]?:=cell_of_row w b j _ _ _ h.box
theorem MacAt.free {w:World} {b:Nat} {m:Mac} {p:Pt} (h:MacAt w b m p) (j:Nat):w.frozen? ⟨b,j,none⟩=false:=frozen_of_row w b j _ _ h.box
end Go.Proofs.YtlkldgopliablaaGreatDoor
namespace Go.Proofs.YtlkldgopliablaaGreatDoor
open Go.ChangeShapes Go.WideShapes Go.ChangeAt Go.RowKit Num
attribute [local go_sem] run_store_float
abbrev gaveM (e:Int):Ending:=.panicked [{ v:=.iface 37 (.int .i64 e),recovered:=false }]
theorem mustBe_no {c:Bool} (hc:c=false) (e:Int) (w:World):Calls Tryz.prog 239 #[.bool c,.int .i64 e] w fun r w'=>r=gaveM e∧w'=w:=by
 subst hc
 go_enter Tryz.func239,Tryz.ntmps239
 go_wp2
 exact ⟨rfl,rfl,rfl⟩
theorem mustBe_yes {c:Bool} (hc:c=true) (e:Int) (w:World):Calls Tryz.prog 239 #[.bool c,.int .i64 e] w fun r w'=>r=.returned (.tuple #[])∧w'=w:=by
 subst hc
 go_enter Tryz.func239,Tryz.ntmps239
 go_wp2
 go_end0
 exact ⟨rfl,rfl⟩
theorem heap_new {w:World} {o:Obj} {g:Nat} (h:g=w.heap.size):(w.alloc o).heap[g]?=some o:=by rw [h];exact heap_alloc_new _ _
theorem rev_at (l:List Nat) (k:Nat) (h:k<l.length):l.reverse[l.length - 1 - k]?=some (l.getD k 0):=by
 rw [List.getElem?_reverse (by omega),show l.length - 1 - (l.length - 1 - k)=k by omega,List.getD_eq_getElem?_getD,List.getElem?_eq_getElem h]
 rfl
section
variable {W w:World} {b:Nat} {F0 K:List Nat} {m:Mac}
theorem take_any (h:Gm W F0 b K w m) {x:Nat} {s:List Nat} (hs:m.st=x::s):Calls Tryz.prog 251 #[.pointer (some ⟨b,0,none⟩)] w fun e w'=>e=.returned (.float .f64 x)∧Gm W F0 b K w' { m with st:=s }:=by
 obtain ⟨p,hm,ht,hk⟩:=h
 have h20:w.cell? ⟨b,20,none⟩=some (.pointer (some ⟨p.bn,0,none⟩)):=(hm.cell 20).trans rfl
 have hb:=hm.ltB
 have HP:=Lib.hid (fPop_some (m:=s.reverse) (x:=x) (by have:=hm.num;rw [hs,List.reverse_cons] at this;exact this))
 have HD:Hid (∀ F' w',NStk w' p.bn F' s.reverse→Turn p.Fn F' w w'→Gm W F0 b K w' { m with st:=s }):=fun F' w' q1 q2=>by
  obtain ⟨a1,a2⟩:=hm.putN q1 q2
  exact ⟨_,a1,ht.trans a2,hk⟩
 clear hm ht hk
 go_enter Tryz.func251,Tryz.ntmps251
 go_wp2_with (go_at_call 271;refine HP.out.mono ?_;rintro e w1 ⟨F',rfl,q1,q2⟩;have HQ:=Lib.hid (HD.out _ _ q1 q2);clear q1 q2 HD HP)
 go_ret
 exact ⟨rfl,HQ.out⟩
theorem lay_any (h:Gm W F0 b K w m) (x:Nat) (hs:m.st.length<64):Calls Tryz.prog 240 #[.pointer (some ⟨b,0,none⟩),.float .f64 x] w fun e w'=>e=.returned (.tuple #[])∧Gm W F0 b K w' { m with st:=x::m.st }:=by
 obtain ⟨p,hm,ht,hk⟩:=h
 have h20:w.cell? ⟨b,20,none⟩=some (.pointer (some ⟨p.bn,0,none⟩)):=(hm.cell 20).trans rfl
 have hb:=hm.ltB
 have hlt:((m.st.reverse.length:Nat):Int)<64:=by rw [List.length_reverse];omega
 have HP:=Lib.hid (fPush_any hm.num x)
 rw [show pushL m.st.reverse 64 x=(x::m.st).reverse by simp [pushL];omega] at HP
 have HD:Hid (∀ F' w',NStk w' p.bn F' (x::m.st).reverse→Turn p.Fn F' w w'→Gm W F0 b K w' { m with st:=x::m.st }):=fun F' w' q1 q2=>by
  obtain ⟨a1,a2⟩:=hm.putN q1 q2
  exact ⟨_,a1,ht.trans a2,hk⟩
 clear hm ht hk hlt
 go_enter Tryz.func240,Tryz.ntmps240
 go_wp2_with (go_at_call 260;refine HP.out.mono ?_;rintro e w1 ⟨F',rfl,q1,q2⟩;have HQ:=Lib.hid (HD.out _ _ q1 q2);clear q1 q2 HD HP)
 go_end0
 exact ⟨rfl,HQ.out⟩
theorem pick_any (h:Gm W F0 b K w m) (k:Nat) (hs:k<m.st.length):Calls Tryz.prog 253 #[.pointer (some ⟨b,0,none⟩),.int .i64 k] w fun e w'=>e=.returned (.float .f64 (m.st.getD k 0))∧∃ q,w'=w.drewN q:=by
 obtain ⟨p,hm,ht,hk⟩:=h
 have h20:w.cell? ⟨b,20,none⟩=some (.pointer (some ⟨p.bn,0,none⟩)):=(hm.cell 20).trans rfl
 have hb:=hm.ltB
 have HP:=Lib.hid (fPick_drew hm.num k (m.st.length - 1 - k) (by rw [List.length_reverse];omega) _ (rev_at m.st k hs))
 clear hm ht hk hs
 go_enter Tryz.func253,Tryz.ntmps253
 go_wp2_with (go_at_call 272;refine HP.out.mono ?_;rintro e w1 ⟨rfl,q,hq⟩;subst w1;clear HP)
 go_ret
 exact ⟨rfl,q,rfl⟩
def askV (a:Ask):Value:=.agg #[.int .i64 a.kind,.int .i64 a.cell,.float .f64 a.x,.bool a.first]
theorem ask_back {fn:Func} {p:Tmp} (h:fn.results=#[.cell p 165]) {R:Ending→World→Prop} {a:Act} {w:World} (g:Nat) (k:Ask) (hp:a.tmps.getD p undef=.pointer (some ⟨g,0,none⟩))
  (hg:w.heap[g]?=some (.cells #[.int .i64 k.kind,.int .i64 k.cell,.float .f64 k.x,.bool k.first] 165 (0,0))) (hd:a.defers=[]) (hR:R (.returned (askV k)) w):bodyPost Tryz.prog fn R .ret a w :=
 bodyPost_ret (results_cell_row h _ _ g _ _ _ _ hp hg Tryz.underlying165 rfl (by kernel_rfl)) hd hR
theorem wants_any (h:Gm W F0 b K w m) (hw:0≤m.wait):Calls Tryz.prog 221 #[.pointer (some ⟨b,0,none⟩)] w fun e w'=>e=.returned (askV (askRead m.wait))∧Below w.heap.size w w':=by
 obtain ⟨p,hm,ht,hk⟩:=h
 have h28:w.cell? ⟨b,28,none⟩=some (.int .i64 m.wait):=by rw [← hm.wt hw];exact (hm.cell 28).trans rfl
 have hb:=hm.ltB
 have HB:=Lib.hid (fun x=>below_alloc w x)
 clear hm ht hk hw
 go_enter Tryz.func221,Tryz.ntmps221
 go_wp2
 refine ask_back rfl w.heap.size (askRead m.wait) rfl (heap_alloc_new _ _) rfl ⟨rfl,HB.out _⟩
theorem ends_any (h:Gm W F0 b K w m) (o c e:Int):Calls Tryz.prog 223 #[.pointer (some ⟨b,0,none⟩),.agg #[.int .i64 o,.int .i64 c,.int .i64 e]] w fun r w'=>r=.returned (askV askEnd)∧Gm W F0 b K w' { m with how:=o,cod:=c,err:=e }:=by
 have hb:=h.ltB
 obtain ⟨p,hm,_,_⟩:=id h
 have h29:w.cell? ⟨b,29,none⟩=some (.int .i64 m.how):=(hm.cell 29).trans rfl
 have h30:w.cell? ⟨b,30,none⟩=some (.int .i64 m.cod):=(hm.cell 30).trans rfl
 have h31:w.cell? ⟨b,31,none⟩=some (.int .i64 m.err):=(hm.cell 31).trans rfl
 have f29:=hm.free 29
 have f30:=hm.free 30
 have f31:=hm.free 31
 clear hm
 have HD:Hid (Gm W F0 b K (((w.setCell ⟨b,29,none⟩ (.int .i64 o)).setCell ⟨b,30,none⟩ (.int .i64 c)).setCell ⟨b,31,none⟩ (.int .i64 e)) { m with how:=o,cod:=c,err:=e }):=by
  have g1:=h.set 29 (.int .i64 o) { m with how:=o } (fun p hp=>⟨p.wt,rfl,hp⟩) ⟨rfl,rfl,rfl,rfl,rfl,rfl,rfl⟩
  have g2:=g1.set 30 (.int .i64 c) { m with how:=o,cod:=c } (fun p hp=>⟨p.wt,rfl,hp⟩) ⟨rfl,rfl,rfl,rfl,rfl,rfl,rfl⟩
  exact g2.set 31 (.int .i64 e) { m with how:=o,cod:=c,err:=e } (fun p hp=>⟨p.wt,rfl,hp⟩) ⟨rfl,rfl,rfl,rfl,rfl,rfl,rfl⟩
 clear h
 go_enter Tryz.func223,Tryz.ntmps223
 go_wp2
 exact ask_back rfl (w.heap.size+1) askEnd rfl (heap_new (by simp)) rfl ⟨rfl,(HD.out.alloc _).alloc _⟩
end
theorem Gm.far {W w:World} {b:Nat} {F0 K:List Nat} {m:Mac} (h:Gm W F0 b K w m) {g:Nat} (hg:g<W.heap.size) (hn:g∉F0):w.heap[g]?=W.heap[g]?:=by
 obtain ⟨p,_,h2,_⟩:=h
 exact h2.block g hg hn
section
variable {W w:World} {b:Nat} {F0 K:List Nat} {m:Mac}
theorem writes_any (h:Gm W F0 b K w m):Calls Tryz.prog 139 #[.pointer (some ⟨b,0,none⟩)] w fun e w'=>e=.returned (.slice (some ⟨w.heap.size,0,none⟩) m.buf.length m.buf.length)∧TRow w' (some ⟨w.heap.size,0,none⟩) m.buf.length m.buf∧Below w.heap.size w w':=by
 obtain ⟨p,hm,ht,hk⟩:=h
 have h20:w.cell? ⟨b,26,none⟩=some (.pointer (some ⟨p.bw,0,none⟩)):=(hm.cell 26).trans rfl
 have hb:=hm.ltB
 have HP:=Lib.hid (all_any hm.wri)
 clear hm ht hk
 go_enter Tryz.func139,Tryz.ntmps139
 go_wp2_with (go_at_call 167;refine HP.out.mono ?_;rintro e w1 ⟨rfl,q1,q2⟩;have HQ:=Lib.hid (And.intro q1 q2);clear q1 q2 HP)
 go_ret
 exact ⟨rfl,HQ.out.1,HQ.out.2⟩
def endV (m:Mac):Value:=.agg #[.int .i64 m.how,.int .i64 m.cod,.int .i64 m.err]
theorem end_any (h:Gm W F0 b K w m):Calls Tryz.prog 142 #[.pointer (some ⟨b,0,none⟩)] w fun e w'=>e=.returned (endV m)∧Below w.heap.size w w':=by
 obtain ⟨p,hm,ht,hk⟩:=h
 have h29:w.cell? ⟨b,29,none⟩=some (.int .i64 m.how):=(hm.cell 29).trans rfl
 have h30:w.cell? ⟨b,30,none⟩=some (.int .i64 m.cod):=(hm.cell 30).trans rfl
 have h31:w.cell? ⟨b,31,none⟩=some (.int .i64 m.err):=(hm.cell 31).trans rfl
 have hb:=hm.ltB
 have HB:=Lib.hid (fun x=>below_alloc w x)
 clear hm ht hk
 go_enter Tryz.func142,Tryz.ntmps142
 go_wp2
 exact bodyPost_ret (results_cell_row rfl _ _ w.heap.size _ _ _ _ rfl (heap_alloc_new _ _) Tryz.underlying63 rfl (by kernel_rfl)) rfl ⟨rfl,HB.out _⟩
end
end Go.Proofs.YtlkldgopliablaaGreatDoor
namespace Go.Proofs.YtlkldgopliablaaGreatDoor
open Go.ChangeShapes Go.WideShapes Go.ChangeAt Go.RowKit Num
attribute [local go_sem] run_store_float
theorem two_cells (u v:Value) (hu:u.oneCell'=true) (hv:v.oneCell'=true):∀ x∈[u,v],x.oneCell'=true:=by
 intro x hx
 simp at hx
 rcases hx with rfl | rfl
 ·exact hu
 ·exact hv
theorem follows:Tryz.prog.follows .mixedOrders=true:=by kernel_rfl
theorem region_tail {id:Nat} {Q:Exit→Act→World→Prop} {a:Act} {w:World} {l:List Oper} (n:Nat) (hB:Region.lexTailB .any l.toArray n=true)
  (h:wpStill Tryz.prog l.toArray w.drew (fun a'=>wpList Tryz.prog l.toArray Q (l.drop n) a' w.drew) (l.take n) a):(Code.region id l.toArray true).wp Tryz.prog Q a w:=wp_region_still_tail n follows hB h
section
variable {W w:World} {b:Nat} {F0 K:List Nat} {m:Mac}
theorem hasRead_any (h:Gm W F0 b K w m) (d:Int) (x:Nat) (hs:m.st.length<64) (hr:m.reads.length≤1024):Calls Tryz.prog 226 #[.pointer (some ⟨b,0,none⟩),.int .i64 d,.float .f64 x] w fun e w'=>e=.returned (.tuple #[])∧Gm W F0 b K w' (hasRead m d x):=by
 obtain ⟨p,hm,ht,hk⟩:=h
 have h20:w.cell? ⟨b,25,none⟩=some (.slice p.pr m.reads.length p.cr):=(hm.cell 25).trans rfl
 have hb:=hm.ltB
 obtain ⟨i0,hi,hz0,hz1,hz2⟩:=info_parts tInfo
 have HZI:=Lib.hid (And.intro hi (And.intro hz0 (And.intro hz1 hz2)))
 have HO:Hid (∀ u:World,u.heap=w.heap→u.ownsRow 0 189 2 (.slice p.pr m.reads.length p.cr) m.reads.length (m.reads.flatMap tchC)):=fun u e=>owns_heap hm.rds.own e
 have HD:Hid (∀ w3 v o,w3.ownsRow 0 189 2 v (m.reads.length+1) (m.reads.flatMap tchC ++ [.int .i64 d,.float .f64 x])→(w.alloc o).grownBy w3 (Value.slice p.pr m.reads.length p.cr).ownBlock→(v.ownBlock=(Value.slice p.pr m.reads.length p.cr).ownBlock∨v.ownBlock=some (w.alloc o).heap.size) →
   ∃ p' c',v=.slice p' (m.reads.length+1) c'∧w3.cell? ⟨b,25,none⟩=some (.slice p.pr m.reads.length p.cr)∧w3.frozen? ⟨b,25,none⟩=false∧b<w3.heap.size∧Gm W F0 b K (w3.setCell ⟨b,25,none⟩ v) { m with reads:=m.reads ++ [(d,x)] }):=fun w3 v o q1 q2 q3=>by
  obtain ⟨p',c',e1,e2,e3,e4⟩:=hm.putR q1 ((World.grownBy_alloc w o _).trans q2) (q3.imp id (fun z=>⟨_,z,by simp⟩))
  exact ⟨p',c',e1,(cell_of_row w3 b 25 _ _ _ e2).trans rfl,frozen_of_row w3 b 25 _ _ e2,lt_of_block e2,_,e3,ht.trans e4,hk⟩
 have HS:=Lib.hid (And.intro hs hr)
 clear hm ht hk hi hz0 hz1 hz2 hs hr
 go_enter Tryz.func226,Tryz.ntmps226
 go_wp2_with (first
  | (go_at_call 240;refine (lay_any HG.out x HS.out.1).mono ?_;rintro e w1 ⟨rfl,q1⟩;have HQ:=Lib.hid q1;clear q1 HG)
  | (at_builtin;refine wpList_append_own_at _ rfl _ _ 61 rfl 0 189 i0 _ 2 16 Tryz.underlying61 HZI.out.1 HZI.out.2.1 HZI.out.2.2.1 HZI.out.2.2.2 rfl (by decide) _ m.reads.length (m.reads.flatMap tchC) rfl (World.ownsRow.alloc (HO.out _ rfl) _) ⟨w.heap.size,0,none⟩ 1 1 [.int .i64 d,.float .f64 x] rfl rfl (World.news_of_block (cs:=#[.int .i64 d,.float .f64 x]) (t:=189) (fr:=(0,0)) (heap_alloc_new _ _)) (two_cells _ _ rfl rfl) (by have:=HS.out;unfold maxLen;omega) (by have:=HS.out;omega) (Nat.zero_le _) ?_;intro v w3 hown hgrow hnil hloc;obtain ⟨p',c',hv,k0,kf,kb,hg⟩:=HD.out _ _ _ hown hgrow hloc;subst hv;have HG:=Lib.hid hg;clear hown hgrow hnil hloc hg HD))
 go_end0
 exact ⟨rfl,HQ.out⟩
theorem begin_fuel (h:Gm W F0 b K w m) (hf:¬ m.used<m.fuel):Calls Tryz.prog 225 #[.pointer (some ⟨b,0,none⟩)] w fun r w'=>r=gaveM 80∧Below w.heap.size w w':=by
 obtain ⟨p,hm,ht,hk⟩:=h
 have h1:w.cell? ⟨b,23,none⟩=some (.int .i64 m.used):=(hm.cell 23).trans rfl
 have h2:w.cell? ⟨b,1,none⟩=some (.int .i64 m.fuel):=(hm.cell 1).trans rfl
 have hb:=hm.ltB
 have HB:=Lib.hid (fun x=>below_alloc w x)
 clear hm ht hk
 go_enter Tryz.func225,Tryz.ntmps225
 go_wp2
 refine region_tail 9 (by kernel_rfl) ?_
 simp only [List.take_succ_cons,List.take_zero,List.drop_succ_cons,List.drop_zero]
 repeat still_step
 refine wpStill_nil ?_
 go_wp2_with (go_at_call 239;refine (mustBe_no (by simpa using hf) 80 _).mono ?_;rintro e w1 ⟨rfl,hw⟩;subst w1)
 exact ⟨rfl,rfl,(HB.out _).trans ((Same.drew _).below _)⟩
theorem begin_far (h:Gm W F0 b K w m) (hf:m.used<m.fuel) (hp:¬ m.place<(m.code.length:Int)):Calls Tryz.prog 225 #[.pointer (some ⟨b,0,none⟩)] w fun r w'=>r=gaveM 50∧Below w.heap.size w w':=by
 obtain ⟨p,hm,ht,hk⟩:=h
 have h1:w.cell? ⟨b,23,none⟩=some (.int .i64 m.used):=(hm.cell 23).trans rfl
 have h2:w.cell? ⟨b,1,none⟩=some (.int .i64 m.fuel):=(hm.cell 1).trans rfl
 have h3:w.cell? ⟨b,22,none⟩=some (.int .i64 m.place):=(hm.cell 22).trans rfl
 have h4:w.cell? ⟨b,3,none⟩=some (.slice p.pk m.code.length p.ck):=(hm.cell 3).trans rfl
 have hb:=hm.ltB
 have HB:Hid (∀ x n,Below w.heap.size w ((w.alloc x).drewN n)):=fun x n=>(below_alloc w x).trans ((Same.drewN _ n).below _)
 clear hm ht hk
 go_enter Tryz.func225,Tryz.ntmps225
 go_wp2
 refine region_tail 9 (by kernel_rfl) ?_
 simp only [List.take_succ_cons,List.take_zero,List.drop_succ_cons,List.drop_zero]
 repeat still_step
 refine wpStill_nil ?_
 go_wp2_with (go_at_call 239;refine (mustBe_yes (by first | rfl | exact decide_eq_true hf) 80 _).mono ?_;rintro e w1 ⟨rfl,hw⟩;subst w1)
 refine region_tail 10 (by kernel_rfl) ?_
 simp only [List.take_succ_cons,List.take_zero,List.drop_succ_cons,List.drop_zero]
 repeat still_step
 refine wpStill_nil ?_
 go_wp2_with (go_at_call 239;refine (mustBe_no (by simpa using hp) 50 _).mono ?_;rintro e w1 ⟨rfl,hw⟩;subst w1)
 exact ⟨rfl,rfl,HB.out _ 2⟩
theorem begin_ok (h:Gm W F0 b K w m) (hf:m.used<m.fuel) {k:Nat} (hk0:m.place=(k:Int)) (hp:k<m.code.length) (hb1:m.used+1≤9223372036854775807∧-9223372036854775808≤m.used) (hb2:k+1≤9223372036854775807):Calls Tryz.prog 225 #[.pointer (some ⟨b,0,none⟩)] w fun r w'=>r=.returned (insV (ci m.code k))∧Gm W F0 b K w' (begM m):=by
 have HG:=Lib.hid h
 obtain ⟨p,hm,ht,hk⟩:=h
 have h1:w.cell? ⟨b,23,none⟩=some (.int .i64 m.used):=(hm.cell 23).trans rfl
 have h2:w.cell? ⟨b,1,none⟩=some (.int .i64 m.fuel):=(hm.cell 1).trans rfl
 have h3:w.cell? ⟨b,22,none⟩=some (.int .i64 (k:Int)):=by rw [← hk0];exact (hm.cell 22).trans rfl
 have h4:w.cell? ⟨b,3,none⟩=some (.slice p.pk m.code.length p.ck):=(hm.cell 3).trans rfl
 obtain ⟨g,off,hpk,hlt,c0,c1,c2⟩:=hm.cod k hp
 rw [hpk] at h4
 have hb:=hm.ltB
 have f1:=hm.free 23
 have f2:=hm.free 22
 have HD:Hid (Gm W F0 b K ((w.setCell ⟨b,23,none⟩ (.int .i64 (m.used+1))).setCell ⟨b,22,none⟩ (.int .i64 ((k:Int)+1))) (begM m)):=by
  have g1:=HG.out.set 23 (.int .i64 (m.used+1)) { m with used:=m.used+1 } (fun p hp=>⟨p.wt,rfl,hp⟩) ⟨rfl,rfl,rfl,rfl,rfl,rfl,rfl⟩
  rw [← hk0]
  exact g1.set 22 (.int .i64 (m.place+1)) (begM m) (fun p hp=>⟨p.wt,rfl,hp⟩) ⟨rfl,rfl,rfl,rfl,rfl,rfl,rfl⟩
 have hp1:(k:Int)<(m.code.length:Int):=by omega
 have HP:=Lib.hid hp1
 clear hm ht hk hpk HG hk0
 unfold insV
 generalize (ci m.code k).op=o at *
 generalize (ci m.code k).n=n at *
 generalize (ci m.code k).x=x at *
 go_enter Tryz.func225,Tryz.ntmps225
 go_wp2
 refine region_tail 9 (by kernel_rfl) ?_
 simp only [List.take_succ_cons,List.take_zero,List.drop_succ_cons,List.drop_zero]
 repeat still_step
 refine wpStill_nil ?_
 go_wp2_with (go_at_call 239;refine (mustBe_yes (by first | rfl | exact decide_eq_true hf) 80 _).mono ?_;rintro e w1 ⟨rfl,hw⟩;subst w1)
 refine region_tail 10 (by kernel_rfl) ?_
 simp only [List.take_succ_cons,List.take_zero,List.drop_succ_cons,List.drop_zero]
 repeat still_step
 refine wpStill_nil ?_
 go_wp2_with (go_at_call 239;refine (mustBe_yes (by first | rfl | exact decide_eq_true hp1) 50 _).mono ?_;rintro e w1 ⟨rfl,hw⟩;subst w1)
 go_region
 all_goals (try go_wp2)
 all_goals exact bodyPost_ret (results_cell_row rfl _ _ w.heap.size _ _ _ _ rfl ((heap_alloc_old _ _ (by simp)).trans (heap_new (by simp))) Tryz.underlying133 rfl (by kernel_rfl)) rfl ⟨rfl,((HD.out.alloc _).alloc _).same (Same.drewN _ 3)⟩
theorem Gm.num {W w:World} {b:Nat} {F0 K:List Nat} {m:Mac} (h:Gm W F0 b K w m):∃ bn Fn bc Fc,w.cell? ⟨b,20,none⟩=some (.pointer (some ⟨bn,0,none⟩))∧w.cell? ⟨b,21,none⟩=some (.pointer (some ⟨bc,0,none⟩))∧NStk w bn Fn m.st.reverse∧CStk w bc Fc m.calls.reverse:=by
 obtain ⟨p,hm,_,_⟩:=h
 exact ⟨p.bn,p.Fn,p.bc,p.Fc,(hm.cell 20).trans rfl,(hm.cell 21).trans rfl,hm.num,hm.cal⟩
def TabAt (w:World) (F:List Nat):Prop:=Shaped5 w∧1∉F
theorem TabAt.turn {w w':World} {F F':List Nat} (h:TabAt w F) (t:Turn F F' w w'):TabAt w' F':=by
 have hlt:1<w.heap.size:=World.block_lt_of_cell? w _ (h.1.shp 0 (by omega)).1
 have hb:=t.block _ hlt h.2
 refine ⟨⟨fun k hk=>?_⟩,fun q=>(t.own _ q).elim h.2 (fun z=>absurd hlt (Nat.not_lt.2 z))⟩
 obtain ⟨c0,c1,c2,c3,c4,c5⟩:=h.1.shp k hk
 exact ⟨(World.cell?_of_block hb).trans c0,(World.cell?_of_block hb).trans c1,(World.cell?_of_block hb).trans c2,(World.cell?_of_block hb).trans c3,(World.cell?_of_block hb).trans c4,(World.cell?_of_block hb).trans c5⟩
end
end Go.Proofs.YtlkldgopliablaaGreatDoor
namespace Go.Proofs.YtlkldgopliablaaGreatDoor
open Go.ChangeShapes Go.WideShapes Go.ChangeAt Go.RowKit Num
section
variable {W w:World} {b:Nat} {F0 K:List Nat} {m:Mac}
theorem takes_le:∀ k,k<21→0≤(shp k).takes∧(shp k).takes≤2∧0≤(shp k).lays∧(shp k).lays≤2:=by decide +kernel
structure FitAt (w:World) (b bn bc:Nat) (k:Nat) (n:Int) (x:Nat) (t l:Int) (st:List Nat) (calls:List Int):Prop where
 lt:b<w.heap.size
 bln:(st.length:Int)≤64
 blc:(calls.length:Int)≤16
 tl:0≤t∧t≤2∧0≤l∧l≤2
 eff:Calls Tryz.prog 245 #[.int .i64 k] (w.alloc (.cells #[.int .i64 k,.int .i64 n,.float .f64 x] 133)) fun e w1=>e=.returned (.tuple #[.int .i64 t,.int .i64 l,.int .i64 0])∧w1.cell? ⟨w.heap.size,0,none⟩=some (.int .i64 k)∧w1.cell? ⟨w.heap.size,1,none⟩=some (.int .i64 n)∧w1.cell? ⟨b,20,none⟩=some (.pointer (some ⟨bn,0,none⟩))∧w1.cell? ⟨b,21,none⟩=some (.pointer (some ⟨bc,0,none⟩))∧b<w1.heap.size∧w.heap.size<w1.heap.size ∧
  Hid (Below w.heap.size w w1∧∀ u,Same w1 u→(Calls Tryz.prog 246 #[.pointer (some ⟨bn,0,none⟩)] u fun e u'=>e=.returned (.int .i64 st.length)∧u'=u)∧(Calls Tryz.prog 247 #[.pointer (some ⟨bn,0,none⟩)] u fun e u'=>e=.returned (.int .i64 64)∧u'=u)∧(Calls Tryz.prog 248 #[.pointer (some ⟨bc,0,none⟩)] u fun e u'=>e=.returned (.int .i64 calls.length)∧u'=u)∧(Calls Tryz.prog 249 #[.pointer (some ⟨bc,0,none⟩)] u fun e u'=>e=.returned (.int .i64 16)∧u'=u))
theorem fit_at (h:Gm W F0 b K w m) (hT:Shaped5 w) {k:Nat} (n:Int) (x:Nat) (hk:1≤k∧k<21):∃ bn bc,FitAt w b bn bc k n x (shp k).takes (shp k).lays m.st m.calls:=by
 obtain ⟨bn,Fn,bc,Fc,h20,h21,hs,hc⟩:=h.num
 have hb:=h.ltB
 have hfs:=hs.fits.1
 rw [fls_len,List.length_reverse] at hfs
 have hfc:=hc.fits.1
 rw [i64s_len,List.length_reverse] at hfc
 refine ⟨bn,bc,hb,hfs,hfc,takes_le k hk.2,?_⟩
 have hbx:=heap_alloc_new w (.cells #[.int .i64 k,.int .i64 n,.float .f64 x] 133)
 refine (effect_some k _ (hT.on (below_alloc w _)) hk.2 hk.1).mono fun e w1 ⟨he,hsm⟩=>⟨he,?_⟩
 have hB:Below w.heap.size w w1:=(below_alloc w _).trans (hsm.below _)
 have hx1:w1.heap[w.heap.size]?=_:=(by rw [hsm.heap]:w1.heap[w.heap.size]?=_).trans hbx
 obtain ⟨c0,c1,_,c3⟩:=cells3_of hx1
 refine ⟨c0,c1,(hB.cell (p:=⟨b,20,none⟩) hb).trans h20,(hB.cell (p:=⟨b,21,none⟩) hb).trans h21,Nat.lt_of_lt_of_le hb hB.size,c3,hB,fun u hu=>?_⟩
 have a1:=(hs.on hB).same hu
 have a2:=(hc.on hB).same hu
 have l1:=fLen_any a1
 have l2:=iLen_any a2
 rw [List.length_reverse] at l1 l2
 exact ⟨l1,fRoom_any a1,l2,iRoom_any a2⟩
theorem fit_5 {bn bc:Nat} {n:Int} {x:Nat} {t l:Int} {st:List Nat} {calls:List Int} (h:FitAt w b bn bc 5 n x t l st calls) (hn:0≤n∧n≤63) (h1:n+1≤(st.length:Int)) (h2:(st.length:Int) - t+l≤64):Calls Tryz.prog 233 #[.pointer (some ⟨b,0,none⟩),.agg #[.int .i64 5,.int .i64 n,.float .f64 x]] w fun r w'=>r=.returned (.tuple #[])∧Below w.heap.size w w':=by
 have HE:=Lib.hid h.eff
 have hb:=h.lt
 obtain ⟨t0,t2,l0,l2⟩:=h.tl
 have s0:=h.bln
 have s1:=h.blc
 clear h
 go_enter Tryz.func233,Tryz.ntmps233
 go_wp2_with (first
  | (go_at_call 239;refine (mustBe_yes (by first | rfl | (simp;omega)) 82 _).mono ?_;rintro e u ⟨rfl,hu⟩;subst u)
  | (go_at_call 247;refine (HF.out.2 _ (Same.refl _)).2.1.mono ?_;rintro e u ⟨rfl,hu⟩;subst u)
  | (go_at_call 246;refine (HF.out.2 _ (Same.refl _)).1.mono ?_;rintro e u ⟨rfl,hu⟩;subst u)
  | (go_at_call 245;refine HE.out.mono ?_;rintro e w1 ⟨rfl,c0,c1,c2,c3,c4,c5,HF⟩;clear HE))
 obtain ⟨z,hz,hz14⟩:∃ z:Int,((5:Nat):Int)=z∧¬ z=14:=⟨5,rfl,by decide⟩
 rw [hz] at c0
 clear hz
 refine region_tail 16 (by kernel_rfl) ?_
 simp only [List.take_succ_cons,List.take_zero,List.drop_succ_cons,List.drop_zero]
 repeat (first | still_step | still_call (HF.out.2 _ (Same.drew _)).2.2.1 | still_call (HF.out.2 _ (Same.drew _)).2.2.2)
 refine wpStill_nil ?_
 go_wp2_with (go_at_call 239;refine (mustBe_yes (by first | rfl | (simp;omega)) 82 _).mono ?_;rintro e u ⟨rfl,hu⟩;subst u)
 go_end0
 exact ⟨rfl,HF.out.1.trans ((Same.drewN _ 1).below _)⟩
theorem fit_14 {bn bc:Nat} {n:Int} {x:Nat} {t l:Int} {st:List Nat} {calls:List Int} (h:FitAt w b bn bc 14 n x t l st calls) (h1:t≤(st.length:Int)) (h2:(st.length:Int) - t+l≤64) (h3:(calls.length:Int)<16):Calls Tryz.prog 233 #[.pointer (some ⟨b,0,none⟩),.agg #[.int .i64 14,.int .i64 n,.float .f64 x]] w fun r w'=>r=.returned (.tuple #[])∧Below w.heap.size w w':=by
 have HE:=Lib.hid h.eff
 have hb:=h.lt
 obtain ⟨t0,t2,l0,l2⟩:=h.tl
 have s0:=h.bln
 have s1:=h.blc
 clear h
 go_enter Tryz.func233,Tryz.ntmps233
 go_wp2_with (first
  | (go_at_call 239;refine (mustBe_yes (by first | rfl | (simp;omega)) 82 _).mono ?_;rintro e u ⟨rfl,hu⟩;subst u)
  | (go_at_call 247;refine (HF.out.2 _ (Same.refl _)).2.1.mono ?_;rintro e u ⟨rfl,hu⟩;subst u)
  | (go_at_call 246;refine (HF.out.2 _ (Same.refl _)).1.mono ?_;rintro e u ⟨rfl,hu⟩;subst u)
  | (go_at_call 245;refine HE.out.mono ?_;rintro e w1 ⟨rfl,c0,c1,c2,c3,c4,c5,HF⟩;clear HE))
 refine region_tail 16 (by kernel_rfl) ?_
 simp only [List.take_succ_cons,List.take_zero,List.drop_succ_cons,List.drop_zero]
 repeat (first | still_step | still_call (HF.out.2 _ (Same.drew _)).2.2.1 | still_call (HF.out.2 _ (Same.drew _)).2.2.2)
 refine wpStill_nil ?_
 go_wp2_with (go_at_call 239;refine (mustBe_yes (by first | rfl | (simp;omega)) 82 _).mono ?_;rintro e u ⟨rfl,hu⟩;subst u)
 go_end0
 exact ⟨rfl,HF.out.1.trans ((Same.drewN _ 1).below _)⟩
theorem fit_k {bn bc:Nat} {n:Int} {x:Nat} {t l:Int} {st:List Nat} {calls:List Int} {k:Nat} (h:FitAt w b bn bc k n x t l st calls) (k5:¬ (k:Int)=5) (k14:¬ (k:Int)=14) (h1:t≤(st.length:Int)) (h2:(st.length:Int) - t+l≤64):Calls Tryz.prog 233 #[.pointer (some ⟨b,0,none⟩),.agg #[.int .i64 (k:Int),.int .i64 n,.float .f64 x]] w fun r w'=>r=.returned (.tuple #[])∧Below w.heap.size w w':=by
 have HE:=Lib.hid h.eff
 have hb:=h.lt
 obtain ⟨t0,t2,l0,l2⟩:=h.tl
 have s0:=h.bln
 have s1:=h.blc
 clear h
 go_enter Tryz.func233,Tryz.ntmps233
 go_wp2_with (first
  | (go_at_call 239;refine (mustBe_yes (by first | rfl | (simp;omega)) 82 _).mono ?_;rintro e u ⟨rfl,hu⟩;subst u)
  | (go_at_call 247;refine (HF.out.2 _ (Same.refl _)).2.1.mono ?_;rintro e u ⟨rfl,hu⟩;subst u)
  | (go_at_call 246;refine (HF.out.2 _ (Same.refl _)).1.mono ?_;rintro e u ⟨rfl,hu⟩;subst u)
  | (go_at_call 245;refine HE.out.mono ?_;rintro e w1 ⟨rfl,c0,c1,c2,c3,c4,c5,HF⟩;clear HE))
 refine region_tail 16 (by kernel_rfl) ?_
 simp only [List.take_succ_cons,List.take_zero,List.drop_succ_cons,List.drop_zero]
 repeat (first | still_step | still_call (HF.out.2 _ (Same.drew _)).2.2.1 | still_call (HF.out.2 _ (Same.drew _)).2.2.2)
 refine wpStill_nil ?_
 go_wp2_with (go_at_call 239;refine (mustBe_yes (by first | rfl | (simp;omega)) 82 _).mono ?_;rintro e u ⟨rfl,hu⟩;subst u)
 go_end0
 exact ⟨rfl,HF.out.1.trans ((Same.drewN _ 1).below _)⟩
theorem fit_14no {bn bc:Nat} {n:Int} {x:Nat} {t l:Int} {st:List Nat} {calls:List Int} (h:FitAt w b bn bc 14 n x t l st calls) (h1:t≤(st.length:Int)) (h2:(st.length:Int) - t+l≤64) (h3:¬ (calls.length:Int)<16):Calls Tryz.prog 233 #[.pointer (some ⟨b,0,none⟩),.agg #[.int .i64 14,.int .i64 n,.float .f64 x]] w fun r w'=>r=gaveM 82∧Below w.heap.size w w':=by
 have HE:=Lib.hid h.eff
 have hb:=h.lt
 obtain ⟨t0,t2,l0,l2⟩:=h.tl
 have s0:=h.bln
 have s1:=h.blc
 clear h
 go_enter Tryz.func233,Tryz.ntmps233
 go_wp2_with (first
  | (go_at_call 239;refine (mustBe_yes (by first | rfl | (simp;omega)) 82 _).mono ?_;rintro e u ⟨rfl,hu⟩;subst u)
  | (go_at_call 247;refine (HF.out.2 _ (Same.refl _)).2.1.mono ?_;rintro e u ⟨rfl,hu⟩;subst u)
  | (go_at_call 246;refine (HF.out.2 _ (Same.refl _)).1.mono ?_;rintro e u ⟨rfl,hu⟩;subst u)
  | (go_at_call 245;refine HE.out.mono ?_;rintro e w1 ⟨rfl,c0,c1,c2,c3,c4,c5,HF⟩;clear HE))
 refine region_tail 16 (by kernel_rfl) ?_
 simp only [List.take_succ_cons,List.take_zero,List.drop_succ_cons,List.drop_zero]
 repeat (first | still_step | still_call (HF.out.2 _ (Same.drew _)).2.2.1 | still_call (HF.out.2 _ (Same.drew _)).2.2.2)
 refine wpStill_nil ?_
 go_wp2_with (go_at_call 239;refine (mustBe_no (by first | (simp;done) | rfl | (simp;omega)) 82 _).mono ?_;rintro e u ⟨rfl,hu⟩;subst u)
 exact ⟨rfl,rfl,HF.out.1.trans ((Same.drewN _ 1).below _)⟩
theorem fit_5no {bn bc:Nat} {n:Int} {x:Nat} {t l:Int} {st:List Nat} {calls:List Int} (h:FitAt w b bn bc 5 n x t l st calls) (hn:0≤n∧n≤63) (h1:¬ n+1≤(st.length:Int)):Calls Tryz.prog 233 #[.pointer (some ⟨b,0,none⟩),.agg #[.int .i64 5,.int .i64 n,.float .f64 x]] w fun r w'=>r=gaveM 82∧Below w.heap.size w w':=by
 have HE:=Lib.hid h.eff
 have hb:=h.lt
 obtain ⟨t0,t2,l0,l2⟩:=h.tl
 have s0:=h.bln
 have s1:=h.blc
 clear h
 go_enter Tryz.func233,Tryz.ntmps233
 go_wp2_with (first
  | (go_at_call 239;refine (mustBe_no (by first | (simp;done) | rfl | (simp;omega)) 82 _).mono ?_;rintro e u ⟨rfl,hu⟩;subst u)
  | (go_at_call 247;refine (HF.out.2 _ (Same.refl _)).2.1.mono ?_;rintro e u ⟨rfl,hu⟩;subst u)
  | (go_at_call 246;refine (HF.out.2 _ (Same.refl _)).1.mono ?_;rintro e u ⟨rfl,hu⟩;subst u)
  | (go_at_call 245;refine HE.out.mono ?_;rintro e w1 ⟨rfl,c0,c1,c2,c3,c4,c5,HF⟩;clear HE))
 exact ⟨rfl,rfl,HF.out.1⟩
theorem fit_5no2 {bn bc:Nat} {n:Int} {x:Nat} {t l:Int} {st:List Nat} {calls:List Int} (h:FitAt w b bn bc 5 n x t l st calls) (hn:0≤n∧n≤63) (h1:n+1≤(st.length:Int)) (h2:¬ (st.length:Int) - t+l≤64):Calls Tryz.prog 233 #[.pointer (some ⟨b,0,none⟩),.agg #[.int .i64 5,.int .i64 n,.float .f64 x]] w fun r w'=>r=gaveM 82∧Below w.heap.size w w':=by
 have HE:=Lib.hid h.eff
 have hb:=h.lt
 obtain ⟨t0,t2,l0,l2⟩:=h.tl
 have s0:=h.bln
 have s1:=h.blc
 clear h
 go_enter Tryz.func233,Tryz.ntmps233
 go_wp2_with (first
  | (go_at_call 239;refine (mustBe_no (by first | (simp;done) | rfl | (simp;omega)) 82 _).mono ?_;rintro e u ⟨rfl,hu⟩;subst u)
  | (go_at_call 247;refine (HF.out.2 _ (Same.refl _)).2.1.mono ?_;rintro e u ⟨rfl,hu⟩;subst u)
  | (go_at_call 246;refine (HF.out.2 _ (Same.refl _)).1.mono ?_;rintro e u ⟨rfl,hu⟩;subst u)
  | (go_at_call 245;refine HE.out.mono ?_;rintro e w1 ⟨rfl,c0,c1,c2,c3,c4,c5,HF⟩;clear HE))
 exact ⟨rfl,rfl,HF.out.1⟩
theorem fit_kno {bn bc:Nat} {n:Int} {x:Nat} {t l:Int} {st:List Nat} {calls:List Int} {k:Nat} (h:FitAt w b bn bc k n x t l st calls) (k5:¬ (k:Int)=5) (h1:¬ t≤(st.length:Int)):Calls Tryz.prog 233 #[.pointer (some ⟨b,0,none⟩),.agg #[.int .i64 (k:Int),.int .i64 n,.float .f64 x]] w fun r w'=>r=gaveM 82∧Below w.heap.size w w':=by
 have HE:=Lib.hid h.eff
 have hb:=h.lt
 obtain ⟨t0,t2,l0,l2⟩:=h.tl
 have s0:=h.bln
 have s1:=h.blc
 clear h
 go_enter Tryz.func233,Tryz.ntmps233
 go_wp2_with (first
  | (go_at_call 239;refine (mustBe_no (by first | (simp;done) | rfl | (simp;omega)) 82 _).mono ?_;rintro e u ⟨rfl,hu⟩;subst u)
  | (go_at_call 247;refine (HF.out.2 _ (Same.refl _)).2.1.mono ?_;rintro e u ⟨rfl,hu⟩;subst u)
  | (go_at_call 246;refine (HF.out.2 _ (Same.refl _)).1.mono ?_;rintro e u ⟨rfl,hu⟩;subst u)
  | (go_at_call 245;refine HE.out.mono ?_;rintro e w1 ⟨rfl,c0,c1,c2,c3,c4,c5,HF⟩;clear HE))
 exact ⟨rfl,rfl,HF.out.1⟩
theorem fit_kno2 {bn bc:Nat} {n:Int} {x:Nat} {t l:Int} {st:List Nat} {calls:List Int} {k:Nat} (h:FitAt w b bn bc k n x t l st calls) (k5:¬ (k:Int)=5) (h1:t≤(st.length:Int)) (h2:¬ (st.length:Int) - t+l≤64):Calls Tryz.prog 233 #[.pointer (some ⟨b,0,none⟩),.agg #[.int .i64 (k:Int),.int .i64 n,.float .f64 x]] w fun r w'=>r=gaveM 82∧Below w.heap.size w w':=by
 have HE:=Lib.hid h.eff
 have hb:=h.lt
 obtain ⟨t0,t2,l0,l2⟩:=h.tl
 have s0:=h.bln
 have s1:=h.blc
 clear h
 go_enter Tryz.func233,Tryz.ntmps233
 go_wp2_with (first
  | (go_at_call 239;refine (mustBe_no (by first | (simp;done) | rfl | (simp;omega)) 82 _).mono ?_;rintro e u ⟨rfl,hu⟩;subst u)
  | (go_at_call 247;refine (HF.out.2 _ (Same.refl _)).2.1.mono ?_;rintro e u ⟨rfl,hu⟩;subst u)
  | (go_at_call 246;refine (HF.out.2 _ (Same.refl _)).1.mono ?_;rintro e u ⟨rfl,hu⟩;subst u)
  | (go_at_call 245;refine HE.out.mono ?_;rintro e w1 ⟨rfl,c0,c1,c2,c3,c4,c5,HF⟩;clear HE))
 exact ⟨rfl,rfl,HF.out.1⟩
end
end Go.Proofs.YtlkldgopliablaaGreatDoor
namespace Go.Proofs.YtlkldgopliablaaGreatDoor
open Go.ChangeShapes Go.WideShapes Go.ChangeAt Go.RowKit Num
attribute [local go_sem] run_store_float
abbrev insO (i:Ins):Obj:=.cells #[.int .i64 i.op,.int .i64 i.n,.float .f64 i.x] 133
section
variable {W w:World} {b:Nat} {F0 K:List Nat} {m:Mac}
theorem fit_any (h:Gm W F0 b K w m) (hT:Shaped5 w) {k:Nat} {n:Int} {x:Nat} (hk:1≤k∧k<21) (hn:k=5→0≤n∧n≤63):Calls Tryz.prog 233 #[.pointer (some ⟨b,0,none⟩),.agg #[.int .i64 k,.int .i64 n,.float .f64 x]] w fun r w'=>r=(if roomB m ⟨k,n,x⟩ then .returned (.tuple #[]) else gaveM 82)∧Below w.heap.size w w':=by
 obtain ⟨bn,bc,hf⟩:=fit_at h hT n x hk
 have hrb:roomB m ⟨k,n,x⟩=(decide ((if k=5 then n+1 else (shp k).takes)≤(m.st.length:Int)) && decide ((m.st.length:Int) - (shp k).takes+(shp k).lays≤64) && !(decide (k=14) && decide (16≤m.calls.length))):=by
  unfold roomB leastI takesI laysI
  have e1:((k:Int)=5)=(k=5):=by apply propext;omega
  have e2:((k:Int)=14)=(k=14):=by apply propext;omega
  simp only [Int.toNat_natCast,e1,e2]
 by_cases h5:k=5
 ·subst h5
  have hn:=hn rfl
  by_cases h1:n+1≤(m.st.length:Int)
  ·by_cases h2:(m.st.length:Int) - (shp 5).takes+(shp 5).lays≤64
   ·rw [hrb,if_pos (by simp [h1,h2])]
    exact fit_5 hf hn h1 h2
   ·rw [hrb,if_neg (by simp [h2])]
    exact fit_5no2 hf hn h1 h2
  ·rw [hrb,if_neg (by simp;omega)]
   exact fit_5no hf hn h1
 ·have h5':¬ (k:Int)=5:=by omega
  by_cases h1:(shp k).takes≤(m.st.length:Int)
  ·by_cases h2:(m.st.length:Int) - (shp k).takes+(shp k).lays≤64
   ·by_cases h14:k=14
    ·subst h14
     by_cases h3:(m.calls.length:Int)<16
     ·rw [hrb,if_pos (by simp [h1,h2];omega)]
      exact fit_14 hf h1 h2 h3
     ·rw [hrb,if_neg (by simp [h1,h2];omega)]
      exact fit_14no hf h1 h2 h3
    ·rw [hrb,if_pos (by simp [h1,h2,h5,h14])]
     exact fit_k hf h5' (by omega) h1 h2
   ·rw [hrb,if_neg (by simp [h2])]
    exact fit_kno2 hf h5' h1 h2
  ·rw [hrb,if_neg (by simp [h5,h1])]
   exact fit_kno hf h5' h1
theorem Gm.enter (h:Gm W F0 b K w m) (o:Obj):∃ F,Gm (w.alloc o) F b K (w.alloc o) m∧∀ w' m',Gm (w.alloc o) F b K w' m'→w'.heap[w.heap.size]?=some o∧w.heap.size<w'.heap.size∧b<w'.heap.size∧Gm W F0 b K w' m':=by
 obtain ⟨F,hM,hT⟩:=h.mc
 refine ⟨F,(hM.on (below_alloc w o)).gm,fun w' m' hg=>?_⟩
 have hb:w'.heap[w.heap.size]?=some o:=(hg.far (by simp) (fun q=>absurd (hM.blw _ q) (Nat.lt_irrefl _))).trans (heap_alloc_new w o)
 refine ⟨hb,?_,hg.ltB,hg.trans (hT.trans (Below.turn (below_alloc w o) F))⟩
 rcases Nat.lt_or_ge w.heap.size w'.heap.size with q | q
 ·exact q
 ·rw [Array.getElem?_eq_none q] at hb
  cases hb
theorem Gm.drewN (h:Gm W F0 b K w m) (n:Nat):Gm W F0 b K (w.drewN n) m:=h.same (Same.drewN w n)
theorem insO_cells {w:World} {g:Nat} {i:Ins} (h:w.heap[g]?=some (insO i)):w.cell? ⟨g,0,none⟩=some (.int .i64 i.op)∧w.cell? ⟨g,1,none⟩=some (.int .i64 i.n)∧w.cell? ⟨g,2,none⟩=some (.float .f64 i.x)∧g<w.heap.size:=cells3_of h
theorem address_any (h:Gm W F0 b K w m) (hs:0<m.st.length):Calls Tryz.prog 250 #[.pointer (some ⟨b,0,none⟩)] w fun r w'=>r=(if addrB m then .returned (.int .i64 (addrV m)) else gaveM 50)∧Same w w':=by
 obtain ⟨p,hm,_,_⟩:=id h
 have h0:w.cell? ⟨b,0,none⟩=some (.int .i64 m.cells):=(hm.cell 0).trans rfl
 have hb:=hm.ltB
 clear hm
 have HP:Hid (∀ n,Calls Tryz.prog 253 #[.pointer (some ⟨b,0,none⟩),.int .i64 0] (w.drewN n) fun e w'=>e=.returned (.float .f64 (m.st.getD 0 0))∧∃ q,w'=w.drewN q):=fun n=>(pick_any (h.drewN n) 0 hs).mono fun e w' ⟨he,q,hq⟩=>⟨he,n+q,by rw [hq,World.drewN_drewN]⟩
 unfold addrB addrV
 have HI:=Lib.hid (fun w=>index_any (m.st.getD 0 0) m.cells w)
 unfold idxV idxE at *
 clear h
 generalize m.st.getD 0 0=y at *
 generalize m.cells=z at *
 cases hx:idxB y z
 ·rw [hx] at HI
  go_enter Tryz.func250,Tryz.ntmps250
  go_wp2
  go_quiet (first
   | (go_at_call 253;exact HP.out _)
   | (go_at_call 270;exact Calls.quiet_of_same (HI.out _)))
  go_wp2_with (go_at_call 239;refine (mustBe_no (by first | (simp;done) | rfl) 50 _).mono ?_;rintro e u ⟨rfl,hu⟩;subst u)
  exact ⟨rfl,rfl,Same.drewN _ _⟩
 ·rw [hx] at HI
  go_enter Tryz.func250,Tryz.ntmps250
  go_wp2
  go_quiet (first
   | (go_at_call 253;exact HP.out _)
   | (go_at_call 270;exact Calls.quiet_of_same (HI.out _)))
  go_wp2_with (go_at_call 239;refine (mustBe_yes (by first | rfl | (simp;done)) 50 _).mono ?_;rintro e u ⟨rfl,hu⟩;subst u)
  go_ret
  exact ⟨rfl,Same.drewN _ _⟩
end
end Go.Proofs.YtlkldgopliablaaGreatDoor
namespace Go.Proofs.YtlkldgopliablaaGreatDoor
open Go.ChangeShapes Go.WideShapes Go.ChangeAt Go.RowKit Num
attribute [local go_sem] run_store_float
theorem one_any {op:Int} (hop:1≤op∧op≤8) {y:Nat} (hy:okN y) (w:World):Calls Tryz.prog 258 #[.int .i64 op,.float .f64 y] w fun e w'=>e=.returned (.tuple #[.float .f64 (oneV op y),.int .i64 0])∧Below w.heap.size w w':=by
 obtain ⟨k,rfl⟩:∃ k:Nat,op=k:=⟨op.toNat,by omega⟩
 unfold oneV
 rw [Int.toNat_natCast]
 match k,hop with
 | 1,_=>simpa only [List.getD_cons_succ,List.getD_cons_zero,Int.cast_ofNat_Int,Grw] using one_1 y w hy.2
 | 2,_=>simpa only [List.getD_cons_succ,List.getD_cons_zero,Int.cast_ofNat_Int,Grw] using one_2 y w hy.2
 | 3,_=>simpa only [List.getD_cons_succ,List.getD_cons_zero,Int.cast_ofNat_Int,Grw] using one_3 y w hy.2
 | 4,_=>simpa only [List.getD_cons_succ,List.getD_cons_zero,Int.cast_ofNat_Int,Grw] using one_4 y w hy.2
 | 5,_=>simpa only [List.getD_cons_succ,List.getD_cons_zero,Int.cast_ofNat_Int,Grw] using one_5 y w hy.2
 | 6,_=>simpa only [List.getD_cons_succ,List.getD_cons_zero,Int.cast_ofNat_Int,Grw] using one_6 y w hy.2
 | 7,_=>simpa only [List.getD_cons_succ,List.getD_cons_zero,Int.cast_ofNat_Int,Grw] using one_7 y w hy.2
 | 8,_=>simpa only [List.getD_cons_succ,List.getD_cons_zero,Int.cast_ofNat_Int,Grw] using one_8 y w hy.2
 | 0,h=>exact absurd h.1 (by decide)
 | n+9,h=>exact absurd h.2 (by omega)
theorem two_any {op:Int} (hop:1≤op∧op≤12) {y z:Nat} (hy:okN y) (hz:okN z) (w:World):Calls Tryz.prog 259 #[.int .i64 op,.float .f64 y,.float .f64 z] w fun e w'=>e=.returned (.tuple #[.float .f64 (twoV op y z),.int .i64 0])∧Below w.heap.size w w':=by
 obtain ⟨k,rfl⟩:∃ k:Nat,op=k:=⟨op.toNat,by omega⟩
 unfold twoV
 rw [Int.toNat_natCast]
 match k,hop with
 | 1,_=>simpa only [List.getD_cons_succ,List.getD_cons_zero,Int.cast_ofNat_Int,Grw] using two_1 y z w hy.2 hz.2
 | 2,_=>simpa only [List.getD_cons_succ,List.getD_cons_zero,Int.cast_ofNat_Int,Grw] using two_2 y z w hy.2 hz.2
 | 3,_=>simpa only [List.getD_cons_succ,List.getD_cons_zero,Int.cast_ofNat_Int,Grw] using two_3 y z w hy.2 hz.2
 | 4,_=>simpa only [List.getD_cons_succ,List.getD_cons_zero,Int.cast_ofNat_Int,Grw] using two_4 y z w hy.2 hz.2
 | 5,_=>simpa only [List.getD_cons_succ,List.getD_cons_zero,Int.cast_ofNat_Int,Grw] using two_5 y z w hy.2 hz.2
 | 6,_=>simpa only [List.getD_cons_succ,List.getD_cons_zero,Int.cast_ofNat_Int,Grw] using two_6 y z w hy.2 hz.2
 | 7,_=>simpa only [List.getD_cons_succ,List.getD_cons_zero,Int.cast_ofNat_Int,Grw] using two_7 y z w hy.2 hz.2
 | 8,_=>simpa only [List.getD_cons_succ,List.getD_cons_zero,Int.cast_ofNat_Int,Grw] using two_8 y z w hy.2 hz.2
 | 9,_=>simpa only [List.getD_cons_succ,List.getD_cons_zero,Int.cast_ofNat_Int,Grw] using two_9 y z w hy.2 hz.2
 | 10,_=>simpa only [List.getD_cons_succ,List.getD_cons_zero,Int.cast_ofNat_Int,Grw] using two_10 y z w hy.2 hz.2
 | 11,_=>simpa only [List.getD_cons_succ,List.getD_cons_zero,Int.cast_ofNat_Int,Grw] using two_11 y z w hy.2 hz.2
 | 12,_=>simpa only [List.getD_cons_succ,List.getD_cons_zero,Int.cast_ofNat_Int,Grw] using two_12 y z w hy.2 hz.2
 | 0,h=>exact absurd h.1 (by decide)
 | n+13,h=>exact absurd h.2 (by omega)
section
variable {W w:World} {b:Nat} {F0 K:List Nat} {m:Mac}
theorem reckon_1 (h:Gm W F0 b K w m) (n:Int) (x:Nat) (hs:m.st.length<64):Calls Tryz.prog 238 #[.pointer (some ⟨b,0,none⟩),.agg #[.int .i64 1,.int .i64 n,.float .f64 x]] w fun r w'=>r=.returned (.tuple #[])∧Gm W F0 b K w' { m with st:=fixB x::m.st }:=by
 obtain ⟨F,h1,hX⟩:=h.enter (insO ⟨1,n,x⟩)
 have HG:=Lib.hid h1
 have HX:=Lib.hid hX
 have HS:=Lib.hid hs
 clear h h1 hX hs
 go_enter Tryz.func238,Tryz.ntmps238
 go_wp2_with (first | (go_at_call 240;refine (lay_any HG.out _ HS.out).mono ?_;rintro e u_G1 ⟨rfl,q⟩;have G1:=Lib.hid q;clear q) | (go_at_call 128;refine (fix_any _ _).mono ?_;rintro e u ⟨rfl,hu⟩;subst u))
 go_end0
 exact ⟨rfl,(HX.out _ _ G1.out).2.2.2⟩
theorem reckon_2 (h:Gm W F0 b K w m) (n:Int) (x:Nat) {y:Nat} {s:List Nat} (hs:m.st=y::s):Calls Tryz.prog 238 #[.pointer (some ⟨b,0,none⟩),.agg #[.int .i64 2,.int .i64 n,.float .f64 x]] w fun r w'=>r=.returned (.tuple #[])∧Gm W F0 b K w' { m with st:=s }:=by
 obtain ⟨F,h1,hX⟩:=h.enter (insO ⟨2,n,x⟩)
 have HG:=Lib.hid h1
 have HX:=Lib.hid hX
 have HS:=Lib.hid hs
 clear h h1 hX hs
 go_enter Tryz.func238,Tryz.ntmps238
 go_wp2_with (go_at_call 251;refine (take_any HG.out HS.out).mono ?_;rintro e u_G1 ⟨rfl,q⟩;have G1:=Lib.hid q;clear q)
 go_end0
 exact ⟨rfl,(HX.out _ _ G1.out).2.2.2⟩
theorem reckon_3 (h:Gm W F0 b K w m) (n:Int) (x:Nat) (h0:0<m.st.length) (hs:m.st.length<64):Calls Tryz.prog 238 #[.pointer (some ⟨b,0,none⟩),.agg #[.int .i64 3,.int .i64 n,.float .f64 x]] w fun r w'=>r=.returned (.tuple #[])∧Gm W F0 b K w' { m with st:=m.st.getD 0 0::m.st }:=by
 obtain ⟨F,h1,hX⟩:=h.enter (insO ⟨3,n,x⟩)
 have HG:=Lib.hid h1
 have HX:=Lib.hid hX
 have HS:=Lib.hid (And.intro h0 hs)
 clear h h1 hX hs h0
 go_enter Tryz.func238,Tryz.ntmps238
 go_wp2_with (first | (go_at_call 240;refine (lay_any (HG.out.drewN _) _ HS.out.2).mono ?_;rintro e u_G1 ⟨rfl,q⟩;have G1:=Lib.hid q;clear q) | (go_at_call 253;refine (pick_any HG.out 0 HS.out.1).mono ?_;rintro e u ⟨rfl,q,hq⟩;subst u))
 go_end0
 exact ⟨rfl,(HX.out _ _ G1.out).2.2.2⟩
theorem reckon_4 (h:Gm W F0 b K w m) (n:Int) (x:Nat) {y z:Nat} {s:List Nat} (hs:m.st=y::z::s) (hl:s.length+2≤64):Calls Tryz.prog 238 #[.pointer (some ⟨b,0,none⟩),.agg #[.int .i64 4,.int .i64 n,.float .f64 x]] w fun r w'=>r=.returned (.tuple #[])∧Gm W F0 b K w' { m with st:=z::y::s }:=by
 obtain ⟨F,h1,hX⟩:=h.enter (insO ⟨4,n,x⟩)
 have HG:=Lib.hid h1
 have HX:=Lib.hid hX
 have HS:=Lib.hid hs
 have HL:=Lib.hid hl
 clear h h1 hX hs hl
 go_enter Tryz.func238,Tryz.ntmps238
 go_wp2_with (first
  | (go_at_call 240;refine (lay_any G3.out _ (by have:=HL.out;simp;omega)).mono ?_;rintro e u_G4 ⟨rfl,q⟩;have G4:=Lib.hid q;clear q)
  | (go_at_call 240;refine (lay_any G2.out _ (by have:=HL.out;simp;omega)).mono ?_;rintro e u_G3 ⟨rfl,q⟩;have G3:=Lib.hid q;clear q)
  | (go_at_call 251;refine (take_any G1.out rfl).mono ?_;rintro e u_G2 ⟨rfl,q⟩;have G2:=Lib.hid q;clear q)
  | (go_at_call 251;refine (take_any HG.out HS.out).mono ?_;rintro e u_G1 ⟨rfl,q⟩;have G1:=Lib.hid q;clear q))
 go_end0
 exact ⟨rfl,(HX.out _ _ G4.out).2.2.2⟩
theorem reckon_5 (h:Gm W F0 b K w m) (n:Int) (x:Nat) {k:Nat} (hn:n=(k:Int)) (h0:k<m.st.length) (hs:m.st.length<64):Calls Tryz.prog 238 #[.pointer (some ⟨b,0,none⟩),.agg #[.int .i64 5,.int .i64 n,.float .f64 x]] w fun r w'=>r=.returned (.tuple #[])∧Gm W F0 b K w' { m with st:=m.st.getD k 0::m.st }:=by
 obtain ⟨F,h1,hX⟩:=h.enter (insO ⟨5,n,x⟩)
 have HG:=Lib.hid h1
 have HX:=Lib.hid hX
 subst hn
 have HS:=Lib.hid (And.intro h0 hs)
 clear h h1 hX hs h0
 go_enter Tryz.func238,Tryz.ntmps238
 go_wp2_with (first | (go_at_call 240;refine (lay_any (HG.out.drewN _) _ HS.out.2).mono ?_;rintro e u_G1 ⟨rfl,q⟩;have G1:=Lib.hid q;clear q) | (go_at_call 253;refine (pick_any HG.out k HS.out.1).mono ?_;rintro e u ⟨rfl,q,hq⟩;subst u))
 go_end0
 exact ⟨rfl,(HX.out _ _ G1.out).2.2.2⟩
theorem args_at (h:Gm W F0 b K w m) {k:Nat} (hk:k<8):w.cell? ⟨b,4+k,none⟩=some (.float .f64 (m.args k)):=by
 obtain ⟨p,hm,_,_⟩:=h
 match k,hk with
 | 0,_=>exact (hm.cell 4).trans rfl
 | 1,_=>exact (hm.cell 5).trans rfl
 | 2,_=>exact (hm.cell 6).trans rfl
 | 3,_=>exact (hm.cell 7).trans rfl
 | 4,_=>exact (hm.cell 8).trans rfl
 | 5,_=>exact (hm.cell 9).trans rfl
 | 6,_=>exact (hm.cell 10).trans rfl
 | 7,_=>exact (hm.cell 11).trans rfl
theorem loc_at (h:Gm W F0 b K w m) {k:Nat} (hk:k<8):w.cell? ⟨b,12+k,none⟩=some (.float .f64 (m.loc k)):=by
 obtain ⟨p,hm,_,_⟩:=h
 match k,hk with
 | 0,_=>exact (hm.cell 12).trans rfl
 | 1,_=>exact (hm.cell 13).trans rfl
 | 2,_=>exact (hm.cell 14).trans rfl
 | 3,_=>exact (hm.cell 15).trans rfl
 | 4,_=>exact (hm.cell 16).trans rfl
 | 5,_=>exact (hm.cell 17).trans rfl
 | 6,_=>exact (hm.cell 18).trans rfl
 | 7,_=>exact (hm.cell 19).trans rfl
theorem loc_set (h:Gm W F0 b K w m) {k:Nat} (hk:k<8) (y:Nat):Gm W F0 b K (w.setCell ⟨b,12+k,none⟩ (.float .f64 y)) { m with loc:=updF m.loc k y }:=by
 refine h.set (12+k) _ _ (fun p hp=>⟨p.wt,?_,hp⟩) ⟨rfl,rfl,rfl,rfl,rfl,rfl,rfl⟩
 match k,hk with
 | 0,_=>rfl
 | 1,_=>rfl
 | 2,_=>rfl
 | 3,_=>rfl
 | 4,_=>rfl
 | 5,_=>rfl
 | 6,_=>rfl
 | 7,_=>rfl
theorem reckon_6 (h:Gm W F0 b K w m) (n:Int) (x:Nat) {k:Nat} (hn:n=(k:Int)) (h0:k<8) (hs:m.st.length<64):Calls Tryz.prog 238 #[.pointer (some ⟨b,0,none⟩),.agg #[.int .i64 6,.int .i64 n,.float .f64 x]] w fun r w'=>r=.returned (.tuple #[])∧Gm W F0 b K w' { m with st:=m.args k::m.st }:=by
 obtain ⟨F,h1,hX⟩:=h.enter (insO ⟨6,n,x⟩)
 have HG:=Lib.hid h1
 have HX:=Lib.hid hX
 subst hn
 have HS:=Lib.hid hs
 have hb:=h.ltB
 have hk8:(k:Int)<8:=by omega
 have hc:w.cell? ⟨b,4+k,none⟩=some (.float .f64 (m.args k)):=args_at h h0
 clear h h1 hX hs h0
 go_enter Tryz.func238,Tryz.ntmps238
 go_wp2
 refine region_tail 8 (by kernel_rfl) ?_
 simp only [List.take_succ_cons,List.take_zero,List.drop_succ_cons,List.drop_zero]
 repeat still_step
 refine wpStill_nil ?_
 go_wp2_with (go_at_call 240;refine (lay_any (HG.out.drewN 1) _ HS.out).mono ?_;rintro e u_G1 ⟨rfl,q⟩;have G1:=Lib.hid q;clear q)
 go_end0
 exact ⟨rfl,(HX.out _ _ G1.out).2.2.2⟩
theorem reckon_7 (h:Gm W F0 b K w m) (n:Int) (x:Nat) {k:Nat} (hn:n=(k:Int)) (h0:k<8) (hs:m.st.length<64):Calls Tryz.prog 238 #[.pointer (some ⟨b,0,none⟩),.agg #[.int .i64 7,.int .i64 n,.float .f64 x]] w fun r w'=>r=.returned (.tuple #[])∧Gm W F0 b K w' { m with st:=m.loc k::m.st }:=by
 obtain ⟨F,h1,hX⟩:=h.enter (insO ⟨7,n,x⟩)
 have HG:=Lib.hid h1
 have HX:=Lib.hid hX
 subst hn
 have HS:=Lib.hid hs
 have hb:=h.ltB
 have hk8:(k:Int)<8:=by omega
 have hc:w.cell? ⟨b,12+k,none⟩=some (.float .f64 (m.loc k)):=loc_at h h0
 clear h h1 hX hs h0
 go_enter Tryz.func238,Tryz.ntmps238
 go_wp2
 refine region_tail 8 (by kernel_rfl) ?_
 simp only [List.take_succ_cons,List.take_zero,List.drop_succ_cons,List.drop_zero]
 repeat still_step
 refine wpStill_nil ?_
 go_wp2_with (go_at_call 240;refine (lay_any (HG.out.drewN 1) _ HS.out).mono ?_;rintro e u_G1 ⟨rfl,q⟩;have G1:=Lib.hid q;clear q)
 go_end0
 exact ⟨rfl,(HX.out _ _ G1.out).2.2.2⟩
end
end Go.Proofs.YtlkldgopliablaaGreatDoor
namespace Go.Proofs.YtlkldgopliablaaGreatDoor
open Go.ChangeShapes Go.WideShapes Go.ChangeAt Go.RowKit Num
attribute [local go_sem] run_store_float
section
variable {W w:World} {b:Nat} {F0 K:List Nat} {m:Mac}
theorem move_11 (h:Gm W F0 b K w m) (n:Int) (x:Nat) :Calls Tryz.prog 237 #[.pointer (some ⟨b,0,none⟩),.agg #[.int .i64 11,.int .i64 n,.float .f64 x]] w fun r w'=>r=.returned (.tuple #[])∧Gm W F0 b K w' { m with place:=n }:=by
 have hb:=h.ltB
 have h22:w.cell? ⟨b,22,none⟩=some (.int .i64 m.place):=by obtain ⟨p,hm,_,_⟩:=h;exact (hm.cell 22).trans rfl
 have f22:=h.free 22
 have HD:=Lib.hid (h.set 22 (.int .i64 n) { m with place:=n } (fun p hp=>⟨p.wt,rfl,hp⟩) ⟨rfl,rfl,rfl,rfl,rfl,rfl,rfl⟩)
 clear h
 go_enter Tryz.func237,Tryz.ntmps237
 go_wp2
 go_end0
 exact ⟨rfl,HD.out.alloc _⟩
theorem place_at (h:Gm W F0 b K w m):w.cell? ⟨b,22,none⟩=some (.int .i64 m.place):=by
 obtain ⟨p,hm,_,_⟩:=h
 exact (hm.cell 22).trans rfl
theorem place_set (h:Gm W F0 b K w m) (n:Int):Gm W F0 b K (w.setCell ⟨b,22,none⟩ (.int .i64 n)) { m with place:=n } :=
 h.set 22 (.int .i64 n) { m with place:=n } (fun p hp=>⟨p.wt,rfl,hp⟩) ⟨rfl,rfl,rfl,rfl,rfl,rfl,rfl⟩
theorem move_12y (h:Gm W F0 b K w m) (n:Int) (x:Nat) {y:Nat} {s:List Nat} (hs:m.st=y::s) (ht:trueB y=true):Calls Tryz.prog 237 #[.pointer (some ⟨b,0,none⟩),.agg #[.int .i64 12,.int .i64 n,.float .f64 x]] w fun r w'=>r=.returned (.tuple #[])∧Gm W F0 b K w' { m with place:=n,st:=s }:=by
 obtain ⟨F,h1,hX⟩:=h.enter (insO ⟨12,n,x⟩)
 have HG:=Lib.hid h1
 have HX:=Lib.hid hX
 have HS:=Lib.hid hs
 have HT:Hid (∀ w,_):=fun w=>true_any y w
 rw [ht] at HT
 clear h h1 hX hs ht
 go_enter Tryz.func237,Tryz.ntmps237
 go_wp2_with (first
  | (go_at_call 256;refine (HT.out _).mono ?_;rintro e u ⟨rfl,hu⟩;subst u)
  | (go_at_call 251;refine (take_any HG.out HS.out).mono ?_;rintro e u1 ⟨rfl,q⟩;obtain ⟨r1,r2,r3,r4⟩:=HX.out _ _ q;obtain ⟨c0,c1,c2,c3⟩:=insO_cells r1;have d0:=place_at q;have d1:=q.free 22;have d2:=q.ltB;have G1:=Lib.hid q;clear q r1 r2 r3 r4))
 go_end0
 exact ⟨rfl,(HX.out _ _ (place_set G1.out n)).2.2.2⟩
theorem move_12n (h:Gm W F0 b K w m) (n:Int) (x:Nat) {y:Nat} {s:List Nat} (hs:m.st=y::s) (ht:trueB y=false):Calls Tryz.prog 237 #[.pointer (some ⟨b,0,none⟩),.agg #[.int .i64 12,.int .i64 n,.float .f64 x]] w fun r w'=>r=.returned (.tuple #[])∧Gm W F0 b K w' { m with st:=s }:=by
 obtain ⟨F,h1,hX⟩:=h.enter (insO ⟨12,n,x⟩)
 have HG:=Lib.hid h1
 have HX:=Lib.hid hX
 have HS:=Lib.hid hs
 have HT:Hid (∀ w,_):=fun w=>true_any y w
 rw [ht] at HT
 clear h h1 hX hs ht
 go_enter Tryz.func237,Tryz.ntmps237
 go_wp2_with (first
  | (go_at_call 256;refine (HT.out _).mono ?_;rintro e u ⟨rfl,hu⟩;subst u)
  | (go_at_call 251;refine (take_any HG.out HS.out).mono ?_;rintro e u1 ⟨rfl,q⟩;obtain ⟨r1,r2,r3,r4⟩:=HX.out _ _ q;obtain ⟨c0,c1,c2,c3⟩:=insO_cells r1;have d0:=place_at q;have d1:=q.free 22;have d2:=q.ltB;have G1:=Lib.hid q;clear q r1 r2 r3 r4))
 go_end0
 exact ⟨rfl,(HX.out _ _ G1.out).2.2.2⟩
theorem move_13y (h:Gm W F0 b K w m) (n:Int) (x:Nat) {y:Nat} {s:List Nat} (hs:m.st=y::s) (ht:trueB y=true):Calls Tryz.prog 237 #[.pointer (some ⟨b,0,none⟩),.agg #[.int .i64 13,.int .i64 n,.float .f64 x]] w fun r w'=>r=.returned (.tuple #[])∧Gm W F0 b K w' { m with st:=s }:=by
 obtain ⟨F,h1,hX⟩:=h.enter (insO ⟨13,n,x⟩)
 have HG:=Lib.hid h1
 have HX:=Lib.hid hX
 have HS:=Lib.hid hs
 have HT:Hid (∀ w,_):=fun w=>true_any y w
 rw [ht] at HT
 clear h h1 hX hs ht
 go_enter Tryz.func237,Tryz.ntmps237
 go_wp2_with (first
  | (go_at_call 256;refine (HT.out _).mono ?_;rintro e u ⟨rfl,hu⟩;subst u)
  | (go_at_call 251;refine (take_any HG.out HS.out).mono ?_;rintro e u1 ⟨rfl,q⟩;obtain ⟨r1,r2,r3,r4⟩:=HX.out _ _ q;obtain ⟨c0,c1,c2,c3⟩:=insO_cells r1;have d0:=place_at q;have d1:=q.free 22;have d2:=q.ltB;have G1:=Lib.hid q;clear q r1 r2 r3 r4))
 go_end0
 exact ⟨rfl,(HX.out _ _ G1.out).2.2.2⟩
theorem move_13n (h:Gm W F0 b K w m) (n:Int) (x:Nat) {y:Nat} {s:List Nat} (hs:m.st=y::s) (ht:trueB y=false):Calls Tryz.prog 237 #[.pointer (some ⟨b,0,none⟩),.agg #[.int .i64 13,.int .i64 n,.float .f64 x]] w fun r w'=>r=.returned (.tuple #[])∧Gm W F0 b K w' { m with place:=n,st:=s }:=by
 obtain ⟨F,h1,hX⟩:=h.enter (insO ⟨13,n,x⟩)
 have HG:=Lib.hid h1
 have HX:=Lib.hid hX
 have HS:=Lib.hid hs
 have HT:Hid (∀ w,_):=fun w=>true_any y w
 rw [ht] at HT
 clear h h1 hX hs ht
 go_enter Tryz.func237,Tryz.ntmps237
 go_wp2_with (first
  | (go_at_call 256;refine (HT.out _).mono ?_;rintro e u ⟨rfl,hu⟩;subst u)
  | (go_at_call 251;refine (take_any HG.out HS.out).mono ?_;rintro e u1 ⟨rfl,q⟩;obtain ⟨r1,r2,r3,r4⟩:=HX.out _ _ q;obtain ⟨c0,c1,c2,c3⟩:=insO_cells r1;have d0:=place_at q;have d1:=q.free 22;have d2:=q.ltB;have G1:=Lib.hid q;clear q r1 r2 r3 r4))
 go_end0
 exact ⟨rfl,(HX.out _ _ (place_set G1.out n)).2.2.2⟩
theorem move_14 (h:Gm W F0 b K w m) (n:Int) (x:Nat) (hc:m.calls.length<16):Calls Tryz.prog 237 #[.pointer (some ⟨b,0,none⟩),.agg #[.int .i64 14,.int .i64 n,.float .f64 x]] w fun r w'=>r=.returned (.tuple #[])∧Gm W F0 b K w' { m with calls:=m.place::m.calls,place:=n }:=by
 obtain ⟨F,h1,hX⟩:=h.enter (insO ⟨14,n,x⟩)
 have HG:=Lib.hid h1
 have HX:=Lib.hid hX
 obtain ⟨p,hm,ht,hk⟩:=id h1
 have h21:(w.alloc (insO ⟨14,n,x⟩)).cell? ⟨b,21,none⟩=some (.pointer (some ⟨p.bc,0,none⟩)):=(hm.cell 21).trans rfl
 have h22:=place_at h1
 have hb:=h.ltB
 have hp:=hm.cal
 have HP:Hid (∀ q,Calls Tryz.prog 257 #[.pointer (some ⟨p.bc,0,none⟩),.int .i64 m.place] ((w.alloc (insO ⟨14,n,x⟩)).drewN q) fun e w'=>e=.returned (.int .i64 0)∧Gm (w.alloc (insO ⟨14,n,x⟩)) F b K w' { m with calls:=m.place::m.calls }):=fun q=>by
  refine (iPush_any (hp.same (Same.drewN _ q)) m.place).mono fun e w' ⟨F',he,a1,a2⟩=>⟨?_,?_⟩
  ·rw [he]
   simp [pushE]
   omega
  ·rw [show pushL m.calls.reverse 16 m.place=(m.place::m.calls).reverse by simp [pushL];omega] at a1
   obtain ⟨b1,b2⟩:=(hm.same (Same.drewN _ q)).putC a1 a2
   exact ⟨_,b1,(ht.trans ((Same.drewN _ q).turn _)).trans b2,hk⟩
 clear h h1 hX hm ht hk hp hc
 go_enter Tryz.func237,Tryz.ntmps237
 go_wp2
 refine region_tail 8 (by kernel_rfl) ?_
 simp only [List.take_succ_cons,List.take_zero,List.drop_succ_cons,List.drop_zero]
 repeat still_step
 refine wpStill_nil ?_
 go_wp2_with (go_at_call 257;refine (HP.out 1).mono ?_;rintro e u1 ⟨rfl,q⟩;obtain ⟨r1,r2,r3,r4⟩:=HX.out _ _ q;obtain ⟨c0,c1,c2,c3⟩:=insO_cells r1;have d0:=place_at q;have d1:=q.free 22;have d2:=q.ltB;have G1:=Lib.hid q;clear q r1 r2 r3 r4 HP)
 go_end0
 exact ⟨rfl,(HX.out _ _ (place_set G1.out n)).2.2.2⟩
end
end Go.Proofs.YtlkldgopliablaaGreatDoor
namespace Go.Proofs.YtlkldgopliablaaGreatDoor
open Go.ChangeShapes Go.WideShapes Go.ChangeAt Go.RowKit Num
attribute [local go_sem] run_store_float
section
variable {W w:World} {b:Nat} {F0 K:List Nat} {m:Mac}
theorem reckon_8 (h:Gm W F0 b K w m) (n:Int) (x:Nat) {k y:Nat} {s:List Nat} (hn:n=(k:Int)) (h0:k<8) (hs:m.st=y::s):Calls Tryz.prog 238 #[.pointer (some ⟨b,0,none⟩),.agg #[.int .i64 8,.int .i64 n,.float .f64 x]] w fun r w'=>r=.returned (.tuple #[])∧Gm W F0 b K w' { m with loc:=updF m.loc k y,st:=s }:=by
 obtain ⟨F,h1,hX⟩:=h.enter (insO ⟨8,n,x⟩)
 have HG:=Lib.hid h1
 have HX:=Lib.hid hX
 subst hn
 have HS:=Lib.hid hs
 have H0:=Lib.hid h0
 have hb:=h.ltB
 have hk8:(k:Int)<8:=by omega
 clear h h1 hX hs h0
 go_enter Tryz.func238,Tryz.ntmps238
 go_wp2
 go_region_held (fun w'=>w'.cell? ⟨w.heap.size,1,none⟩=some (.int .i64 (k:Int))) (first | go_keep | assumption) (first
  | (go_at_call 251;refine (take_any (HG.out.drewN 1) HS.out).mono ?_;rintro e u1 ⟨rfl,q⟩;obtain ⟨r1,r2,r3,r4⟩:=HX.out _ _ q;obtain ⟨c0,c1,c2,c3⟩:=insO_cells r1;have d0:=loc_at q H0.out;have c9:(u1.setCell ⟨b,12+k,none⟩ (.float .f64 y)).cell? ⟨w.heap.size,1,none⟩=some (.int .i64 (k:Int)):=(World.cell?_of_block (a:=⟨w.heap.size,1,none⟩) (heap_setCell_other _ _ _ _ (by simp;omega))).trans c1;have d1:=q.free (12+k);have d2:=q.ltB;have G1:=Lib.hid q;clear q r1 r2 r3 r4))
 all_goals (try go_wp2)
 all_goals go_end0
 all_goals exact ⟨rfl,(HX.out _ _ (loc_set G1.out H0.out y)).2.2.2⟩
theorem reckon_9 (h:Gm W F0 b K w m) (n:Int) (x:Nat) {y:Nat} {s:List Nat} (hn:1≤n∧n≤8) (hy:okN y) (hs:m.st=y::s) (hl:s.length<64):Calls Tryz.prog 238 #[.pointer (some ⟨b,0,none⟩),.agg #[.int .i64 9,.int .i64 n,.float .f64 x]] w fun r w'=>r=.returned (.tuple #[])∧Gm W F0 b K w' { m with st:=oneV n y::s }:=by
 obtain ⟨F,h1,hX⟩:=h.enter (insO ⟨9,n,x⟩)
 have HG:=Lib.hid h1
 have HX:=Lib.hid hX
 have HS:=Lib.hid hs
 have HN:=Lib.hid (And.intro hn (And.intro hy hl))
 have hb:=h.ltB
 clear h h1 hX hs hn hy hl
 go_enter Tryz.func238,Tryz.ntmps238
 go_wp2
 go_region_held (fun w'=>w'.cell? ⟨w.heap.size,1,none⟩=some (.int .i64 n)) (go_keep) (first
  | (go_at_call 258;refine (one_any HN.out.1 HN.out.2.1 _).mono ?_;rintro e u2 ⟨rfl,q⟩;have q2:=G1.out.on q;obtain ⟨r1,r2,r3,r4⟩:=HX.out _ _ q2;obtain ⟨e0,e1,e2,e3⟩:=insO_cells r1;have G2:=Lib.hid q2;clear q q2 r1 r2 r3 r4)
  | (go_at_call 251;refine (take_any (HG.out.drewN 1) HS.out).mono ?_;rintro e u1 ⟨rfl,q⟩;obtain ⟨r1,r2,r3,r4⟩:=HX.out _ _ q;obtain ⟨c0,c1,c2,c3⟩:=insO_cells r1;have G1:=Lib.hid q;clear q r1 r2 r3 r4))
 all_goals go_wp2_with (go_at_call 240;refine (lay_any G2.out _ HN.out.2.2).mono ?_;rintro e u3 ⟨rfl,q⟩;have G3:=Lib.hid q;clear q)
 all_goals go_end0
 all_goals exact ⟨rfl,(HX.out _ _ G3.out).2.2.2⟩
theorem reckon_10 (h:Gm W F0 b K w m) (n:Int) (x:Nat) {y z:Nat} {s:List Nat} (hn:1≤n∧n≤12) (hy:okN y) (hz:okN z) (hs:m.st=y::z::s) (hl:s.length<64):Calls Tryz.prog 238 #[.pointer (some ⟨b,0,none⟩),.agg #[.int .i64 10,.int .i64 n,.float .f64 x]] w fun r w'=>r=.returned (.tuple #[])∧Gm W F0 b K w' { m with st:=twoV n z y::s }:=by
 obtain ⟨F,h1,hX⟩:=h.enter (insO ⟨10,n,x⟩)
 have HG:=Lib.hid h1
 have HX:=Lib.hid hX
 have HS:=Lib.hid hs
 have HN:=Lib.hid (And.intro hn (And.intro hy (And.intro hz hl)))
 have hb:=h.ltB
 clear h h1 hX hs hn hy hz hl
 go_enter Tryz.func238,Tryz.ntmps238
 go_wp2_with (first
  | (go_at_call 240;refine (lay_any G3.out _ HN.out.2.2.2).mono ?_;rintro e u4 ⟨rfl,q⟩;have G4:=Lib.hid q;clear q)
  | (go_at_call 259;refine (two_any HN.out.1 HN.out.2.2.1 HN.out.2.1 _).mono ?_;rintro e u3 ⟨rfl,q⟩;have G3:=Lib.hid (G2.out.on q);clear q)
  | (go_at_call 251;refine (take_any G1.out rfl).mono ?_;rintro e u2 ⟨rfl,q⟩;obtain ⟨r1,r2,r3,r4⟩:=HX.out _ _ q;obtain ⟨c0,c1,c2,c3⟩:=insO_cells r1;have G2:=Lib.hid q;clear q r1 r2 r3 r4)
  | (go_at_call 251;refine (take_any HG.out HS.out).mono ?_;rintro e u_G1 ⟨rfl,q⟩;have G1:=Lib.hid q;clear q))
 go_end0
 exact ⟨rfl,(HX.out _ _ G4.out).2.2.2⟩
end
end Go.Proofs.YtlkldgopliablaaGreatDoor
namespace Go.Proofs.YtlkldgopliablaaGreatDoor
open Go.ChangeShapes Go.WideShapes Go.ChangeAt Go.RowKit Num
attribute [local go_sem] run_store_float
theorem at_of {v:Value} {g n c H B:Nat} (h:v.ownBlock=some g∨g=H) (hB:B≤H):(Value.slice (some ⟨g,0,none⟩) n c).ownBlock=v.ownBlock∨∃ s,(Value.slice (some ⟨g,0,none⟩) n c).ownBlock=some s∧B≤s:=by
 rcases h with h | h
 ·exact .inl h.symm
 ·exact .inr ⟨g,rfl,by omega⟩
section
variable {W w:World} {b:Nat} {F0 K:List Nat} {m:Mac}
theorem take_at {p:Pt} (hm:MacAt w b m p) {x:Nat} {s:List Nat} (hs:m.st=x::s):Calls Tryz.prog 251 #[.pointer (some ⟨b,0,none⟩)] w fun e w'=>∃ F',e=.returned (.float .f64 x)∧MacAt w' b { m with st:=s } { p with Fn:=F' }∧Turn (p.F b) ({ p with Fn:=F' }.F b) w w':=by
 have h20:w.cell? ⟨b,20,none⟩=some (.pointer (some ⟨p.bn,0,none⟩)):=(hm.cell 20).trans rfl
 have hb:=hm.ltB
 have HP:=Lib.hid (fPop_some (m:=s.reverse) (x:=x) (by have:=hm.num;rw [hs,List.reverse_cons] at this;exact this))
 have HD:Hid (∀ F' w',NStk w' p.bn F' s.reverse→Turn p.Fn F' w w'→MacAt w' b { m with st:=s } { p with Fn:=F' }∧Turn (p.F b) ({ p with Fn:=F' }.F b) w w'):=fun F' w' q1 q2=>hm.putN q1 q2
 clear hm
 go_enter Tryz.func251,Tryz.ntmps251
 go_wp2_with (go_at_call 271;refine HP.out.mono ?_;rintro e w1 ⟨F',rfl,q1,q2⟩;have HQ:=Lib.hid (HD.out _ _ q1 q2);clear q1 q2 HD HP)
 go_ret
 exact ⟨F',rfl,HQ.out⟩
theorem reckon_18 (h:Gm W F0 b K w m) (n:Int) (x:Nat) {y:Nat} {s:List Nat} (hs:m.st=y::s) (hl:m.out.length≤1024):Calls Tryz.prog 238 #[.pointer (some ⟨b,0,none⟩),.agg #[.int .i64 18,.int .i64 n,.float .f64 x]] w fun r w'=>r=.returned (.tuple #[])∧Gm W F0 b K w' { m with out:=m.out ++ [y],st:=s }:=by
 obtain ⟨F,h1,hX⟩:=h.enter (insO ⟨18,n,x⟩)
 have HX:=Lib.hid hX
 obtain ⟨p,hm,ht,hk⟩:=h1
 have hb:=h.ltB
 have h24:w.cell? ⟨b,24,none⟩=some (.slice p.po m.out.length p.co):=((below_alloc w (insO ⟨18,n,x⟩)).cell (p:=⟨b,24,none⟩) hb).symm.trans ((hm.cell 24).trans rfl)
 have HM:=Lib.hid (hm.same (Same.drew _))
 have HT:Hid (Turn F (p.F b) (w.alloc (insO ⟨18,n,x⟩)) (w.alloc (insO ⟨18,n,x⟩)).drew∧K=fpR p.pk):=⟨ht.trans ((Same.drew _).turn _),hk⟩
 have HS:=Lib.hid (And.intro hs hl)
 obtain ⟨i0,hi,hz0,hz1,hz2⟩:=info_parts fInfo
 have HZI:=Lib.hid (And.intro hi (And.intro hz0 (And.intro hz1 hz2)))
 clear h hX hm ht hk hs hl hi hz0 hz1 hz2
 go_enter Tryz.func238,Tryz.ntmps238
 go_wp2
 go_region_law (first
  | (go_simp;go_at_call 251;refine (take_at HM.out HS.out.1).mono ?_;rintro e u1 ⟨F',rfl,q1,q2⟩;have c24:u1.cell? ⟨b,24,none⟩=some (.slice p.po m.out.length p.co):=(q1.cell 24).trans rfl;have f24:=q1.free 24;have l24:=q1.ltB;have HO:Hid ((u1.alloc (.cells #[.float .f64 y] 71)).ownsRow 0 71 1 (.slice p.po m.out.length p.co) m.out.length (fls m.out)):=World.ownsRow.alloc (by have:=q1.out.own;rw [fls_len] at this;exact this) _;have G1:=Lib.hid (And.intro q1 q2);clear q1 q2)
  | (refine step_append_lies _ (by rfl) _ _ _ (by rfl) 0 71 i0 (.float .f64 0) 1 8 Tryz.underlying24 HZI.out.1 HZI.out.2.1 HZI.out.2.2.1 HZI.out.2.2.2 rfl (by omega) _ m.out.length (fls m.out) (by rfl) HO.out ⟨u1.heap.size,0,none⟩ 1 1 [.float .f64 y] (by rfl) (by rfl) (cell_one_new _ _ _) (by simp [Value.oneCell']) (by omega) (by have:=HS.out.2;unfold maxLen;omega) (by have:=HS.out.2;omega) (by omega) (u1.heap.size+1) (by simp) ?_;intro g5 cap5 w5 hown5 hgrow5 hat5 hlt5;obtain ⟨p5,c5,e5,b5,k5,t5⟩:=G1.out.1.putO hown5 ((World.grownBy_alloc u1 _ _).trans hgrow5) (at_of hat5 (by omega));have c25:w5.cell? ⟨b,24,none⟩=some (.slice p.po m.out.length p.co):=(cell_of_row w5 b 24 _ _ _ b5).trans rfl;have f25:=frozen_of_row w5 b 24 _ _ b5;have l25:=lt_of_block b5;have G5:=Lib.hid (And.intro k5 t5);clear e5 b5 k5 t5 hown5 hgrow5 hat5 hlt5))
 all_goals (try go_wp2)
 all_goals go_end0
 all_goals exact ⟨rfl,(HX.out _ _ ⟨_,G5.out.1,(HT.out.1.trans G1.out.2).trans G5.out.2,HT.out.2⟩).2.2.2⟩
end
end Go.Proofs.YtlkldgopliablaaGreatDoor
namespace Go.Proofs.YtlkldgopliablaaGreatDoor
open Go.ChangeShapes Go.WideShapes Go.ChangeAt Go.RowKit Num
attribute [local go_sem] run_store_float
abbrev askO (k:Ask):Obj:=.cells #[.int .i64 k.kind,.int .i64 k.cell,.float .f64 k.x,.bool k.first] 165
theorem askO_cells {w:World} {g:Nat} {k:Ask} (h:w.heap[g]?=some (askO k)):(w.cell? ⟨g,0,none⟩=some (.int .i64 k.kind)∧w.cell? ⟨g,1,none⟩=some (.int .i64 k.cell)∧w.cell? ⟨g,2,none⟩=some (.float .f64 k.x)∧w.cell? ⟨g,3,none⟩=some (.bool k.first)∧g<w.heap.size)∧w.frozen? ⟨g,0,none⟩=false∧w.frozen? ⟨g,1,none⟩=false∧w.frozen? ⟨g,2,none⟩=false∧w.frozen? ⟨g,3,none⟩=false :=
 ⟨⟨by rw [cell_of_row w g 0 _ _ _ h];rfl,by rw [cell_of_row w g 1 _ _ _ h];rfl,by rw [cell_of_row w g 2 _ _ _ h];rfl,by rw [cell_of_row w g 3 _ _ _ h];rfl,lt_of_block h⟩,frozen_of_row w g 0 _ _ h,frozen_of_row w g 1 _ _ h,frozen_of_row w g 2 _ _ h,frozen_of_row w g 3 _ _ h⟩
theorem askO_set {w:World} {g:Nat} {k k':Ask} (h:w.heap[g]?=some (askO k)):((((w.setCell ⟨g,0,none⟩ (.int .i64 k'.kind)).setCell ⟨g,1,none⟩ (.int .i64 k'.cell)).setCell ⟨g,2,none⟩ (.float .f64 k'.x)).setCell ⟨g,3,none⟩ (.bool k'.first)).heap[g]?=some (askO k'):=by
 have e1:=heap_setCell_same w g 0 _ _ (.int .i64 k'.kind) h
 have e2:=heap_setCell_same _ g 1 _ _ (.int .i64 k'.cell) e1
 have e3:=heap_setCell_same _ g 2 _ _ (.float .f64 k'.x) e2
 exact (heap_setCell_same _ g 3 _ _ (.bool k'.first) e3).trans rfl
section
variable {W w:World} {b:Nat} {F0 K:List Nat} {m:Mac}
theorem Gm.leave (h:Gm W F0 b K w m) (o:Obj) {g:Nat} (hg:g=w.heap.size):∃ F,Gm (w.alloc o) F b K (w.alloc o) m∧∀ w' m',Gm (w.alloc o) F b K w' m'→w'.heap[g]?=some o∧∀ w'',Turn [g] [g] w' w''→Gm W F0 b K w'' m':=by
 subst hg
 obtain ⟨F,hM,hT⟩:=h.mc
 refine ⟨F,(hM.on (below_alloc w o)).gm,fun w' m' hg=>⟨(hg.far (by simp) (fun q=>absurd (hM.blw _ q) (Nat.lt_irrefl _))).trans (heap_alloc_new w o),fun w'' t=>?_⟩⟩
 obtain ⟨p,h1,h2,h3⟩:=hg
 have n1:w.heap.size∉p.F b:=fun q=>(h2.own _ q).elim (fun z=>absurd (hM.blw _ z) (Nat.lt_irrefl _)) (fun z=>by simp at z;omega)
 have n2:w.heap.size∉fpR p.pk:=fun q=>by rw [← h3] at q;exact absurd (hM.blwK _ q) (Nat.lt_irrefl _)
 have a1:Sep (p.F b) [w.heap.size]:=fun k hk q=>n1 (by simp at q;rw [← q];exact hk)
 have a2:Sep (fpR p.pk) [w.heap.size]:=fun k hk q=>n2 (by simp at q;rw [← q];exact hk)
 have hs:w.heap.size≤w'.heap.size:=Nat.le_trans (by simp) h2.size
 refine ⟨p,h1.keep (t.kept a1 h1.blw) (t.kept a2 h1.ltk),hT.trans ⟨t.os.trans h2.os,t.tape.trans h2.tape,t.output.trans h2.output,Nat.le_trans hs t.size,fun k hk hf=>?_,fun k hk=>?_⟩,h3⟩
 ·exact (t.block k (Nat.lt_of_lt_of_le hk hs) (by simp;omega)).trans ((h2.block k (by simp;omega) hf).trans (heap_alloc_old w o hk))
 ·exact (h2.own k hk).imp id (fun z=>by simp at z;omega)
theorem turn4 (w:World) (g:Nat) (v0 v1 v2 v3:Value):Turn [g] [g] w ((((w.setCell ⟨g,0,none⟩ v0).setCell ⟨g,1,none⟩ v1).setCell ⟨g,2,none⟩ v2).setCell ⟨g,3,none⟩ v3) :=
 (((turn_set w g 0 v0).trans (turn_set _ g 1 v1)).trans (turn_set _ g 2 v2)).trans (turn_set _ g 3 v3)
theorem ret_end (h:Gm W F0 b K w m) (hc:m.calls=[]):Calls Tryz.prog 236 #[.pointer (some ⟨b,0,none⟩)] w fun r w'=>r=.returned (askV askEnd)∧Gm W F0 b K w' { m with how:=1,cod:=0,err:=0 }:=by
 obtain ⟨F,h1,hX⟩:=h.leave (askO ask0) rfl
 obtain ⟨p,hm,ht,hk⟩:=id h1
 have hb:=h.ltB
 have h21:w.cell? ⟨b,21,none⟩=some (.pointer (some ⟨p.bc,0,none⟩)):=((below_alloc w (askO ask0)).cell (p:=⟨b,21,none⟩) hb).symm.trans ((hm.cell 21).trans rfl)
 have hp:=hm.cal
 rw [hc] at hp
 have HP:=Lib.hid (iPop_none hp)
 have HG:=Lib.hid h1
 have HX:=Lib.hid hX
 clear h h1 hX hm ht hk hp hc
 go_enter Tryz.func236,Tryz.ntmps236
 go_wp2_with (first
  | (go_at_call 223;refine (ends_any HG.out 1 0 0).mono ?_;rintro e u1 ⟨rfl,q⟩;obtain ⟨r1,r2⟩:=HX.out _ _ q;obtain ⟨⟨c0,c1,c2,c3,c4⟩,d0,d1,d2,d3⟩:=askO_cells r1;have G1:=Lib.hid (And.intro r1 r2);clear q r1 r2;unfold askV)
  | (go_at_call 255;refine HP.out.mono ?_;rintro e u ⟨rfl,hu⟩;subst u))
 exact ask_back rfl w.heap.size askEnd rfl (askO_set G1.out.1) rfl ⟨rfl,G1.out.2 _ (turn4 _ _ _ _ _ _)⟩
theorem ret_back (h:Gm W F0 b K w m) {c:Int} {r:List Int} (hc:m.calls=c::r):Calls Tryz.prog 236 #[.pointer (some ⟨b,0,none⟩)] w fun e w'=>e=.returned (askV ask0)∧Gm W F0 b K w' { m with calls:=r,place:=c }:=by
 obtain ⟨F,h1,hX⟩:=h.leave (askO ask0) rfl
 obtain ⟨p,hm,ht,hk⟩:=id h1
 have hb:=h.ltB
 have h21:w.cell? ⟨b,21,none⟩=some (.pointer (some ⟨p.bc,0,none⟩)):=((below_alloc w (askO ask0)).cell (p:=⟨b,21,none⟩) hb).symm.trans ((hm.cell 21).trans rfl)
 have hp:=hm.cal
 rw [hc,List.reverse_cons] at hp
 have HP:Hid (Calls Tryz.prog 255 #[.pointer (some ⟨p.bc,0,none⟩)] (w.alloc (askO ask0)) fun e w'=>e=.returned (.tuple #[.int .i64 c,.int .i64 0])∧Gm (w.alloc (askO ask0)) F b K w' { m with calls:=r }):=(iPop_some hp).mono fun e w' ⟨F',he,a1,a2⟩=>by
  obtain ⟨b1,b2⟩:=hm.putC a1 a2
  exact ⟨he,_,b1,ht.trans b2,hk⟩
 have HX:=Lib.hid hX
 clear h h1 hX hm ht hk hp hc
 go_enter Tryz.func236,Tryz.ntmps236
 go_wp2_with (first
  | (go_at_call 255;refine HP.out.mono ?_;rintro e u1 ⟨rfl,q⟩;have d0:=place_at q;have d1:=q.free 22;have d2:=q.ltB;have q2:=place_set q c;obtain ⟨r1,r2⟩:=HX.out _ _ q2;obtain ⟨⟨c0,c1,c2,c3,c4⟩,e0,e1,e2,e3⟩:=askO_cells r1;have G1:=Lib.hid (And.intro r1 r2);clear q q2 r1 r2 HP))
 exact ask_back rfl w.heap.size ask0 rfl (askO_set (k':=ask0) G1.out.1) rfl ⟨rfl,G1.out.2 _ (turn4 _ _ (.int .i64 0) (.int .i64 0) (.float .f64 0) (.bool false))⟩
end
end Go.Proofs.YtlkldgopliablaaGreatDoor
namespace Go.Proofs.YtlkldgopliablaaGreatDoor
open Go.ChangeShapes Go.WideShapes Go.ChangeAt Go.RowKit Num
attribute [local go_sem] run_store_float
def Done (W:World) (F0:List Nat) (b:Nat) (K:List Nat) (m:Mac) (res:Mac × Ask) (r:Ending) (w':World):Prop :=
 (∃ e,res=failM m e∧r=gaveM e∧Gm W F0 b K w' m)∨(r=.returned (askV res.2)∧Gm W F0 b K w' res.1)
section
variable {W w:World} {b:Nat} {F0 K:List Nat} {m:Mac}
theorem Gm.buf (h:Gm W F0 b K w m):∃ bw Fw,w.cell? ⟨b,26,none⟩=some (.pointer (some ⟨bw,0,none⟩))∧Buf w bw Fw m.wmax m.buf∧∀ w' l F',Buf w' bw F' m.wmax l→Turn Fw F' w w'→Gm W F0 b K w' { m with buf:=l }:=by
 obtain ⟨p,hm,ht,hk⟩:=h
 refine ⟨p.bw,p.Fw,(hm.cell 26).trans rfl,hm.wri,fun w' l F' h1 h2=>?_⟩
 obtain ⟨a1,a2⟩:=hm.putW h1 h2
 exact ⟨_,a1,ht.trans a2,hk⟩
theorem address_yes (h:Gm W F0 b K w m) (hs:0<m.st.length) (ha:addrB m=true):Calls Tryz.prog 250 #[.pointer (some ⟨b,0,none⟩)] w fun r w'=>r=.returned (.int .i64 (addrV m))∧Same w w' :=
 (address_any h hs).mono fun _ _ ⟨a1,a2⟩=>⟨by rw [a1,ha];rfl,a2⟩
theorem address_no (h:Gm W F0 b K w m) (hs:0<m.st.length) (ha:addrB m=false):Calls Tryz.prog 250 #[.pointer (some ⟨b,0,none⟩)] w fun r w'=>r=gaveM 50∧Same w w' :=
 (address_any h hs).mono fun _ _ ⟨a1,a2⟩=>⟨by rw [a1,ha];rfl,a2⟩
theorem Gm.waits (h:Gm W F0 b K w m) (c:Int) (hc:0≤c):Gm W F0 b K ((w.setCell ⟨b,27,none⟩ (.bool true)).setCell ⟨b,28,none⟩ (.int .i64 c)) { m with wait:=c }:=by
 obtain ⟨p,h1,h2,h3⟩:=h
 have t:=(turn_set w b 27 (.bool true)).trans (turn_set _ b 28 (.int .i64 c))
 have kk:=h1.others (i:=0) t
 refine ⟨{ p with wt:=c },⟨?_,h1.num.keep (kk 1 (by omega)),h1.cal.keep (kk 2 (by omega)),h1.wri.keep (kk 3 (by omega)),h1.out.keep (kk 4 (by omega)),h1.rds.keep (kk 5 (by omega)),h1.cod.keep (kk 6 (by omega)),h1.ltk' t.size,fun _=>rfl,h1.apart⟩,h2.trans (Turn.part (L:=p.own b) (i:=0) t),h3⟩
 have e1:=heap_setCell_same w b 27 _ _ (.bool true) h1.box
 refine (heap_setCell_same _ b 28 _ _ (.int .i64 c) e1).trans ?_
 unfold boxV
 rw [decide_eq_true hc]
 rfl
theorem idx_wf (y:Nat) {n:Int} (hn:n≤256) (h:idxB y n=true):0≤idxV y n∧idxV y n<n∧(Lit.int .i64 (idxV y n)).wf=true:=by
 have h2:(truncN y:Int)<n:=by
  unfold idxB at h
  simp only [Bool.and_eq_true,decide_eq_true_eq] at h
  exact h.2
 unfold idxV
 rw [if_pos h]
 refine ⟨by omega,h2,?_⟩
 have m1:IntKind.i64.min=-9223372036854775808:=by decide
 have m2:IntKind.i64.max=9223372036854775807:=by decide
 simp [Lit.wf]
 omega
theorem read_no (h:Gm W F0 b K w m) (hs:0<m.st.length) (ha:addrB m=false):Calls Tryz.prog 234 #[.pointer (some ⟨b,0,none⟩)] w fun r w'=>r=gaveM 50∧Gm W F0 b K w' m:=by
 have HG:=Lib.hid (h.alloc (askO ask0))
 have HA:=Lib.hid (address_no (h.alloc (askO ask0)) hs ha)
 clear h hs ha
 go_enter Tryz.func234,Tryz.ntmps234
 go_wp2_with (go_at_call 250;refine HA.out.mono ?_;rintro e u ⟨rfl,q⟩;have HQ:=Lib.hid (HG.out.same q);clear q)
 exact ⟨rfl,rfl,HQ.out⟩
theorem wait_at (h:Gm W F0 b K w m):w.cell? ⟨b,27,none⟩=some (.bool (decide (0≤m.wait)))∧∃ z,w.cell? ⟨b,28,none⟩=some (.int .i64 z):=by
 obtain ⟨p,hm,_,_⟩:=h
 exact ⟨(hm.cell 27).trans rfl,p.wt,(hm.cell 28).trans rfl⟩
theorem upd_at (h:Gm W F0 b K w m):w.cell? ⟨b,2,none⟩=some (.bool m.upd):=by
 obtain ⟨p,hm,_,_⟩:=h
 exact (hm.cell 2).trans rfl
theorem read_own (h:Gm W F0 b K w m) {y:Nat} {s:List Nat} (hs:m.st=y::s) (hl:s.length<64) (hr:m.reads.length≤1024) (hcl:m.cells≤256) (ha:addrB m=true) (hh:hasC m.buf (addrV m)=true):Calls Tryz.prog 234 #[.pointer (some ⟨b,0,none⟩)] w fun r w'=>r=.returned (askV (readM m).2)∧Gm W F0 b K w' (readM m).1:=by
 have e:readM m=(hasRead { m with st:=s } (addrV m) (getC m.buf (addrV m)),⟨2,addrV m,getC m.buf (addrV m),false⟩):=by unfold readM;rw [ha,hh,hs];rfl
 rw [e]
 obtain ⟨F,h1,hX⟩:=h.leave (askO ask0) rfl
 have HG:=Lib.hid h1
 have HX:=Lib.hid hX
 have HA:=Lib.hid (address_yes h1 (by rw [hs];simp) ha)
 have HW:Hid ((Lit.int .i64 (addrV m)).wf=true):=(idx_wf _ hcl ha).2.2
 have HS:=Lib.hid (And.intro hs (And.intro hl hr))
 clear h h1 hX hs hl hr e hcl ha
 generalize addrV m=c at *
 go_enter Tryz.func234,Tryz.ntmps234
 go_wp2_with (first
  | (go_at_call 226;refine (hasRead_any G1.out c _ HS.out.2.1 HS.out.2.2).mono ?_;rintro e u3 ⟨rfl,q⟩;obtain ⟨r1,r2⟩:=HX.out _ _ q;obtain ⟨⟨c0,c1,c2,c3,c4⟩,e0,e1,e2,e3⟩:=askO_cells r1;have G3:=Lib.hid (And.intro r1 r2);clear q r1 r2)
  | (go_at_call 252;refine (get_any HBU.out HW.out).mono ?_;rw [hh];rintro e u ⟨rfl,hu⟩;subst u)
  | (go_at_call 251;refine (take_any G0.out HS.out.1).mono ?_;rintro e u1 ⟨rfl,q⟩;have d1:=q.ltB;obtain ⟨bw,Fw,d0,hbu,_⟩:=q.buf;have HBU:=Lib.hid hbu;have G1:=Lib.hid q;clear q hbu)
  | (go_at_call 250;refine HA.out.mono ?_;rintro e u0 ⟨rfl,q⟩;have G0:=Lib.hid (HG.out.same q);clear q))
 exact ask_back rfl w.heap.size ⟨2,c,getC m.buf c,false⟩ rfl (askO_set (k':=⟨2,c,getC m.buf c,false⟩) G3.out.1) rfl (⟨rfl,G3.out.2 _ (turn4 _ _ (.int .i64 2) (.int .i64 c) (.float .f64 (getC m.buf c)) (.bool false))⟩)
theorem read_wait (h:Gm W F0 b K w m) {y:Nat} {s:List Nat} (hs:m.st=y::s) (hcl:m.cells≤256) (ha:addrB m=true) (hh:hasC m.buf (addrV m)=false):Calls Tryz.prog 234 #[.pointer (some ⟨b,0,none⟩)] w fun r w'=>r=.returned (askV (readM m).2)∧Gm W F0 b K w' (readM m).1:=by
 have e:readM m=({ m with st:=s,wait:=addrV m },askRead (addrV m)):=by unfold readM;rw [ha,hh,hs];rfl
 rw [e]
 obtain ⟨F,h1,hX⟩:=h.leave (askO ask0) rfl
 have HG:=Lib.hid h1
 have HX:=Lib.hid hX
 have HA:=Lib.hid (address_yes h1 (by rw [hs];simp) ha)
 have HW:=Lib.hid (idx_wf _ hcl ha)
 change Hid (0≤addrV m∧addrV m<m.cells∧(Lit.int .i64 (addrV m)).wf=true) at HW
 have HS:=Lib.hid hs
 clear h h1 hX hs e hcl ha
 generalize addrV m=c at *
 go_enter Tryz.func234,Tryz.ntmps234
 go_wp2_with (first
  | (go_at_call 221;refine (wants_any G2.out HW.out.1).mono ?_;rintro e u3 ⟨rfl,q⟩;obtain ⟨r1,r2⟩:=HX.out _ _ (G2.out.on q);obtain ⟨⟨c0,c1,c2,c3,c4⟩,e0,e1,e2,e3⟩:=askO_cells r1;have G3:=Lib.hid (And.intro r1 r2);clear q r1 r2;unfold askV askRead)
  | (go_at_call 252;refine (get_any HBU.out HW.out.2.2).mono ?_;rw [hh];rintro e u ⟨rfl,hu⟩;subst u)
  | (go_at_call 251;refine (take_any G0.out HS.out).mono ?_;rintro e u1 ⟨rfl,q⟩;have d1:=q.ltB;obtain ⟨bw,Fw,d0,hbu,_⟩:=q.buf;have HBU:=Lib.hid hbu;obtain ⟨d3,d4⟩:=wait_at q;have d5:=q.free 27;have d6:=q.free 28;have G2:=Lib.hid (q.waits c HW.out.1);obtain ⟨zw,d7⟩:=d4;clear q hbu)
  | (go_at_call 250;refine HA.out.mono ?_;rintro e u0 ⟨rfl,q⟩;have G0:=Lib.hid (HG.out.same q);clear q))
 exact ask_back rfl w.heap.size (askRead c) rfl (askO_set (k':=askRead c) G3.out.1) rfl (⟨rfl,G3.out.2 _ (turn4 _ _ (.int .i64 1) (.int .i64 c) (.float .f64 0) (.bool false))⟩)
theorem write_ro (h:Gm W F0 b K w m) (hu:m.upd=false):Calls Tryz.prog 235 #[.pointer (some ⟨b,0,none⟩)] w fun r w'=>r=gaveM 81∧Gm W F0 b K w' m:=by
 have h2:=upd_at h
 rw [hu] at h2
 have hb:=h.ltB
 have HG:=Lib.hid (h.alloc (askO ask0))
 clear h hu
 go_enter Tryz.func235,Tryz.ntmps235
 go_wp2_with (go_at_call 239;refine (mustBe_no rfl 81 _).mono ?_;rintro e u ⟨rfl,hu⟩;subst u)
 exact ⟨rfl,rfl,HG.out⟩
theorem write_no (h:Gm W F0 b K w m) (hs:0<m.st.length) (hu:m.upd=true) (ha:addrB m=false):Calls Tryz.prog 235 #[.pointer (some ⟨b,0,none⟩)] w fun r w'=>r=gaveM 50∧Gm W F0 b K w' m:=by
 have h2:=upd_at h
 rw [hu] at h2
 have hb:=h.ltB
 have HG:=Lib.hid (h.alloc (askO ask0))
 have HA:=Lib.hid (address_no (h.alloc (askO ask0)) hs ha)
 clear h hu hs ha
 go_enter Tryz.func235,Tryz.ntmps235
 go_wp2_with (first
  | (go_at_call 250;refine HA.out.mono ?_;rintro e u ⟨rfl,q⟩;have HQ:=Lib.hid (HG.out.same q);clear q)
  | (go_at_call 239;refine (mustBe_yes rfl 81 _).mono ?_;rintro e u ⟨rfl,hu⟩;subst u))
 exact ⟨rfl,rfl,HQ.out⟩
theorem write_full (h:Gm W F0 b K w m) {y z:Nat} {s:List Nat} (hs:m.st=y::z::s) (_hz:okN z) (hcl:m.cells≤256) (hu:m.upd=true) (ha:addrB m=true) (hp:mayP m.wmax m.buf (addrV m)=false):Calls Tryz.prog 235 #[.pointer (some ⟨b,0,none⟩)] w fun r w'=>r=gaveM 70∧Gm W F0 b K w' m:=by
 have h2:=upd_at h
 rw [hu] at h2
 have hb:=h.ltB
 obtain ⟨F,h1,hX⟩:=h.leave (askO ask0) rfl
 have HG:=Lib.hid h1
 have HX:=Lib.hid hX
 have HA:=Lib.hid (address_yes h1 (by rw [hs];simp) ha)
 have HW:=Lib.hid (idx_wf _ hcl ha)
 change Hid (0≤addrV m∧addrV m<m.cells∧(Lit.int .i64 (addrV m)).wf=true) at HW
 have HS:=Lib.hid hs
 have HK:Hid (∀ u,Gm (w.alloc (askO ask0)) F b K u m→Calls Tryz.prog 253 #[.pointer (some ⟨b,0,none⟩),.int .i64 1] u fun e u'=>e=.returned (.float .f64 z)∧∃ q,u'=u.drewN q):=fun u hg=>by
  have:=pick_any hg 1 (by rw [hs];simp)
  rw [hs] at this
  exact this
 have HE:Hid (putE m.wmax m.buf (addrV m)=70∧putL m.wmax m.buf (addrV m) z=m.buf):=by unfold putE putL;rw [hp];exact ⟨rfl,rfl⟩
 clear h h1 hX hs hcl ha hu hp
 generalize addrV m=c at *
 go_enter Tryz.func235,Tryz.ntmps235
 go_wp2_with (first
  | (have t3:=G3.out;clear t3;go_at_call 239;refine (mustBe_no (by first | (simp;done) | rfl) 70 _).mono ?_;rintro e u ⟨rfl,hu⟩;subst u)
  | (go_at_call 254;refine (put_any HBU.out HW.out.2.2 z).mono ?_;rw [HE.out.1,HE.out.2];rintro e u3 ⟨F',rfl,a1,a2⟩;have G3:=Lib.hid (HBT.out _ _ _ a1 a2);clear a1 a2)
  | (go_at_call 253;refine (HK.out _ G0.out).mono ?_;rintro e u1 ⟨rfl,q,hq⟩;subst u1;have q1:=G0.out.drewN q;have d1:=q1.ltB;obtain ⟨bw,Fw,d0,hbu,hbt⟩:=q1.buf;have HBU:=Lib.hid hbu;have HBT:=Lib.hid hbt;clear q1 hbu hbt)
  | (go_at_call 250;refine HA.out.mono ?_;rintro e u0 ⟨rfl,q⟩;have G0:=Lib.hid (HG.out.same q);clear q)
  | (go_at_call 239;refine (mustBe_yes rfl 81 _).mono ?_;rintro e u ⟨rfl,hu⟩;subst u;have T1:=Lib.hid True.intro))
 exact ⟨rfl,rfl,(HX.out _ _ G3.out).2 _ (Turn.refl _ _)⟩
theorem write_ok (h:Gm W F0 b K w m) {y z:Nat} {s:List Nat} (hs:m.st=y::z::s) (hz:okN z) (hcl:m.cells≤256) (hu:m.upd=true) (ha:addrB m=true) (hp:mayP m.wmax m.buf (addrV m)=true):Calls Tryz.prog 235 #[.pointer (some ⟨b,0,none⟩)] w fun r w'=>r=.returned (askV (writeM m).2)∧Gm W F0 b K w' (writeM m).1:=by
 have e:writeM m=({ m with st:=s,buf:=putC m.buf (addrV m) z },⟨3,addrV m,z,!hasC m.buf (addrV m)⟩):=by unfold writeM;rw [hu,ha,hp,hs];rfl
 rw [e]
 have h2:=upd_at h
 rw [hu] at h2
 have hb:=h.ltB
 obtain ⟨F,h1,hX⟩:=h.leave (askO ask0) rfl
 have HG:=Lib.hid h1
 have HX:=Lib.hid hX
 have HA:=Lib.hid (address_yes h1 (by rw [hs];simp) ha)
 have HW:=Lib.hid (idx_wf _ hcl ha)
 change Hid (0≤addrV m∧addrV m<m.cells∧(Lit.int .i64 (addrV m)).wf=true) at HW
 have HS:=Lib.hid hs
 have HK:Hid (∀ u,Gm (w.alloc (askO ask0)) F b K u m→Calls Tryz.prog 253 #[.pointer (some ⟨b,0,none⟩),.int .i64 1] u fun e u'=>e=.returned (.float .f64 z)∧∃ q,u'=u.drewN q):=fun u hg=>by
  have:=pick_any hg 1 (by rw [hs];simp)
  rw [hs] at this
  exact this
 have HE:Hid (putE m.wmax m.buf (addrV m)=0∧putF m.wmax m.buf (addrV m)=(!hasC m.buf (addrV m))∧putL m.wmax m.buf (addrV m) z=putC m.buf (addrV m) z):=by
  unfold putE putF putL
  rw [hp,hz.1]
  refine ⟨rfl,?_,rfl⟩
  unfold mayP at hp
  cases hc:hasC m.buf (addrV m)
  ·rw [hc] at hp
   simpa using hp
  ·rfl
 clear h h1 hX hs e hcl ha hu hp hz
 generalize addrV m=c at *
 go_enter Tryz.func235,Tryz.ntmps235
 go_wp2_with (first
  | (go_at_call 251;refine (take_any G4.out rfl).mono ?_;rintro e u5 ⟨rfl,q⟩;obtain ⟨r1,r2⟩:=HX.out _ _ q;obtain ⟨⟨c0,c1,c2,c3,c4⟩,e0,e1,e2,e3⟩:=askO_cells r1;have G5:=Lib.hid (And.intro r1 r2);clear q r1 r2)
  | (go_at_call 251;refine (take_any G3.out HS.out).mono ?_;rintro e u4 ⟨rfl,q⟩;have G4:=Lib.hid q;clear q)
  | (have t3:=G3.out;clear t3;go_at_call 239;refine (mustBe_yes (by first | rfl | (simp;done)) 0 _).mono ?_;rintro e u ⟨rfl,hu⟩;subst u)
  | (go_at_call 254;refine (put_any HBU.out HW.out.2.2 z).mono ?_;rw [HE.out.1,HE.out.2.1,HE.out.2.2];rintro e u3 ⟨F',rfl,a1,a2⟩;have G3:=Lib.hid (HBT.out _ _ _ a1 a2);clear a1 a2)
  | (go_at_call 253;refine (HK.out _ G0.out).mono ?_;rintro e u1 ⟨rfl,q,hq⟩;subst u1;have q1:=G0.out.drewN q;have d1:=q1.ltB;obtain ⟨bw,Fw,d0,hbu,hbt⟩:=q1.buf;have HBU:=Lib.hid hbu;have HBT:=Lib.hid hbt;clear q1 hbu hbt)
  | (go_at_call 250;refine HA.out.mono ?_;rintro e u0 ⟨rfl,q⟩;have G0:=Lib.hid (HG.out.same q);clear q)
  | (go_at_call 239;refine (mustBe_yes rfl 81 _).mono ?_;rintro e u ⟨rfl,hu⟩;subst u;have T1:=Lib.hid True.intro))
 exact ask_back rfl w.heap.size ⟨3,c,z,!hasC m.buf c⟩ rfl (askO_set (k':=⟨3,c,z,!hasC m.buf c⟩) G5.out.1) rfl (⟨rfl,G5.out.2 _ (turn4 _ _ (.int .i64 3) (.int .i64 c) (.float .f64 z) (.bool (!hasC m.buf c)))⟩)
end
end Go.Proofs.YtlkldgopliablaaGreatDoor
namespace Go.Proofs.YtlkldgopliablaaGreatDoor
open Go.ChangeShapes Go.WideShapes Go.ChangeAt Go.RowKit Num
attribute [local go_sem] run_store_float
theorem insInfo:(Tryz.prog.info? 133).map (fun i=>(i.zero,i.size,i.bytes))=some (some (.agg #[.int .i64 0,.int .i64 0,.float .f64 0]),3,24):=by kernel_rfl
theorem cloneF_nil (w:World):Calls Tryz.prog 108 #[.slice none 0 0] w fun e w'=>e=.returned (.slice none 0 0)∧w'=w:=by
 have hq:=fun w=>Lib.run_eql_slice_nil (P:=Tryz.prog) w 24 71 none 0 0 0 0 Tryz.underlying24
 go_enter Tryz.func108,Tryz.ntmps108
 go_wp2
 go_ret
 exact ⟨rfl,rfl⟩
theorem cloneF_some {w:World} {g o c n:Nat} {sp:Option Nat} {xs:List Value} (hn:xs.length=n*1) (hx:∀ j u,xs[j]?=some u→w.cell? ((⟨g,o,sp⟩:Addr).add j)=some u) (h1:∀ u∈xs,u.oneCell'=true) (hz:n≤1024):Calls Tryz.prog 108 #[.slice (some ⟨g,o,sp⟩) n c] w fun e w'=>∃ p' c',e=.returned (.slice p' n c')∧w'.ownsRow w.heap.size 71 1 (.slice p' n c') n xs∧Below w.heap.size w w':=by
 have hq:=fun w c=>Lib.run_eql_slice_nil (P:=Tryz.prog) w 24 71 (some ⟨g,o,sp⟩) n c 0 0 Tryz.underlying24
 have HX:Hid (∀ j u,xs[j]?=some u→(w.alloc (.cells #[] 71)).cell? ((⟨g,o,sp⟩:Addr).add j)=some u):=fun j u hj=>((below_alloc w _).cell (World.block_lt_of_cell? w _ (hx j u hj))).trans (hx j u hj)
 have H1:=Lib.hid (And.intro h1 (And.intro hn hz))
 have HO:Hid ((w.alloc (.cells #[] 71)).ownsRow w.heap.size 71 1 (.slice (some ⟨w.heap.size,0,none⟩) 0 0) 0 []):=⟨rfl,.inr ⟨w.heap.size,0,#[],rfl,Nat.le_refl _,heap_alloc_new _ _,Nat.le_refl _,Nat.zero_le _,by simp,by simp⟩⟩
 obtain ⟨i0,hi,hz0,hz1,hz2⟩:=info_parts fInfo
 have HZI:=Lib.hid (And.intro hi (And.intro hz0 (And.intro hz1 hz2)))
 clear hi hz0 hz1 hz2 hx h1 hz hn
 go_enter Tryz.func108,Tryz.ntmps108
 go_wp2_with (at_builtin;refine wpList_append_own_at _ rfl _ _ 24 rfl w.heap.size 71 i0 (.float .f64 0) 1 8 Tryz.underlying24 HZI.out.1 HZI.out.2.1 HZI.out.2.2.1 HZI.out.2.2.2 rfl (by decide) _ 0 [] rfl HO.out ⟨g,o,sp⟩ n _ xs rfl H1.out.2.1 HX.out H1.out.1 (by have:=H1.out.2.2;unfold maxLen;omega) (by have:=H1.out.2.2;omega) (by simp) ?_;intro v w3 hown hgrow hnil hloc;have HS:=Lib.hid (And.intro hown hgrow);clear hown hgrow hnil hloc)
 have ho3:=HS.out.1
 rw [List.nil_append,Nat.zero_add] at ho3
 obtain ⟨p',c',hv,ha⟩:=owns_slice2 ho3
 subst hv
 have hb3:Below w.heap.size w w3:=(below_alloc w _).grown HS.out.2 (by simp) (fun j hj=>by
  have:=hj
  simp [Act.eval,Value.ownBlock] at this
  omega)
 have HF:=Lib.hid (And.intro ho3 hb3)
 clear ho3 ha hb3 HS H1
 go_wp2
 go_ret
 exact ⟨_,_,rfl,HF.out.1,HF.out.2⟩
theorem cloneT_nil (w:World):Calls Tryz.prog 127 #[.slice none 0 0] w fun e w'=>e=.returned (.slice none 0 0)∧w'=w:=by
 have hq:=fun w=>Lib.run_eql_slice_nil (P:=Tryz.prog) w 61 189 none 0 0 0 0 Tryz.underlying61
 go_enter Tryz.func127,Tryz.ntmps127
 go_wp2
 go_ret
 exact ⟨rfl,rfl⟩
theorem cloneT_some {w:World} {g o c n:Nat} {xs:List Value} (hn:xs.length=n*2) (hx:∀ j u,xs[j]?=some u→w.cell? ((⟨g,o,none⟩:Addr).add j)=some u) (h1:∀ u∈xs,u.oneCell'=true) (hz:n≤1024):Calls Tryz.prog 127 #[.slice (some ⟨g,o,none⟩) n c] w fun e w'=>∃ p' c',e=.returned (.slice p' n c')∧w'.ownsRow w.heap.size 189 2 (.slice p' n c') n xs∧Below w.heap.size w w':=by
 have hq:=fun w c=>Lib.run_eql_slice_nil (P:=Tryz.prog) w 61 189 (some ⟨g,o,none⟩) n c 0 0 Tryz.underlying61
 have HX:Hid (∀ j u,xs[j]?=some u→(w.alloc (.cells #[] 189)).cell? ((⟨g,o,none⟩:Addr).add j)=some u):=fun j u hj=>((below_alloc w _).cell (World.block_lt_of_cell? w _ (hx j u hj))).trans (hx j u hj)
 have H1:=Lib.hid (And.intro h1 (And.intro hn hz))
 have HO:Hid ((w.alloc (.cells #[] 189)).ownsRow w.heap.size 189 2 (.slice (some ⟨w.heap.size,0,none⟩) 0 0) 0 []):=⟨rfl,.inr ⟨w.heap.size,0,#[],rfl,Nat.le_refl _,heap_alloc_new _ _,Nat.le_refl _,Nat.zero_le _,by simp,by simp⟩⟩
 obtain ⟨i0,hi,hz0,hz1,hz2⟩:=info_parts tInfo
 have HZI:=Lib.hid (And.intro hi (And.intro hz0 (And.intro hz1 hz2)))
 clear hi hz0 hz1 hz2 hx h1 hz hn
 go_enter Tryz.func127,Tryz.ntmps127
 go_wp2_with (at_builtin;refine wpList_append_own_at _ rfl _ _ 61 rfl w.heap.size 189 i0 _ 2 16 Tryz.underlying61 HZI.out.1 HZI.out.2.1 HZI.out.2.2.1 HZI.out.2.2.2 rfl (by decide) _ 0 [] rfl HO.out ⟨g,o,none⟩ n _ xs rfl H1.out.2.1 HX.out H1.out.1 (by have:=H1.out.2.2;unfold maxLen;omega) (by have:=H1.out.2.2;omega) (by simp) ?_;intro v w3 hown hgrow hnil hloc;have HS:=Lib.hid (And.intro hown hgrow);clear hown hgrow hnil hloc)
 have ho3:=HS.out.1
 rw [List.nil_append,Nat.zero_add] at ho3
 obtain ⟨p',c',hv,ha⟩:=owns_slice2 ho3
 subst hv
 have hb3:Below w.heap.size w w3:=(below_alloc w _).grown HS.out.2 (by simp) (fun j hj=>by
  have:=hj
  simp [Act.eval,Value.ownBlock] at this
  omega)
 have HF:=Lib.hid (And.intro ho3 hb3)
 clear ho3 ha hb3 HS H1
 go_wp2
 go_ret
 exact ⟨_,_,rfl,HF.out.1,HF.out.2⟩
theorem cloneI_nil (w:World):Calls Tryz.prog 107 #[.slice none 0 0] w fun e w'=>e=.returned (.slice none 0 0)∧w'=w:=by
 have hq:=fun w=>Lib.run_eql_slice_nil (P:=Tryz.prog) w 134 133 none 0 0 0 0 Tryz.underlying134
 go_enter Tryz.func107,Tryz.ntmps107
 go_wp2
 go_ret
 exact ⟨rfl,rfl⟩
theorem cloneI_some {w:World} {g o c n:Nat} {xs:List Value} (hn:xs.length=n*3) (hx:∀ j u,xs[j]?=some u→w.cell? ((⟨g,o,none⟩:Addr).add j)=some u) (h1:∀ u∈xs,u.oneCell'=true) (hz:n≤1024):Calls Tryz.prog 107 #[.slice (some ⟨g,o,none⟩) n c] w fun e w'=>∃ p' c',e=.returned (.slice p' n c')∧w'.ownsRow w.heap.size 133 3 (.slice p' n c') n xs∧Below w.heap.size w w':=by
 have hq:=fun w c=>Lib.run_eql_slice_nil (P:=Tryz.prog) w 134 133 (some ⟨g,o,none⟩) n c 0 0 Tryz.underlying134
 have HX:Hid (∀ j u,xs[j]?=some u→(w.alloc (.cells #[] 133)).cell? ((⟨g,o,none⟩:Addr).add j)=some u):=fun j u hj=>((below_alloc w _).cell (World.block_lt_of_cell? w _ (hx j u hj))).trans (hx j u hj)
 have H1:=Lib.hid (And.intro h1 (And.intro hn hz))
 have HO:Hid ((w.alloc (.cells #[] 133)).ownsRow w.heap.size 133 3 (.slice (some ⟨w.heap.size,0,none⟩) 0 0) 0 []):=⟨rfl,.inr ⟨w.heap.size,0,#[],rfl,Nat.le_refl _,heap_alloc_new _ _,Nat.le_refl _,Nat.zero_le _,by simp,by simp⟩⟩
 obtain ⟨i0,hi,hz0,hz1,hz2⟩:=info_parts insInfo
 have HZI:=Lib.hid (And.intro hi (And.intro hz0 (And.intro hz1 hz2)))
 clear hi hz0 hz1 hz2 hx h1 hz hn
 go_enter Tryz.func107,Tryz.ntmps107
 go_wp2_with (at_builtin;refine wpList_append_own_at _ rfl _ _ 134 rfl w.heap.size 133 i0 _ 3 24 Tryz.underlying134 HZI.out.1 HZI.out.2.1 HZI.out.2.2.1 HZI.out.2.2.2 rfl (by decide) _ 0 [] rfl HO.out ⟨g,o,none⟩ n _ xs rfl H1.out.2.1 HX.out H1.out.1 (by have:=H1.out.2.2;unfold maxLen;omega) (by have:=H1.out.2.2;omega) (by simp) ?_;intro v w3 hown hgrow hnil hloc;have HS:=Lib.hid (And.intro hown hgrow);clear hown hgrow hnil hloc)
 have ho3:=HS.out.1
 rw [List.nil_append,Nat.zero_add] at ho3
 obtain ⟨p',c',hv,ha⟩:=owns_slice2 ho3
 subst hv
 have hb3:Below w.heap.size w w3:=(below_alloc w _).grown HS.out.2 (by simp) (fun j hj=>by
  have:=hj
  simp [Act.eval,Value.ownBlock] at this
  omega)
 have HF:=Lib.hid (And.intro ho3 hb3)
 clear ho3 ha hb3 HS H1
 go_wp2
 go_ret
 exact ⟨_,_,rfl,HF.out.1,HF.out.2⟩
theorem fls_one (l:List Nat):∀ u∈fls l,u.oneCell'=true:=fun u hu=>by
 unfold fls at hu
 obtain ⟨x,_,rfl⟩:=List.mem_map.1 hu
 rfl
theorem tch_one (l:Wr):∀ u∈l.flatMap tchC,u.oneCell'=true:=fun u hu=>by
 obtain ⟨x,_,hx⟩:=List.mem_flatMap.1 hu
 simp [tchC] at hx
 rcases hx with rfl | rfl <;> rfl
theorem cloneOut {w:World} {p:Option Addr} {c n:Nat} {l:List Nat} (h:RowAt 71 w p c (fls l)) (hn:l.length=n) (hz:n≤1024):Calls Tryz.prog 108 #[.slice p n c] w fun e w'=>∃ p' c',e=.returned (.slice p' n c')∧RowAt 71 w' p' c' (fls l)∧Abv w.heap.size (fpR p')∧Below w.heap.size w w':=by
 have ho:=h.own
 rw [fls_len,hn] at ho
 rcases ho.2 with ⟨hv,h0⟩ | ⟨g,cap,cur,hv,_⟩
 ·cases hv
  have e:l=[]:=List.eq_nil_of_length_eq_zero hn
  subst e
  exact (cloneF_nil w).mono fun e w' ⟨a1,a2⟩=>⟨none,0,a1,a2 ▸ h,fun k hk=>by simp [fpR] at hk,a2 ▸ Below.refl _ _⟩
 ·cases hv
  refine (cloneF_some (by rw [fls_len,hn,Nat.mul_one]) (fun j u hj=>World.ownsRow.cells ho (g:=g) rfl j u hj) (fls_one l) hz).mono fun e w' ⟨p',c',a1,a2,a3⟩=>⟨p',c',a1,⟨?_⟩,fun k hk=>(a2.lt k (own_fpR.1 hk)).1,a3⟩
  rw [fls_len,hn]
  exact owns_zero a2
theorem cloneReads {w:World} {p:Option Addr} {c n:Nat} {l:Wr} (h:TRow w p c l) (hn:l.length=n) (hz:n≤1024):Calls Tryz.prog 127 #[.slice p n c] w fun e w'=>∃ p' c',e=.returned (.slice p' n c')∧TRow w' p' c' l∧Abv w.heap.size (fpR p')∧Below w.heap.size w w':=by
 have ho:=h.own
 rw [hn] at ho
 rcases ho.2 with ⟨hv,h0⟩ | ⟨g,cap,cur,hv,_⟩
 ·cases hv
  have e:l=[]:=List.eq_nil_of_length_eq_zero hn
  subst e
  exact (cloneT_nil w).mono fun e w' ⟨a1,a2⟩=>⟨none,0,a1,a2 ▸ h,fun k hk=>by simp [fpR] at hk,a2 ▸ Below.refl _ _⟩
 ·cases hv
  refine (cloneT_some (by rw [tch_len,hn]) (fun j u hj=>World.ownsRow.cells ho (g:=g) rfl j u hj) (tch_one l) hz).mono fun e w' ⟨p',c',a1,a2,a3⟩=>⟨p',c',a1,⟨?_⟩,fun k hk=>(a2.lt k (own_fpR.1 hk)).1,a3⟩
  rw [hn]
  exact owns_zero a2
section
variable {W w:World} {b:Nat} {F0 K:List Nat} {m:Mac}
theorem out_any (h:Gm W F0 b K w m) (hz:m.out.length≤1024):Calls Tryz.prog 140 #[.pointer (some ⟨b,0,none⟩)] w fun e w'=>∃ p' c',e=.returned (.slice p' m.out.length c')∧RowAt 71 w' p' c' (fls m.out)∧Abv w.heap.size (fpR p')∧Below w.heap.size w w':=by
 obtain ⟨p,hm,ht,hk⟩:=h
 have h20:w.cell? ⟨b,24,none⟩=some (.slice p.po m.out.length p.co):=(hm.cell 24).trans rfl
 have hb:=hm.ltB
 have HP:=Lib.hid (cloneOut hm.out rfl hz)
 clear hm ht hk hz
 go_enter Tryz.func140,Tryz.ntmps140
 go_wp2_with (go_at_call 108;refine HP.out.mono ?_;rintro e w1 ⟨p',c',rfl,q1,q2,q3⟩;have HQ:=Lib.hid (And.intro q1 (And.intro q2 q3));clear q1 q2 q3 HP)
 go_ret
 exact ⟨_,_,rfl,HQ.out.1,HQ.out.2.1,HQ.out.2.2⟩
theorem reads_any (h:Gm W F0 b K w m) (hz:m.reads.length≤1024):Calls Tryz.prog 138 #[.pointer (some ⟨b,0,none⟩)] w fun e w'=>∃ p' c',e=.returned (.slice p' m.reads.length c')∧TRow w' p' c' m.reads∧Abv w.heap.size (fpR p')∧Below w.heap.size w w':=by
 obtain ⟨p,hm,ht,hk⟩:=h
 have h20:w.cell? ⟨b,25,none⟩=some (.slice p.pr m.reads.length p.cr):=(hm.cell 25).trans rfl
 have hb:=hm.ltB
 have HP:=Lib.hid (cloneReads hm.rds rfl hz)
 clear hm ht hk hz
 go_enter Tryz.func138,Tryz.ntmps138
 go_wp2_with (go_at_call 127;refine HP.out.mono ?_;rintro e w1 ⟨p',c',rfl,q1,q2,q3⟩;have HQ:=Lib.hid (And.intro q1 (And.intro q2 q3));clear q1 q2 q3 HP)
 go_ret
 exact ⟨_,_,rfl,HQ.out.1,HQ.out.2.1,HQ.out.2.2⟩
end
end Go.Proofs.YtlkldgopliablaaGreatDoor
namespace Go.Proofs.YtlkldgopliablaaGreatDoor
open Go.ChangeShapes Go.WideShapes Go.ChangeAt Go.RowKit Num
attribute [local go_sem] run_store_float
def argF (l:List Nat):Nat→Nat:=fun k=>fixB (l.getD k 0)
def newM (a f e t:Int) (c:List Ins) (l:List Nat):Mac:=⟨a,f,e,(t == 2),if checkB t c then c else [],argF l,fun _=>0,[],[],0,0,[],[],[],-1,0,0,0⟩
theorem argF_nil (k:Nat):argF [] k=0:=by simp [argF];decide
theorem argF_take (l:List Nat) {k:Nat} (h:k<l.length):updF (argF (l.take k)) k (fixB (l.getD k 0))=argF (l.take (k+1)):=by
 funext j
 unfold updF argF
 by_cases hj:j=k
 ·subst hj
  rw [if_pos rfl]
  simp [List.getD_eq_getElem?_getD]
 ·rw [if_neg hj]
  simp only [List.getD_eq_getElem?_getD,List.getElem?_take]
  by_cases h2:j<k
  ·rw [if_pos h2,if_pos (by omega)]
  ·rw [if_neg h2,if_neg (by omega)]
section
variable {W w:World} {b:Nat} {F0 K:List Nat} {m:Mac}
theorem mac_made {w0 w1:World} {bn bc bw:Nat} {Fw:List Nat} (a f e:Int) (u:Bool) (hn:NStk w1 bn [bn] []) (hc:CStk w1 bc [bc] []) (hw:Buf w1 bw Fw e []) (h1:bn≠bc) (h2:bn∉Fw) (h3:bc∉Fw) (hB:Below w0.heap.size w0 w1) (a1:w0.heap.size≤bn) (a2:w0.heap.size≤bc) (a3:Abv w0.heap.size Fw) :
  Gm w0 [] w1.heap.size [] (w1.alloc (.cells (boxV ⟨a,f,e,u,[],fun _=>0,fun _=>0,[],[],0,0,[],[],[],-1,0,0,0⟩ ⟨none,0,bn,bc,bw,[bn],[bc],Fw,none,0,none,0,0⟩) 250)) ⟨a,f,e,u,[],fun _=>0,fun _=>0,[],[],0,0,[],[],[],-1,0,0,0⟩:=by
 have hbl:=below_alloc w1 (.cells (boxV ⟨a,f,e,u,[],fun _=>0,fun _=>0,[],[],0,0,[],[],[],-1,0,0,0⟩ ⟨none,0,bn,bc,bw,[bn],[bc],Fw,none,0,none,0,0⟩) 250)
 have l1:bn<w1.heap.size:=hn.blw bn (by simp)
 have l2:bc<w1.heap.size:=hc.blw bc (by simp)
 have l3:=hw.blw
 refine ⟨⟨none,0,bn,bc,bw,[bn],[bc],Fw,none,0,none,0,0⟩,⟨heap_alloc_new _ _,hn.on hbl,hc.on hbl,hw.on hbl,⟨World.ownsRow_nil _ _ _ _⟩,⟨World.ownsRow_nil _ _ _ _⟩,fun k hk=>absurd hk (Nat.not_lt_zero k),fun k hk=>by simp [fpR] at hk,fun h=>absurd h (show ¬ (0:Int)≤-1 by decide),?_⟩,?_,rfl⟩
 ·have d01:Sep [w1.heap.size] [bn]:=fun k hk q=>by simp at hk q;omega
  have d02:Sep [w1.heap.size] [bc]:=fun k hk q=>by simp at hk q;omega
  have d03:Sep [w1.heap.size] Fw:=fun k hk q=>by simp at hk;subst hk;exact absurd (l3 _ q) (Nat.lt_irrefl _)
  have d12:Sep [bn] [bc]:=fun k hk q=>by simp at hk q;omega
  have d13:Sep [bn] Fw:=fun k hk q=>by simp at hk;subst hk;exact h2 q
  have d23:Sep [bc] Fw:=fun k hk q=>by simp at hk;subst hk;exact h3 q
  have e0:∀ F:List Nat,Sep F []:=fun F k _ q=>by simp at q
  intro i j hij
  match i,j with
  | 0,0=>exact absurd rfl hij
  | 0,1=>exact d01
  | 0,2=>exact d02
  | 0,3=>exact d03
  | 1,0=>exact d01.symm
  | 1,1=>exact absurd rfl hij
  | 1,2=>exact d12
  | 1,3=>exact d13
  | 2,0=>exact d02.symm
  | 2,1=>exact d12.symm
  | 2,2=>exact absurd rfl hij
  | 2,3=>exact d23
  | 3,0=>exact d03.symm
  | 3,1=>exact d13.symm
  | 3,2=>exact d23.symm
  | 3,3=>exact absurd rfl hij
  | _,4=>exact e0 _
  | _,5=>exact e0 _
  | _,6=>exact e0 _
  | 4,_=>exact (e0 _).symm
  | 5,_=>exact (e0 _).symm
  | 6,_=>exact (e0 _).symm
  | _,q+7=>simp only [Pt.L,List.getD_eq_getElem?_getD];exact fun k _ z=>by simp at z
  | q+7,_=>exact fun k z=>by simp [Pt.L] at z
 ·have hb2:=hB.trans (hbl.mono hB.size)
  refine ⟨hb2.os,hb2.tape,hb2.output,hb2.size,fun k hk _=>hb2.block k hk,fun k hk=>.inr ?_⟩
  simp only [Pt.F,Pt.own,List.flatten_cons,List.flatten_nil,List.mem_append,List.append_nil,List.mem_singleton,fpR,Option.map_none,Option.toList_none] at hk
  rcases hk with rfl | rfl | rfl | hk
  ·exact hB.size
  ·exact a1
  ·exact a2
  ·exact a3 k hk
theorem MacAt.code {p:Pt} (h1:MacAt w b m p) {pk:Option Addr} {ck:Nat} {c:List Ins} (hc:CodeAt w pk c) (hl:Blw w (fpR pk)) (hsp:Sep (fpR pk) (p.F b)):MacAt (w.setCell ⟨b,3,none⟩ (.slice pk c.length ck)) b { m with code:=c } { p with pk:=pk,ck:=ck }∧Turn (p.F b) ({ p with pk:=pk,ck:=ck }.F b) w (w.setCell ⟨b,3,none⟩ (.slice pk c.length ck)):=by
 have t:=turn_set w b 3 (.slice pk c.length ck)
 have kk:=h1.others (i:=0) t
 have kc:Kept (fpR pk) w (w.setCell ⟨b,3,none⟩ (.slice pk c.length ck)):=t.kept (fun k hk q=>hsp k hk (own_in (j:=0) (by omega) q)) hl
 refine ⟨⟨?_,h1.num.keep (kk 1 (by omega)),h1.cal.keep (kk 2 (by omega)),h1.wri.keep (kk 3 (by omega)),h1.out.keep (kk 4 (by omega)),h1.rds.keep (kk 5 (by omega)),hc.keep kc,fun x hx=>Nat.lt_of_lt_of_le (hl x hx) t.size,h1.wt,?_⟩,Turn.part (L:=p.own b) (i:=0) t⟩
 ·exact (heap_setCell_same w b 3 _ _ _ h1.box).trans rfl
 ·intro i j hij
  by_cases hi:i=6
  ·subst hi
   by_cases hj:j<6
   ·have:({ p with pk:=pk,ck:=ck }.L b).getD j []=(p.L b).getD j []:=by
     match j,hj with
     | 0,_=>rfl
     | 1,_=>rfl
     | 2,_=>rfl
     | 3,_=>rfl
     | 4,_=>rfl
     | 5,_=>rfl
    rw [this]
    exact fun k hk q=>hsp k hk (own_in hj q)
   ·match j,hj,hij with
    | 6,_,hij=>exact absurd rfl hij
    | q+7,_,_=>exact fun k _ z=>by simp [Pt.L] at z
  ·by_cases hj:j=6
   ·subst hj
    by_cases hi6:i<6
    ·have:({ p with pk:=pk,ck:=ck }.L b).getD i []=(p.L b).getD i []:=by
      match i,hi6 with
      | 0,_=>rfl
      | 1,_=>rfl
      | 2,_=>rfl
      | 3,_=>rfl
      | 4,_=>rfl
      | 5,_=>rfl
     rw [this]
     exact fun k hk q=>hsp k q (own_in hi6 hk)
    ·match i,hi6,hi with
     | 6,_,hi=>exact absurd rfl hi
     | q+7,_,_=>exact fun k z=>by simp [Pt.L] at z
   ·have e:∀ q,q≠6→({ p with pk:=pk,ck:=ck }.L b).getD q []=(p.L b).getD q []:=fun q hq=>by
     match q,hq with
     | 0,_=>rfl
     | 1,_=>rfl
     | 2,_=>rfl
     | 3,_=>rfl
     | 4,_=>rfl
     | 5,_=>rfl
     | 6,hq=>exact absurd rfl hq
     | q+7,_=>simp [Pt.L]
    rw [e i hi,e j hj]
    exact h1.apart i j hij
theorem arg_set (h:Gm W F0 b K w m) {k:Nat} (hk:k<8) (y:Nat):Gm W F0 b K (w.setCell ⟨b,4+k,none⟩ (.float .f64 y)) { m with args:=updF m.args k y }:=by
 refine h.set (4+k) _ _ (fun p hp=>⟨p.wt,?_,hp⟩) ⟨rfl,rfl,rfl,rfl,rfl,rfl,rfl⟩
 match k,hk with
 | 0,_=>rfl
 | 1,_=>rfl
 | 2,_=>rfl
 | 3,_=>rfl
 | 4,_=>rfl
 | 5,_=>rfl
 | 6,_=>rfl
 | 7,_=>rfl
end
end Go.Proofs.YtlkldgopliablaaGreatDoor
namespace Go.Proofs.YtlkldgopliablaaGreatDoor
open Go.ChangeShapes Go.WideShapes Go.ChangeAt Go.RowKit Num
attribute [local go_sem] run_store_float
def FlAt (w:World) (po:Option Addr) (l:List Nat):Prop:=∀ k,k<l.length→∃ g o,po=some ⟨g,o,none⟩∧g<w.heap.size∧w.cell? ⟨g,o+k,none⟩=some (.float .f64 (l.getD k 0))
theorem FlAt.on {w w':World} {po:Option Addr} {l:List Nat} (h:FlAt w po l) (hb:Below w.heap.size w w'):FlAt w' po l:=fun k hk=>by
 obtain ⟨g,o,e,hlt,c⟩:=h k hk
 exact ⟨g,o,e,Nat.lt_of_lt_of_le hlt hb.size,(hb.cell (p:=⟨g,o+k,none⟩) hlt).trans c⟩
abbrev cfgO (a b c e:Int):Obj:=.cells #[.int .i64 a,.int .i64 b,.int .i64 c,.int .i64 e] 23
abbrev prgO (t:Int) (ao:Option Addr) (n cap:Nat):Obj:=.cells #[.int .i64 t,.slice ao n cap] 136
abbrev cfgV (a b c e:Int):Value:=.agg #[.int .i64 a,.int .i64 b,.int .i64 c,.int .i64 e]
abbrev newW (w:World) (a b c e t:Int) (ao:Option Addr) (n cap:Nat):World:=(w.alloc (cfgO a b c e)).alloc (prgO t ao n cap)
theorem newW_below (w:World) (a b c e t:Int) (ao:Option Addr) (n cap:Nat):Below w.heap.size w (newW w a b c e t ao n cap):=(below_alloc w _).trans ((below_alloc _ _).mono (by simp))
theorem newW_boxes {w u:World} {a b c e t:Int} {ao:Option Addr} {n cap:Nat} (h:Below (newW w a b c e t ao n cap).heap.size (newW w a b c e t ao n cap) u) :
  (u.cell? ⟨w.heap.size,0,none⟩=some (.int .i64 a)∧u.cell? ⟨w.heap.size,2,none⟩=some (.int .i64 c)∧u.cell? ⟨w.heap.size,3,none⟩=some (.int .i64 e)∧w.heap.size<u.heap.size)∧(u.cell? ⟨w.heap.size+1,0,none⟩=some (.int .i64 t)∧u.cell? ⟨w.heap.size+1,1,none⟩=some (.slice ao n cap)∧w.heap.size+1<u.heap.size)∧Below w.heap.size w u:=by
 have b1:u.heap[w.heap.size]?=some (cfgO a b c e):=(h.block _ (by simp;omega)).trans ((heap_alloc_old _ _ (by simp)).trans (heap_alloc_new w _))
 have b2:u.heap[w.heap.size+1]?=some (prgO t ao n cap):=(h.block _ (by simp)).trans (heap_new (by simp))
 refine ⟨⟨?_,?_,?_,lt_of_block b1⟩,⟨?_,?_,lt_of_block b2⟩,(newW_below w a b c e t ao n cap).trans (h.mono (by simp;omega))⟩
 ·rw [cell_of_row u _ 0 _ _ _ b1];rfl
 ·rw [cell_of_row u _ 2 _ _ _ b1];rfl
 ·rw [cell_of_row u _ 3 _ _ _ b1];rfl
 ·rw [cell_of_row u _ 0 _ _ _ b2];rfl
 ·rw [cell_of_row u _ 1 _ _ _ b2];rfl
end Go.Proofs.YtlkldgopliablaaGreatDoor
namespace Go.Proofs.YtlkldgopliablaaGreatDoor
open Go.ChangeShapes Go.WideShapes Go.ChangeAt Go.RowKit Num
attribute [local go_sem] run_store_float
theorem code_row {w:World} {p:Option Addr} {c B:Nat} {l:List Ins} (h:w.ownsRow B 133 3 (.slice p l.length c) l.length (l.flatMap fun i=>[.int .i64 i.op,.int .i64 i.n,.float .f64 i.x])):CodeAt w p l∧Blw w (fpR p)∧Abv B (fpR p):=by
 refine ⟨fun k hk=>?_,fun k hk=>(h.lt k (own_fpR.1 hk)).2,fun k hk=>(h.lt k (own_fpR.1 hk)).1⟩
 rcases h.2 with ⟨_,q⟩ | ⟨g,cap',cur,hv,hB,hg,_,_,_,ht⟩
 ·omega
 ·cases hv
  have fl:∀ (l:List Ins) k (h:k<l.length),(l.flatMap fun i=>[Value.int .i64 i.op,.int .i64 i.n,.float .f64 i.x])[k*3]?=some (.int .i64 (ci l k).op)∧(l.flatMap fun i=>[Value.int .i64 i.op,.int .i64 i.n,.float .f64 i.x])[k*3+1]?=some (.int .i64 (ci l k).n)∧(l.flatMap fun i=>[Value.int .i64 i.op,.int .i64 i.n,.float .f64 i.x])[k*3+2]?=some (.float .f64 (ci l k).x):=by
   intro l
   induction l with
   | nil=>intro k h;exact absurd h (Nat.not_lt_zero k)
   | cons i l ih =>
    intro k h
    cases k with
    | zero=>simp [ci]
    | succ k =>
     have:=ih k (by simpa using h)
     rw [List.flatMap_cons]
     have e:(k+1)*3=[Value.int .i64 i.op,.int .i64 i.n,.float .f64 i.x].length+k*3:=by simp;omega
     rw [e,List.getElem?_append_right (by omega),Nat.add_assoc,List.getElem?_append_right (by omega),Nat.add_assoc,List.getElem?_append_right (by omega)]
     simpa [ci] using this
  have e:∀ j,j<l.length*3→cur[j]?=(l.flatMap fun i=>[Value.int .i64 i.op,.int .i64 i.n,.float .f64 i.x])[j]?:=fun j hj=>by
   have h1:cur.toList[j]?=(cur.toList.take (l.length*3))[j]?:=by rw [List.getElem?_take,if_pos (by omega)]
   rw [ht] at h1
   simpa using h1
  obtain ⟨f0,f1,f2⟩:=fl l k hk
  refine ⟨g,0,rfl,lt_of_block hg,?_,?_,?_⟩
  ·rw [cell_of_row w g _ _ _ _ hg,Nat.zero_add,e _ (by omega)];exact f0
  ·rw [cell_of_row w g _ _ _ _ hg,Nat.zero_add,e _ (by omega)];exact f1
  ·rw [cell_of_row w g _ _ _ _ hg,Nat.zero_add,e _ (by omega)];exact f2
theorem ins_len (l:List Ins):(l.flatMap fun i=>[Value.int .i64 i.op,.int .i64 i.n,.float .f64 i.x]).length=l.length*3:=by
 induction l with
 | nil=>rfl
 | cons i l ih=>rw [List.flatMap_cons,List.length_append,ih];simp;omega
theorem ins_cells (l:List Ins):∀ j,j<l.length*3→(l.flatMap fun i=>[Value.int .i64 i.op,.int .i64 i.n,.float .f64 i.x])[j]?=some (if j % 3=0 then .int .i64 (ci l (j / 3)).op else if j % 3=1 then .int .i64 (ci l (j / 3)).n else .float .f64 (ci l (j / 3)).x):=by
 induction l with
 | nil=>intro j h;simp at h
 | cons i l ih =>
  intro j h
  rw [List.flatMap_cons]
  by_cases hj:j<3
  ·rw [List.getElem?_append_left (by simpa using hj)]
   match j,hj with
   | 0,_=>rfl
   | 1,_=>rfl
   | 2,_=>rfl
  ·rw [List.getElem?_append_right (by simp;omega)]
   have:=ih (j - 3) (by simp at h;omega)
   have e1:(j - 3) % 3=j % 3:=by omega
   have e2:j / 3=(j - 3) / 3+1:=by omega
   rw [e1] at this
   rw [e2]
   simpa [ci] using this
theorem clone_code {w:World} {ao:Option Addr} {cap n:Nat} {c:List Ins} (h:CodeAt w ao c) (hn:c.length=n) (h1:1≤n) (hz:n≤1024):Calls Tryz.prog 107 #[.slice ao n cap] w fun e w'=>∃ p' c',e=.returned (.slice p' n c')∧CodeAt w' p' c∧Blw w' (fpR p')∧Abv w.heap.size (fpR p')∧Below w.heap.size w w':=by
 obtain ⟨g,o,e,_,_,_,_⟩:=h 0 (by omega)
 subst e
 refine (cloneI_some (xs:=c.flatMap fun i=>[Value.int .i64 i.op,.int .i64 i.n,.float .f64 i.x]) (by rw [ins_len,hn]) (fun j u hj=>?_) (fun u hu=>?_) hz).mono fun e w' ⟨p',c',a1,a2,a3⟩=>?_
 ·have hjl:j<c.length*3:=by
   have:=(List.getElem?_eq_some_iff.1 hj).1
   rwa [ins_len] at this
  rw [ins_cells c j hjl] at hj
  obtain ⟨g',o',e',_,c0,c1,c2⟩:=h (j / 3) (by omega)
  cases e'
  rw [show (⟨g,o,none⟩:Addr).add j=⟨g,o+j,none⟩ by unfold Addr.add;split <;> simp_all,← hj]
  by_cases h0:j % 3=0
  ·rw [if_pos h0,show o+j=o+j / 3*3 by omega]
   exact c0
  ·rw [if_neg h0]
   by_cases h1:j % 3=1
   ·rw [if_pos h1,show o+j=o+j / 3*3+1 by omega]
    exact c1
   ·rw [if_neg h1,show o+j=o+j / 3*3+2 by omega]
    exact c2
 ·obtain ⟨i,_,hx⟩:=List.mem_flatMap.1 hu
  simp at hx
  rcases hx with rfl | rfl | rfl <;> rfl
 ·rw [← hn] at a2
  obtain ⟨b1,b2,b3⟩:=code_row a2
  exact ⟨p',c',a1,b1,b2,b3,a3⟩
section
variable {w:World}
theorem Gm.code' {W:World} {F0 K:List Nat} {b:Nat} {u u':World} {m:Mac} (h:Gm W F0 b K u m) (hb:Below u.heap.size u u') {pk:Option Addr} {ck:Nat} {c:List Ins} (hc:CodeAt u' pk c) (hl:Blw u' (fpR pk)) (hA:Abv u.heap.size (fpR pk)):Gm W F0 b (fpR pk) (u'.setCell ⟨b,3,none⟩ (.slice pk c.length ck)) { m with code:=c }:=by
 obtain ⟨p,h1,h2,_⟩:=h
 obtain ⟨a1,a2⟩:=(h1.on hb).code (ck:=ck) hc hl (fun k hk q=>absurd (hA k hk) (Nat.not_le.2 (h1.blw k q)))
 exact ⟨_,a1,(h2.trans (Below.turn hb _)).trans a2,rfl⟩
structure Parts (w N v:World) (bn bc bw:Nat) (Fw:List Nat) (e:Int):Prop where
 n:NStk v bn [bn] []
 c:CStk v bc [bc] []
 bf:Buf v bw Fw e []
 nc:bn≠bc
 nw:bn∉Fw
 cw:bc∉Fw
 an:w.heap.size≤bn
 ac:w.heap.size≤bc
 aw:Abv w.heap.size Fw
 bl:Below N.heap.size N v
theorem parts_fi {N u u' v v':World} {bn bc bw:Nat} {Fw:List Nat} {e:Int} (hN:w.heap.size≤N.heap.size) (hb:Below N.heap.size N u) (hw:Buf u bw Fw e []) (ha:Abv w.heap.size Fw) (k1:Same u u') (e1:bn=u'.heap.size) (s1:Stk 288 71 v bn [bn] [] (roomV 64)) (d1:Below u'.heap.size u' v) (k2:Same v v') {x:World} (e2:bc=v'.heap.size) (s2:Stk 290 3 x bc [bc] [] (roomV 16)) (d2:Below v'.heap.size v' x):Parts w N x bn bc bw Fw e:=by
 have z1:u'.heap.size=u.heap.size:=by rw [k1.heap]
 have z2:v'.heap.size=v.heap.size:=by rw [k2.heap]
 have g1:Below u.heap.size u v:=(k1.below _).trans (d1.mono (by omega))
 have g2:Below v.heap.size v x:=(k2.below _).trans (d2.mono (by omega))
 have l1:bn<v.heap.size:=s1.blw bn (by simp)
 have hsz:=hb.size
 exact ⟨Stk.on s1 g2,s2,(hw.on g1).on g2,by omega,fun q=>absurd (hw.blw _ q) (by omega),fun q=>absurd (hw.blw _ q) (by have:=g1.size;omega),by omega,by have:=g1.size;omega,ha,(hb.trans (g1.mono hsz)).trans (g2.mono (Nat.le_trans hsz g1.size))⟩
theorem Parts.mac {N v:World} {bn bc bw:Nat} {Fw:List Nat} {e:Int} (h:Parts w N v bn bc bw Fw e) (hB:Below w.heap.size w v) (a f:Int) (u:Bool):Gm w [] v.heap.size [] (v.alloc (.cells (boxV ⟨a,f,e,u,[],fun _=>0,fun _=>0,[],[],0,0,[],[],[],-1,0,0,0⟩ ⟨none,0,bn,bc,bw,[bn],[bc],Fw,none,0,none,0,0⟩) 250)) ⟨a,f,e,u,[],fun _=>0,fun _=>0,[],[],0,0,[],[],[],-1,0,0,0⟩ :=
 mac_made a f e u h.n h.c h.bf h.nc h.nw h.cw hB h.an h.ac h.aw
theorem Gm.cod3 {W:World} {F0 K:List Nat} {b:Nat} {u:World} {m:Mac} (h:Gm W F0 b K u m):∃ v,u.cell? ⟨b,3,none⟩=some v:=by
 obtain ⟨p,hm,_,_⟩:=h
 exact ⟨_,(hm.cell 3).trans rfl⟩
theorem Gm.arg4 {W:World} {F0 K:List Nat} {b:Nat} {u:World} {m:Mac} (h:Gm W F0 b K u m) {j:Nat} (hj:j<8):u.cell? ⟨b,4+j,none⟩=some (.float .f64 (m.args j))∧u.frozen? ⟨b,4+j,none⟩=false∧b<u.heap.size:=⟨args_at h hj,h.free _,h.ltB⟩
theorem Gm.fresh {K:List Nat} {b:Nat} {u:World} {m:Mac} (h:Gm w [] b K u m):Below w.heap.size w u:=by
 obtain ⟨p,_,h2,_⟩:=h
 exact h2.below (fun k hk=>by simp at hk) (Nat.le_refl _)
theorem mnew_yes {a b c e t:Int} {ao:Option Addr} {cs:List Ins} {n cap:Nat} {po:Option Addr} {l:List Nat} {k co:Nat} (hc:Md.cfgB a b c e=true) (hn:cs.length=n) (hk:l.length=k) (hk8:k≤8) (hT:Shaped5 w) (hC:CodeAt w ao cs) (hL:FlAt w po l) (hnl:n≤9223372036854775807) (hq:checkB t cs=true):Calls Tryz.prog 129 #[cfgV a b c e,.agg #[.int .i64 t,.slice ao n cap],.slice po k co] w fun r w'=>∃ bm K,r=.returned (.pointer (some ⟨bm,0,none⟩))∧Gm w [] bm K w' (newM a c e t cs l)∧Abv w.heap.size K:=by
 have HP:=Lib.hid (Md.place_any a b c e (newW w a b c e t ao n cap))
 rw [hc] at HP
 have hcf:=Md.cfgB_iff.1 hc
 have hk':¬ (8:Int)<(k:Int):=by omega
 have HBF:Hid (∀ u,Calls Tryz.prog 160 #[.int .i64 e] u fun r w'=>∃ b F,r=.returned (.tuple #[.pointer (some ⟨b,0,none⟩),.int .i64 0])∧Buf w' b F e []∧Abv u.heap.size F∧Below u.heap.size u w'):=fun u=>new_some (by unfold mayM;simp;omega) u
 have HCK:Hid (∀ u,Below w.heap.size w u→Calls Tryz.prog 163 #[.agg #[.int .i64 t,.slice ao n cap]] u fun r w'=>r=.returned (.int .i64 (checkE t cs))∧Below u.heap.size u w'):=fun u hb=>by
  have:=check_any t cap (hT.on hb) (hC.on hb) (by omega)
  rw [hn] at this
  exact this
 rw [checkE_yes hq] at HCK
 have HL:=Lib.hid (And.intro hL (And.intro hk hk8))
 have HNW:Hid (w.heap.size≤(newW w a b c e t ao n cap).heap.size):=by show _≤_;simp;omega
 have hcp:=check_parts.1 hq
 have HC:Hid ((∀ u,Below w.heap.size w u→CodeAt u ao cs)∧cs.length=n∧1≤n∧n≤1024):=⟨fun u hb=>hC.on hb,hn,by omega,by omega⟩
 clear hcp
 clear hc hT hC hL hnl hcf
 go_enter Tryz.func129,Tryz.ntmps129
 go_wp2_with (first
  | (go_at_call 160;refine (HBF.out _).mono ?_;rintro r u1 ⟨bw,Fw,rfl,q1,q2,q3⟩;have B1:=B0.out.alloc B0.out.size (.cells #[.int .i64 0,.int .i64 1,.int .i64 2,.int .i64 3,.int .i64 (3+b),.int .i64 (3+b+3*a)] 45);have B2:=Lib.hid (B1.trans (q3.mono B1.size));obtain ⟨⟨x0,x1,x2,x3⟩,⟨y0,y1,y2⟩,z0⟩:=newW_boxes B2.out;have HW1:=Lib.hid (And.intro q1 (Abv.mono q2 (B':=w.heap.size) (Nat.le_trans HNW.out B1.size)));clear q1 q2 q3 B1 z0)
  | (go_at_call 64;refine HP.out.mono ?_;rw [if_pos rfl];rintro r u0 ⟨rfl,q⟩;obtain ⟨⟨x0,x1,x2,x3⟩,⟨y0,y1,y2⟩,z0⟩:=newW_boxes q;have B0:=Lib.hid q;clear q HP z0))
 go_region_held (fun w'=>w'.cell? ⟨w.heap.size,0,none⟩=some (.int .i64 a)∧w'.cell? ⟨w.heap.size,2,none⟩=some (.int .i64 c)∧w'.cell? ⟨w.heap.size+1,0,none⟩=some (.int .i64 t)) (go_keep) (first
  | (go_at_call 161;refine (fNew_any 64 _).mono ?_;rintro r v2 ⟨bn,rfl,e2,s2,d2⟩;have P2:=parts_if (w:=w) HNW.out B2.out HW1.out.1 HW1.out.2 (Same.drew _) I1.out.1 I1.out.2.1 I1.out.2.2 (Same.refl _) e2 s2 d2;obtain ⟨⟨x0,x1,x2,x3⟩,⟨y0,y1,y2⟩,z0⟩:=newW_boxes P2.bl;have HZ:=Lib.hid z0;have HPT:=Lib.hid P2;clear e2 s2 d2 P2 z0)
  | (go_at_call 162;refine (iNew_any 16 _).mono ?_;rintro r v2 ⟨bc,rfl,e2,s2,d2⟩;have P2:=parts_fi (w:=w) HNW.out B2.out HW1.out.1 HW1.out.2 (Same.drew _) J1.out.1 J1.out.2.1 J1.out.2.2 (Same.refl _) e2 s2 d2;obtain ⟨⟨x0,x1,x2,x3⟩,⟨y0,y1,y2⟩,z0⟩:=newW_boxes P2.bl;have HZ:=Lib.hid z0;have HPT:=Lib.hid P2;clear e2 s2 d2 P2 z0)
  | (go_at_call 161;refine (fNew_any 64 _).mono ?_;rintro r v1 ⟨bn,rfl,e1,s1,d1⟩;have J1:=Lib.hid (And.intro e1 (And.intro s1 d1));obtain ⟨⟨x0,x1,x2,x3⟩,⟨y0,y1,y2⟩,z0⟩:=newW_boxes (B2.out.trans (((Same.drew _).below _).trans (d1.mono B2.out.size)));clear e1 s1 d1 z0)
  | (go_at_call 162;refine (iNew_any 16 _).mono ?_;rintro r v1 ⟨bc,rfl,e1,s1,d1⟩;have I1:=Lib.hid (And.intro e1 (And.intro s1 d1));obtain ⟨⟨x0,x1,x2,x3⟩,⟨y0,y1,y2⟩,z0⟩:=newW_boxes (B2.out.trans (((Same.drew _).below _).trans (d1.mono B2.out.size)));clear e1 s1 d1 z0))
 all_goals go_wp2_with (first
  | (go_at_call 107;refine (clone_code (HC.out.1 _ G1.out.fresh) HC.out.2.1 HC.out.2.2.1 HC.out.2.2.2).mono ?_;rintro r v4 ⟨pk,ck,rfl,q1,q2,q3,q4⟩;have g4:=G1.out.on q4;obtain ⟨cv,c3⟩:=g4.cod3;have f3:=g4.free 3;have l3:=g4.ltB;have g5:=G1.out.code' q4 (ck:=ck) q1 q2 q3;rw [HC.out.2.1] at g5;have G2:=Lib.hid (And.intro g5 (Abv.mono q3 (B':=w.heap.size) G1.out.fresh.size));clear g4 g5 q1 q2 q3 q4)
  | (go_at_call 163;refine (HCK.out _ (HZ.out.alloc HZ.out.size _)).mono ?_;rintro r v3 ⟨rfl,d3⟩;have g3:=(HPT.out.mac HZ.out a c (t == 2)).on d3;obtain ⟨⟨x0,x1,x2,x3⟩,⟨y0,y1,y2⟩,z0⟩:=newW_boxes ((HPT.out.bl.alloc HPT.out.bl.size _).trans (d3.mono (Nat.le_trans HPT.out.bl.size (by simp))));have G1:=Lib.hid g3;clear d3 g3 z0))
 all_goals go_loopw [55] (fun vi wr=>∃ j:Nat,vi=.int .i64 j∧j≤k∧Hid (Gm w [] v2.heap.size (fpR pk) wr { newM a c e t cs [] with args:=argF (l.take j) })) (fun vi _=>k - (intOf vi).toNat)
 case atStart =>
  refine ⟨0,rfl,Nat.zero_le _,?_⟩
  have e1:argF (l.take 0)=fun _=>0:=by funext q;exact argF_nil q
  rw [e1]
  unfold newM
  rw [hq]
  exact G2.out.1
 case round =>
  obtain ⟨j,rfl,hj,HG⟩:=hrel
  by_cases hlt:j<k
  ·have hlt':(j:Int)<(k:Int):=by omega
   have hj8:(j:Int)<8:=by omega
   obtain ⟨g,o,hpo,hg,hcell⟩:=(HL.out.1.on HG.out.fresh) j (by omega)
   subst hpo
   have HTK:=Lib.hid (argF_take l (k:=j) (by omega))
   generalize l.getD j 0=y at hcell HTK
   obtain ⟨d0,d1,d2⟩:=HG.out.arg4 (j:=j) (by omega)
   clear HCK HBF HPT HZ G1 G2
   go_wp2
   refine region_tail 7 (by kernel_rfl) ?_
   simp only [List.take_succ_cons,List.take_zero,List.drop_succ_cons,List.drop_zero]
   repeat (first | still_step | still_call (fix_any y _))
   refine wpStill_nil ?_
   go_wp2
   refine ⟨⟨j+1,by first | rfl | (congr 1),by omega,?_⟩,by simp [intOf];omega⟩
   have g6:=(arg_set HG.out (k:=j) (by omega) (fixB y)).same (Same.drew _)
   rw [← HTK.out]
   exact g6
  ·have hlt':¬ (j:Int)<(k:Int):=by omega
   have e:j=k:=by omega
   subst e
   have HF:Hid (Gm w [] v2.heap.size (fpR pk) wr (newM a c e t cs l)):=by
    have:=HG.out
    rw [show l.take j=l by rw [← hk];exact List.take_length] at this
    exact this
   clear HCK HBF HPT HZ G1
   go_wp2
   go_ret
   exact ⟨_,rfl,(fpR pk),HF.out,G2.out.2⟩
theorem mnew_no {a b c e t:Int} {ao:Option Addr} {cs:List Ins} {n cap:Nat} {po:Option Addr} {l:List Nat} {k co:Nat} (hc:Md.cfgB a b c e=true) (hn:cs.length=n) (hk:l.length=k) (hk8:k≤8) (hT:Shaped5 w) (hC:CodeAt w ao cs) (hL:FlAt w po l) (hnl:n≤9223372036854775807) (hq:checkB t cs=false):Calls Tryz.prog 129 #[cfgV a b c e,.agg #[.int .i64 t,.slice ao n cap],.slice po k co] w fun r w'=>∃ bm K,r=.returned (.pointer (some ⟨bm,0,none⟩))∧Gm w [] bm K w' (newM a c e t cs l)∧Abv w.heap.size K:=by
 have HP:=Lib.hid (Md.place_any a b c e (newW w a b c e t ao n cap))
 rw [hc] at HP
 have hcf:=Md.cfgB_iff.1 hc
 have hk':¬ (8:Int)<(k:Int):=by omega
 have HBF:Hid (∀ u,Calls Tryz.prog 160 #[.int .i64 e] u fun r w'=>∃ b F,r=.returned (.tuple #[.pointer (some ⟨b,0,none⟩),.int .i64 0])∧Buf w' b F e []∧Abv u.heap.size F∧Below u.heap.size u w'):=fun u=>new_some (by unfold mayM;simp;omega) u
 have HCK:Hid (∀ u,Below w.heap.size w u→Calls Tryz.prog 163 #[.agg #[.int .i64 t,.slice ao n cap]] u fun r w'=>r=.returned (.int .i64 (checkE t cs))∧Below u.heap.size u w'):=fun u hb=>by
  have:=check_any t cap (hT.on hb) (hC.on hb) (by omega)
  rw [hn] at this
  exact this
 rw [checkE_no hq] at HCK
 have HL:=Lib.hid (And.intro hL (And.intro hk hk8))
 have HNW:Hid (w.heap.size≤(newW w a b c e t ao n cap).heap.size):=by show _≤_;simp;omega
 clear hc hT hC hL hnl hcf
 go_enter Tryz.func129,Tryz.ntmps129
 go_wp2_with (first
  | (go_at_call 160;refine (HBF.out _).mono ?_;rintro r u1 ⟨bw,Fw,rfl,q1,q2,q3⟩;have B1:=B0.out.alloc B0.out.size (.cells #[.int .i64 0,.int .i64 1,.int .i64 2,.int .i64 3,.int .i64 (3+b),.int .i64 (3+b+3*a)] 45);have B2:=Lib.hid (B1.trans (q3.mono B1.size));obtain ⟨⟨x0,x1,x2,x3⟩,⟨y0,y1,y2⟩,z0⟩:=newW_boxes B2.out;have HW1:=Lib.hid (And.intro q1 (Abv.mono q2 (B':=w.heap.size) (Nat.le_trans HNW.out B1.size)));clear q1 q2 q3 B1 z0)
  | (go_at_call 64;refine HP.out.mono ?_;rw [if_pos rfl];rintro r u0 ⟨rfl,q⟩;obtain ⟨⟨x0,x1,x2,x3⟩,⟨y0,y1,y2⟩,z0⟩:=newW_boxes q;have B0:=Lib.hid q;clear q HP z0))
 go_region_held (fun w'=>w'.cell? ⟨w.heap.size,0,none⟩=some (.int .i64 a)∧w'.cell? ⟨w.heap.size,2,none⟩=some (.int .i64 c)∧w'.cell? ⟨w.heap.size+1,0,none⟩=some (.int .i64 t)) (go_keep) (first
  | (go_at_call 161;refine (fNew_any 64 _).mono ?_;rintro r v2 ⟨bn,rfl,e2,s2,d2⟩;have P2:=parts_if (w:=w) HNW.out B2.out HW1.out.1 HW1.out.2 (Same.drew _) I1.out.1 I1.out.2.1 I1.out.2.2 (Same.refl _) e2 s2 d2;obtain ⟨⟨x0,x1,x2,x3⟩,⟨y0,y1,y2⟩,z0⟩:=newW_boxes P2.bl;have HZ:=Lib.hid z0;have HPT:=Lib.hid P2;clear e2 s2 d2 P2 z0)
  | (go_at_call 162;refine (iNew_any 16 _).mono ?_;rintro r v2 ⟨bc,rfl,e2,s2,d2⟩;have P2:=parts_fi (w:=w) HNW.out B2.out HW1.out.1 HW1.out.2 (Same.drew _) J1.out.1 J1.out.2.1 J1.out.2.2 (Same.refl _) e2 s2 d2;obtain ⟨⟨x0,x1,x2,x3⟩,⟨y0,y1,y2⟩,z0⟩:=newW_boxes P2.bl;have HZ:=Lib.hid z0;have HPT:=Lib.hid P2;clear e2 s2 d2 P2 z0)
  | (go_at_call 161;refine (fNew_any 64 _).mono ?_;rintro r v1 ⟨bn,rfl,e1,s1,d1⟩;have J1:=Lib.hid (And.intro e1 (And.intro s1 d1));obtain ⟨⟨x0,x1,x2,x3⟩,⟨y0,y1,y2⟩,z0⟩:=newW_boxes (B2.out.trans (((Same.drew _).below _).trans (d1.mono B2.out.size)));clear e1 s1 d1 z0)
  | (go_at_call 162;refine (iNew_any 16 _).mono ?_;rintro r v1 ⟨bc,rfl,e1,s1,d1⟩;have I1:=Lib.hid (And.intro e1 (And.intro s1 d1));obtain ⟨⟨x0,x1,x2,x3⟩,⟨y0,y1,y2⟩,z0⟩:=newW_boxes (B2.out.trans (((Same.drew _).below _).trans (d1.mono B2.out.size)));clear e1 s1 d1 z0))
 all_goals go_wp2_with (go_at_call 163;refine (HCK.out _ (HZ.out.alloc HZ.out.size _)).mono ?_;rintro r v3 ⟨rfl,d3⟩;have g3:=(HPT.out.mac HZ.out a c (t == 2)).on d3;obtain ⟨⟨x0,x1,x2,x3⟩,⟨y0,y1,y2⟩,z0⟩:=newW_boxes ((HPT.out.bl.alloc HPT.out.bl.size _).trans (d3.mono (Nat.le_trans HPT.out.bl.size (by simp))));have G1:=Lib.hid g3;clear d3 g3 z0)
 all_goals go_loopw [55] (fun vi wr=>∃ j:Nat,vi=.int .i64 j∧j≤k∧Hid (Gm w [] v2.heap.size [] wr { newM a c e t cs [] with args:=argF (l.take j) })) (fun vi _=>k - (intOf vi).toNat)
 case atStart =>
  refine ⟨0,rfl,Nat.zero_le _,?_⟩
  have e1:argF (l.take 0)=fun _=>0:=by funext q;exact argF_nil q
  rw [e1]
  unfold newM
  rw [hq]
  exact G1.out
 case round =>
  obtain ⟨j,rfl,hj,HG⟩:=hrel
  by_cases hlt:j<k
  ·have hlt':(j:Int)<(k:Int):=by omega
   have hj8:(j:Int)<8:=by omega
   obtain ⟨g,o,hpo,hg,hcell⟩:=(HL.out.1.on HG.out.fresh) j (by omega)
   subst hpo
   have HTK:=Lib.hid (argF_take l (k:=j) (by omega))
   generalize l.getD j 0=y at hcell HTK
   obtain ⟨d0,d1,d2⟩:=HG.out.arg4 (j:=j) (by omega)
   clear HCK HBF HPT HZ G1
   go_wp2
   refine region_tail 7 (by kernel_rfl) ?_
   simp only [List.take_succ_cons,List.take_zero,List.drop_succ_cons,List.drop_zero]
   repeat (first | still_step | still_call (fix_any y _))
   refine wpStill_nil ?_
   go_wp2
   refine ⟨⟨j+1,by first | rfl | (congr 1),by omega,?_⟩,by simp [intOf];omega⟩
   have g6:=(arg_set HG.out (k:=j) (by omega) (fixB y)).same (Same.drew _)
   rw [← HTK.out]
   exact g6
  ·have hlt':¬ (j:Int)<(k:Int):=by omega
   have e:j=k:=by omega
   subst e
   have HF:Hid (Gm w [] v2.heap.size [] wr (newM a c e t cs l)):=by
    have:=HG.out
    rw [show l.take j=l by rw [← hk];exact List.take_length] at this
    exact this
   clear HCK HBF HPT HZ G1
   go_wp2
   go_ret
   exact ⟨_,rfl,[],HF.out,fun k hk=>by simp at hk⟩
end
end Go.Proofs.YtlkldgopliablaaGreatDoor
namespace Go.Proofs.YtlkldgopliablaaGreatDoor
open Go.ChangeShapes Go.WideShapes Go.ChangeAt Go.RowKit Go.Deep
open Go.ChangeMaps (open_string shut_string)
theorem ownK:ownKnob Tryz.prog.godebug=none:=by kernel_rfl
abbrev laid8:List (String × DataW Unit):=Rows.engineRunsRow.laid
section
variable {H:Type} {enc:TypeId × Value→H} {w:World} {base:Nat} {sp:Nat→Bool} {held:Bool}
theorem shps_of {fuel:Nat} {cs:List Value} {p:List MemPlace}
  (h:DataW.trod enc Tryz.prog w base sp held fuel 307 cs=some (.agg (shpT.map fun s=>.agg [.lit (.string s.word),.lit (.int .i64 s.kind),.lit (.int .i64 s.lo),.lit (.int .i64 s.hi),.lit (.int .i64 s.takes),.lit (.int .i64 s.lays)]),p)) :
  ∀ i,i<21→cs[i*6]?=some (strB (shp i).word)∧cs[i*6+1]?=some (.int .i64 (shp i).kind)∧cs[i*6+2]?=some (.int .i64 (shp i).lo)∧cs[i*6+3]?=some (.int .i64 (shp i).hi)∧cs[i*6+4]?=some (.int .i64 (shp i).takes)∧cs[i*6+5]?=some (.int .i64 (shp i).lays):=by
 have hce:Tryz.prog.cellsOf 306=6:=by kernel_rfl
 have hct:Tryz.prog.cellsOf 307=126:=by kernel_rfl
 have hcs:Tryz.prog.cellsOf 9=1:=by kernel_rfl
 have hci:Tryz.prog.cellsOf 3=1:=by kernel_rfl
 cases fuel with
 | zero=>simp [DataW.trod] at h
 | succ fuel =>
  simp only [DataW.trod,Tryz.underlying307,hce,hct] at h
  split at h
  ·obtain ⟨xs,hm,hx⟩:=Option.map_eq_some_iff.1 h
   have hxs:=congrArg Prod.fst hx
   intro i hi
   obtain ⟨b,hb,hf⟩:=Lib.mapM_at hm i i (by simp [hi])
   have h2:(xs.map (·.1))[i]?=some b.1:=by simp [hb]
   have hxs':xs.map (·.1)=shpT.map fun s=>(DataW.agg [.lit (.string s.word),.lit (.int .i64 s.kind),.lit (.int .i64 s.lo),.lit (.int .i64 s.hi),.lit (.int .i64 s.takes),.lit (.int .i64 s.lays)]:DataW H):=by simpa using hxs
   rw [hxs'] at h2
   have hi':i<shpT.length:=hi
   have hsi:shpT[i]?=some (shp i):=by
    unfold shp
    rw [List.getD_eq_getElem?_getD,List.getElem?_eq_getElem hi']
    rfl
   rw [List.getElem?_map,hsi] at h2
   simp only [Option.map_some,Option.some.injEq] at h2
   obtain ⟨ys,n,_,hy,_,hyl,hg⟩:=DataW.trod_struct Tryz.underlying306 hf
   match ys,hyl with
   | [y0,y1,y2,y3,y4,y5],_ =>
    have g0:=hg 0 _ rfl
    have g1:=hg 1 _ rfl
    have g2:=hg 2 _ rfl
    have g3:=hg 3 _ rfl
    have g4:=hg 4 _ rfl
    have g5:=hg 5 _ rfl
    change DataW.trod enc Tryz.prog w base sp held n 9 ((((cs.drop (i*6)).take 6).drop 0).take (Tryz.prog.cellsOf 9))=_ at g0
    rw [hcs] at g0
    change DataW.trod enc Tryz.prog w base sp held n 3 ((((cs.drop (i*6)).take 6).drop 1).take (Tryz.prog.cellsOf 3))=_ at g1
    rw [hci] at g1
    change DataW.trod enc Tryz.prog w base sp held n 3 ((((cs.drop (i*6)).take 6).drop 2).take (Tryz.prog.cellsOf 3))=_ at g2
    rw [hci] at g2
    change DataW.trod enc Tryz.prog w base sp held n 3 ((((cs.drop (i*6)).take 6).drop 3).take (Tryz.prog.cellsOf 3))=_ at g3
    rw [hci] at g3
    change DataW.trod enc Tryz.prog w base sp held n 3 ((((cs.drop (i*6)).take 6).drop 4).take (Tryz.prog.cellsOf 3))=_ at g4
    rw [hci] at g4
    change DataW.trod enc Tryz.prog w base sp held n 3 ((((cs.drop (i*6)).take 6).drop 5).take (Tryz.prog.cellsOf 3))=_ at g5
    rw [hci] at g5
    obtain ⟨s0,a0,b0,_⟩:=DataW.trod_string Tryz.underlying9 g0
    obtain ⟨s1,a1,b1,_⟩:=DataW.trod_int Tryz.underlying3 g1
    obtain ⟨s2,a2,b2,_⟩:=DataW.trod_int Tryz.underlying3 g2
    obtain ⟨s3,a3,b3,_⟩:=DataW.trod_int Tryz.underlying3 g3
    obtain ⟨s4,a4,b4,_⟩:=DataW.trod_int Tryz.underlying3 g4
    obtain ⟨s5,a5,b5,_⟩:=DataW.trod_int Tryz.underlying3 g5
    subst b0 b1 b2 b3 b4 b5
    rw [hy] at h2
    simp only [List.map_cons,List.map_nil,DataW.agg.injEq,List.cons.injEq,DataW.lit.injEq,Lit.string.injEq,Lit.int.injEq,true_and,and_true] at h2
    obtain ⟨e0,e1,e2,e3,e4,e5⟩:=h2
    have get:∀ (o:Nat) (v:Value),(((cs.drop (i*6)).take 6).drop o).take 1=[v]→o<6→cs[i*6+o]?=some v:=fun o v hv ho=>by
     have:=congrArg (·[0]?) hv
     simpa [List.getElem?_take,List.getElem?_drop,ho] using this
    refine ⟨?_,?_,?_,?_,?_,?_⟩
    ·have:=get 0 _ a0 (by decide)
     rw [Nat.add_zero] at this
     rw [this,e0]
     rfl
    ·rw [get 1 _ a1 (by decide),e1]
    ·rw [get 2 _ a2 (by decide),e2]
    ·rw [get 3 _ a3 (by decide),e3]
    ·rw [get 4 _ a4 (by decide),e4]
    ·rw [get 5 _ a5 (by decide),e5]
  ·cases h
end
theorem shp_data:Rows.laid_beadle_code_shapes (H:=Unit)=.agg (shpT.map fun s=>.agg [.lit (.string s.word),.lit (.int .i64 s.kind),.lit (.int .i64 s.lo),.lit (.int .i64 s.hi),.lit (.int .i64 s.takes),.lit (.int .i64 s.lays)]):=by kernel_rfl
theorem of_laid8 {W:World} (h:laidMetH Tryz.prog laid8 W):Shaped5 W:=by
 rw [MakeChecks.laidMetH_plain _ _ _ (by kernel_rfl)] at h
 have hshp:laidMet Tryz.prog laid8 W:=h
 unfold laid8 at hshp
 rw [show Rows.engineRunsRow.laid=[((Rows.engineRunsRow.laid.map (·.1)).getD 0 default,Rows.laid_beadle_code_shapes)] from rfl,shp_data] at hshp
 refine ⟨?_⟩
 ·obtain ⟨ps,⟨g',t',cs,fuel,p,q,hg',ht',hvar,hd,_,_⟩,_⟩:=hshp
  obtain rfl:t'=307:=(Option.some.inj ((show (Tryz.prog.globals[g']?).map (·.type)=some 307 by rw [← Option.some.inj ((show Tryz.prog.globalNamed ((Rows.engineRunsRow.laid.map (·.1)).getD 0 default)=some 1 by kernel_rfl).symm.trans hg')];kernel_rfl).symm.trans ht')).symm
  intro k hk
  obtain ⟨a0,a1,a2,a3,a4,a5⟩:=shps_of hd k hk
  have cell:=fun i=>World.var?_cell (show Tryz.prog.globalNamed ((Rows.engineRunsRow.laid.map (·.1)).getD 0 default)=some 1 by kernel_rfl) hvar i
  exact ⟨by rw [cell];simpa using a0,by rw [cell];simpa using a1,by rw [cell];simpa using a2,by rw [cell];simpa using a3,by rw [cell];simpa using a4,by rw [cell];simpa using a5⟩
theorem door_met (os:Os) (args:Array Value):laidMetH Tryz.prog laid8 ((World.doorLaid Tryz.prog 400 os).forCall (fun _ _=>0) ⟨#[],args,[]⟩).memory :=
 laidMetH_of_parts3 (fuel:=8) (laidMet_of_run' 8 (by kernel_rfl) (by kernel_rfl)) (by kernel_rfl) (by kernel_rfl)
theorem laidOut:laidOutB Tryz.prog=true:=by kernel_rfl
section
variable {H:Type} {enc:TypeId × Value→H}
theorem wrap5 {a:Assume} {C:Checked} {os:Os} {f:FuncId} {fn:Func} {s:ChangeSpec} {conds:List PathCond} {apart fresh handsOn again:Bool} {X:World→Array Value→Prop}
  (hX:∀ (w w':World) (args:Array Value),w.heap=w'.heap→X w args→X w' args)
  (own:ownKnob C.prog.godebug=none) (started:os.Started) (noInit:C.prog.inits.idxOf? f=none) (hfn:C.prog.funcs[f]?=some fn)
  (witness:∃ (w:World) (tape:Tape) (i:Input),w.os=os∧(w.forCall tape i).Shaped C.prog∧i.vars=[]∧Input.okWide C.prog (w.forCall tape i) .any w.heap.size f i ∧
   ((s.pre enc C.prog fn conds apart (w.forCall tape i).memory i.args∧X (w.forCall tape i).memory i.args)∧sizedMet enc C.prog fn (OpenSpec.ofChange s) apart (w.forCall tape i).memory i.args)∧a.holds C.prog (lone (Frame.enter C.prog f i.args .normal) [] (w.forCall tape i)))
  (contract:∀ (W:World) (base:Nat) (args:Array Value) (ds gs:List (DataW H)) (before:List MemPlace),
   (∀ (j:Nat) t v,fn.params[j]?=some t→args[j]?=some v→Value.okWide C.prog W .any base t v) →
   DataW.Whole enc C.prog fn.params.toList s.vars apart W args.toList ds gs before →
   (DataW.weightsEach C.prog (fn.params.toList ++ s.plain.varTypes C.prog) (ds ++ gs)).all (·≤reachBytes)=true→X W args→W.ShapedOpen C.prog →
   Calls C.prog f args W fun e W'=>∃ v,e=.returned v∧s.post enc C.prog fn apart fresh handsOn again W args v W') :
  ReturnsInHanded a C os f .any (fun w args=>(s.pre enc C.prog fn conds apart w args∧X w args)∧sizedMet enc C.prog fn (OpenSpec.ofChange s) apart w args) (s.post enc C.prog fn apart fresh handsOn again):=by
 refine returnsInHanded_of_calls own started noInit witness fun w tape i _ hsh _ hok hpre _=>?_
 obtain ⟨_,_,_,fn',hfn',_,_,_,_,hval⟩:=hok
 obtain rfl:fn'=fn:=Option.some.inj (hfn'.symm.trans hfn)
 obtain ⟨⟨⟨ds,gs,before,hw,_⟩,hx⟩,hz⟩:=hpre
 exact (contract (w.forCall tape i) w.heap.size i.args ds gs before hval (DataW.Whole.of_heap (w':=w.forCall tape i) (by rfl) hw) (hz.weights hw) (hX _ _ _ (by rfl) hx) hsh).mono fun e W' ⟨v,he,hp⟩=>by
  subst he
  exact ChangeSpec.post_blind hp
theorem wf_f64 {b:Nat} (h:(Lit.float .f64 b).wf=true):b<18446744073709551616:=by simpa [Lit.wf] using h
theorem trod_f64w {P:Program} {t:TypeId} {w:World} {base:Nat} {sp:Nat→Bool} {held:Bool} {fuel:Nat} {cs:List Value} {x:DataW H × List MemPlace} (ht:P.underlying t=some (.float .f64)) (h:DataW.trod enc P w base sp held fuel t cs=some x):∃ b:Nat,cs=[.float .f64 b]∧(Lit.float .f64 b).wf=true:=by
 cases fuel with
 | zero=>simp [DataW.trod] at h
 | succ n =>
  unfold DataW.trod at h
  rw [ht] at h
  split at h <;> simp_all
theorem trod_f64 {w:World} {base:Nat} {sp:Nat→Bool} {held:Bool} {fuel:Nat} {cs:List Value} {x:DataW H × List MemPlace} (h:DataW.trod enc Tryz.prog w base sp held fuel 71 cs=some x):∃ b:Nat,cs=[.float .f64 b]∧b<18446744073709551616:=by
 obtain ⟨b,h1,h2⟩:=trod_f64w Tryz.underlying71 h
 exact ⟨b,h1,wf_f64 h2⟩
theorem cellsF:Tryz.prog.cellsOf 71=1:=by kernel_rfl
theorem bytesF:Tryz.prog.bytesOf 71=8:=by kernel_rfl
end
end Go.Proofs.YtlkldgopliablaaGreatDoor
namespace Go.Proofs.YtlkldgopliablaaGreatDoor
open Go.ChangeShapes Go.WideShapes Go.ChangeAt Go.RowKit Num
attribute [local go_sem] run_store_float
section
variable {W w:World} {b:Nat} {F0 K:List Nat} {m:Mac}
theorem Gm.both (h:Gm W F0 b K w m) (i:Ins):∃ F,Gm ((w.alloc (insO i)).alloc (askO ask0)) F b K ((w.alloc (insO i)).alloc (askO ask0)) m∧∀ w' m',Gm ((w.alloc (insO i)).alloc (askO ask0)) F b K w' m'→w'.heap[w.heap.size]?=some (insO i)∧w'.heap[w.heap.size+1]?=some (askO ask0)∧∀ w'',Turn [w.heap.size+1] [w.heap.size+1] w' w''→Gm W F0 b K w'' m':=by
 obtain ⟨F1,hM1,hT1⟩:=h.mc
 have hb1:Blw w F1:=hM1.blw
 have hM3:=hM1.on ((below_alloc w (insO i)).trans ((below_alloc _ (askO ask0)).mono (by simp)))
 refine ⟨F1,hM3.gm,fun w' m' hg=>?_⟩
 have a1:w'.heap[w.heap.size]?=some (insO i):=(hg.far (by simp;omega) (fun q=>absurd (hb1 _ q) (Nat.lt_irrefl _))).trans ((heap_alloc_old _ _ (by simp)).trans (heap_alloc_new w _))
 have a2:w'.heap[w.heap.size+1]?=some (askO ask0):=(hg.far (by simp) (fun q=>absurd (hb1 _ q) (by omega))).trans (heap_new (by simp))
 refine ⟨a1,a2,fun w'' t=>?_⟩
 obtain ⟨p,q1,q2,q3⟩:=hg
 have n1:w.heap.size+1∉p.F b:=fun q=>(q2.own _ q).elim (fun z=>absurd (hb1 _ z) (by omega)) (fun z=>by simp at z;omega)
 have n2:w.heap.size+1∉fpR p.pk:=fun q=>by rw [← q3] at q;exact absurd (hM1.blwK _ q) (by omega)
 have s1:Sep (p.F b) [w.heap.size+1]:=fun k hk q=>n1 (by simp at q;rw [← q];exact hk)
 have s2:Sep (fpR p.pk) [w.heap.size+1]:=fun k hk q=>n2 (by simp at q;rw [← q];exact hk)
 have hs:w.heap.size≤w'.heap.size:=Nat.le_trans (by simp;omega) q2.size
 refine ⟨p,q1.keep (t.kept s1 q1.blw) (t.kept s2 q1.ltk),hT1.trans ⟨t.os.trans q2.os,t.tape.trans q2.tape,t.output.trans q2.output,Nat.le_trans hs t.size,fun k hk hf=>?_,fun k hk=>?_⟩,q3⟩
 ·exact (t.block k (Nat.lt_of_lt_of_le hk hs) (by simp;omega)).trans ((q2.block k (by simp;omega) hf).trans ((heap_alloc_old _ _ (by simp;omega)).trans (heap_alloc_old w _ hk)))
 ·exact (q2.own k hk).imp id (fun z=>by simp at z;omega)
theorem both_shaped (hT:Shaped5 w) (i:Ins):Shaped5 ((w.alloc (insO i)).alloc (askO ask0)):=hT.on ((below_alloc w (insO i)).trans ((below_alloc _ (askO ask0)).mono (by simp)))
theorem do_A (h:Gm W F0 b K w m) (hT:Shaped5 w) {k:Nat} {n:Int} {x:Nat} {m':Mac} (x16:¬ (k:Int)=16) (x17:¬ (k:Int)=17) (x19:¬ (k:Int)=19) (x20:¬ (k:Int)=20) (x15:¬ (k:Int)=15) (x11:¬ (k:Int)=11) (x12:¬ (k:Int)=12) (x13:¬ (k:Int)=13) (x14:¬ (k:Int)=14) (hR:∀ W F0 w,Gm W F0 b K w m→Calls Tryz.prog 238 #[.pointer (some ⟨b,0,none⟩),.agg #[.int .i64 (k:Int),.int .i64 n,.float .f64 x]] w fun r w'=>r=.returned (.tuple #[])∧Gm W F0 b K w' m') (hF:∀ W F0 w,Gm W F0 b K w m→Shaped5 w→Calls Tryz.prog 233 #[.pointer (some ⟨b,0,none⟩),.agg #[.int .i64 (k:Int),.int .i64 n,.float .f64 x]] w fun r w'=>r=.returned (.tuple #[])∧Below w.heap.size w w'):Calls Tryz.prog 224 #[.pointer (some ⟨b,0,none⟩),.agg #[.int .i64 (k:Int),.int .i64 n,.float .f64 x]] w fun r w'=>r=.returned (askV ask0)∧Gm W F0 b K w' m':=by
 obtain ⟨F,h1,hX⟩:=h.both ⟨(k:Int),n,x⟩
 have HF:=Lib.hid (hF _ _ _ h1 (both_shaped hT _))
 have HG:=Lib.hid h1
 have HX:=Lib.hid hX
 have HR:=Lib.hid hR
 clear h h1 hX hT hF hR
 go_enter Tryz.func224,Tryz.ntmps224
 go_wp2_with (first
  | (go_at_call 238;refine (HR.out _ _ _ G0.out).mono ?_;rintro e u1 ⟨rfl,q⟩;obtain ⟨r1,r2,r3⟩:=HX.out _ _ q;obtain ⟨⟨d0,d1,d2,d3,d4⟩,d5,d6,d7,d8⟩:=askO_cells r2;have G1:=Lib.hid (And.intro r2 r3);clear q r1 r2 r3)
  | (go_at_call 233;refine HF.out.mono ?_;rintro e u0 ⟨rfl,q⟩;have q0:=HG.out.on q;obtain ⟨r1,r2,r3⟩:=HX.out _ _ q0;obtain ⟨c0,c1,c2,c3⟩:=insO_cells r1;obtain ⟨⟨k0,k1,k2,k3,k4⟩,k5,k6,k7,k8⟩:=askO_cells r2;have G0:=Lib.hid q0;clear q q0 r1 r2 r3))
 exact ask_back rfl (w.heap.size+1) ask0 rfl (askO_set (k':=ask0) G1.out.1) rfl ⟨rfl,G1.out.2 _ (turn4 _ _ (.int .i64 0) (.int .i64 0) (.float .f64 0) (.bool false))⟩
theorem do_B11 (h:Gm W F0 b K w m) (hT:Shaped5 w) {n:Int} {x:Nat} {m':Mac} (hR:∀ W F0 w,Gm W F0 b K w m→Calls Tryz.prog 237 #[.pointer (some ⟨b,0,none⟩),.agg #[.int .i64 11,.int .i64 n,.float .f64 x]] w fun r w'=>r=.returned (.tuple #[])∧Gm W F0 b K w' m') (hF:∀ W F0 w,Gm W F0 b K w m→Shaped5 w→Calls Tryz.prog 233 #[.pointer (some ⟨b,0,none⟩),.agg #[.int .i64 11,.int .i64 n,.float .f64 x]] w fun r w'=>r=.returned (.tuple #[])∧Below w.heap.size w w'):Calls Tryz.prog 224 #[.pointer (some ⟨b,0,none⟩),.agg #[.int .i64 11,.int .i64 n,.float .f64 x]] w fun r w'=>r=.returned (askV ask0)∧Gm W F0 b K w' m':=by
 obtain ⟨F,h1,hX⟩:=h.both ⟨11,n,x⟩
 have HF:=Lib.hid (hF _ _ _ h1 (both_shaped hT _))
 have HG:=Lib.hid h1
 have HX:=Lib.hid hX
 have HR:=Lib.hid hR
 clear h h1 hX hT hF hR
 go_enter Tryz.func224,Tryz.ntmps224
 go_wp2_with (first
  | (go_at_call 237;refine (HR.out _ _ _ G0.out).mono ?_;rintro e u1 ⟨rfl,q⟩;obtain ⟨r1,r2,r3⟩:=HX.out _ _ q;obtain ⟨⟨d0,d1,d2,d3,d4⟩,d5,d6,d7,d8⟩:=askO_cells r2;have G1:=Lib.hid (And.intro r2 r3);clear q r1 r2 r3)
  | (go_at_call 233;refine HF.out.mono ?_;rintro e u0 ⟨rfl,q⟩;have q0:=HG.out.on q;obtain ⟨r1,r2,r3⟩:=HX.out _ _ q0;obtain ⟨c0,c1,c2,c3⟩:=insO_cells r1;obtain ⟨⟨k0,k1,k2,k3,k4⟩,k5,k6,k7,k8⟩:=askO_cells r2;have G0:=Lib.hid q0;clear q q0 r1 r2 r3))
 exact ask_back rfl (w.heap.size+1) ask0 rfl (askO_set (k':=ask0) G1.out.1) rfl ⟨rfl,G1.out.2 _ (turn4 _ _ (.int .i64 0) (.int .i64 0) (.float .f64 0) (.bool false))⟩
theorem do_B12 (h:Gm W F0 b K w m) (hT:Shaped5 w) {n:Int} {x:Nat} {m':Mac} (hR:∀ W F0 w,Gm W F0 b K w m→Calls Tryz.prog 237 #[.pointer (some ⟨b,0,none⟩),.agg #[.int .i64 12,.int .i64 n,.float .f64 x]] w fun r w'=>r=.returned (.tuple #[])∧Gm W F0 b K w' m') (hF:∀ W F0 w,Gm W F0 b K w m→Shaped5 w→Calls Tryz.prog 233 #[.pointer (some ⟨b,0,none⟩),.agg #[.int .i64 12,.int .i64 n,.float .f64 x]] w fun r w'=>r=.returned (.tuple #[])∧Below w.heap.size w w'):Calls Tryz.prog 224 #[.pointer (some ⟨b,0,none⟩),.agg #[.int .i64 12,.int .i64 n,.float .f64 x]] w fun r w'=>r=.returned (askV ask0)∧Gm W F0 b K w' m':=by
 obtain ⟨F,h1,hX⟩:=h.both ⟨12,n,x⟩
 have HF:=Lib.hid (hF _ _ _ h1 (both_shaped hT _))
 have HG:=Lib.hid h1
 have HX:=Lib.hid hX
 have HR:=Lib.hid hR
 clear h h1 hX hT hF hR
 go_enter Tryz.func224,Tryz.ntmps224
 go_wp2_with (first
  | (go_at_call 237;refine (HR.out _ _ _ G0.out).mono ?_;rintro e u1 ⟨rfl,q⟩;obtain ⟨r1,r2,r3⟩:=HX.out _ _ q;obtain ⟨⟨d0,d1,d2,d3,d4⟩,d5,d6,d7,d8⟩:=askO_cells r2;have G1:=Lib.hid (And.intro r2 r3);clear q r1 r2 r3)
  | (go_at_call 233;refine HF.out.mono ?_;rintro e u0 ⟨rfl,q⟩;have q0:=HG.out.on q;obtain ⟨r1,r2,r3⟩:=HX.out _ _ q0;obtain ⟨c0,c1,c2,c3⟩:=insO_cells r1;obtain ⟨⟨k0,k1,k2,k3,k4⟩,k5,k6,k7,k8⟩:=askO_cells r2;have G0:=Lib.hid q0;clear q q0 r1 r2 r3))
 exact ask_back rfl (w.heap.size+1) ask0 rfl (askO_set (k':=ask0) G1.out.1) rfl ⟨rfl,G1.out.2 _ (turn4 _ _ (.int .i64 0) (.int .i64 0) (.float .f64 0) (.bool false))⟩
theorem do_B13 (h:Gm W F0 b K w m) (hT:Shaped5 w) {n:Int} {x:Nat} {m':Mac} (hR:∀ W F0 w,Gm W F0 b K w m→Calls Tryz.prog 237 #[.pointer (some ⟨b,0,none⟩),.agg #[.int .i64 13,.int .i64 n,.float .f64 x]] w fun r w'=>r=.returned (.tuple #[])∧Gm W F0 b K w' m') (hF:∀ W F0 w,Gm W F0 b K w m→Shaped5 w→Calls Tryz.prog 233 #[.pointer (some ⟨b,0,none⟩),.agg #[.int .i64 13,.int .i64 n,.float .f64 x]] w fun r w'=>r=.returned (.tuple #[])∧Below w.heap.size w w'):Calls Tryz.prog 224 #[.pointer (some ⟨b,0,none⟩),.agg #[.int .i64 13,.int .i64 n,.float .f64 x]] w fun r w'=>r=.returned (askV ask0)∧Gm W F0 b K w' m':=by
 obtain ⟨F,h1,hX⟩:=h.both ⟨13,n,x⟩
 have HF:=Lib.hid (hF _ _ _ h1 (both_shaped hT _))
 have HG:=Lib.hid h1
 have HX:=Lib.hid hX
 have HR:=Lib.hid hR
 clear h h1 hX hT hF hR
 go_enter Tryz.func224,Tryz.ntmps224
 go_wp2_with (first
  | (go_at_call 237;refine (HR.out _ _ _ G0.out).mono ?_;rintro e u1 ⟨rfl,q⟩;obtain ⟨r1,r2,r3⟩:=HX.out _ _ q;obtain ⟨⟨d0,d1,d2,d3,d4⟩,d5,d6,d7,d8⟩:=askO_cells r2;have G1:=Lib.hid (And.intro r2 r3);clear q r1 r2 r3)
  | (go_at_call 233;refine HF.out.mono ?_;rintro e u0 ⟨rfl,q⟩;have q0:=HG.out.on q;obtain ⟨r1,r2,r3⟩:=HX.out _ _ q0;obtain ⟨c0,c1,c2,c3⟩:=insO_cells r1;obtain ⟨⟨k0,k1,k2,k3,k4⟩,k5,k6,k7,k8⟩:=askO_cells r2;have G0:=Lib.hid q0;clear q q0 r1 r2 r3))
 exact ask_back rfl (w.heap.size+1) ask0 rfl (askO_set (k':=ask0) G1.out.1) rfl ⟨rfl,G1.out.2 _ (turn4 _ _ (.int .i64 0) (.int .i64 0) (.float .f64 0) (.bool false))⟩
theorem do_B14 (h:Gm W F0 b K w m) (hT:Shaped5 w) {n:Int} {x:Nat} {m':Mac} (hR:∀ W F0 w,Gm W F0 b K w m→Calls Tryz.prog 237 #[.pointer (some ⟨b,0,none⟩),.agg #[.int .i64 14,.int .i64 n,.float .f64 x]] w fun r w'=>r=.returned (.tuple #[])∧Gm W F0 b K w' m') (hF:∀ W F0 w,Gm W F0 b K w m→Shaped5 w→Calls Tryz.prog 233 #[.pointer (some ⟨b,0,none⟩),.agg #[.int .i64 14,.int .i64 n,.float .f64 x]] w fun r w'=>r=.returned (.tuple #[])∧Below w.heap.size w w'):Calls Tryz.prog 224 #[.pointer (some ⟨b,0,none⟩),.agg #[.int .i64 14,.int .i64 n,.float .f64 x]] w fun r w'=>r=.returned (askV ask0)∧Gm W F0 b K w' m':=by
 obtain ⟨F,h1,hX⟩:=h.both ⟨14,n,x⟩
 have HF:=Lib.hid (hF _ _ _ h1 (both_shaped hT _))
 have HG:=Lib.hid h1
 have HX:=Lib.hid hX
 have HR:=Lib.hid hR
 clear h h1 hX hT hF hR
 go_enter Tryz.func224,Tryz.ntmps224
 go_wp2_with (first
  | (go_at_call 237;refine (HR.out _ _ _ G0.out).mono ?_;rintro e u1 ⟨rfl,q⟩;obtain ⟨r1,r2,r3⟩:=HX.out _ _ q;obtain ⟨⟨d0,d1,d2,d3,d4⟩,d5,d6,d7,d8⟩:=askO_cells r2;have G1:=Lib.hid (And.intro r2 r3);clear q r1 r2 r3)
  | (go_at_call 233;refine HF.out.mono ?_;rintro e u0 ⟨rfl,q⟩;have q0:=HG.out.on q;obtain ⟨r1,r2,r3⟩:=HX.out _ _ q0;obtain ⟨c0,c1,c2,c3⟩:=insO_cells r1;obtain ⟨⟨k0,k1,k2,k3,k4⟩,k5,k6,k7,k8⟩:=askO_cells r2;have G0:=Lib.hid q0;clear q q0 r1 r2 r3))
 exact ask_back rfl (w.heap.size+1) ask0 rfl (askO_set (k':=ask0) G1.out.1) rfl ⟨rfl,G1.out.2 _ (turn4 _ _ (.int .i64 0) (.int .i64 0) (.float .f64 0) (.bool false))⟩
theorem do_read (h:Gm W F0 b K w m) (hT:Shaped5 w) {n:Int} {x:Nat} {m':Mac} {a:Ask} (hR:∀ W F0 w,Gm W F0 b K w m→Calls Tryz.prog 234 #[.pointer (some ⟨b,0,none⟩)] w fun r w'=>r=.returned (askV a)∧Gm W F0 b K w' m') (hF:∀ W F0 w,Gm W F0 b K w m→Shaped5 w→Calls Tryz.prog 233 #[.pointer (some ⟨b,0,none⟩),.agg #[.int .i64 16,.int .i64 n,.float .f64 x]] w fun r w'=>r=.returned (.tuple #[])∧Below w.heap.size w w'):Calls Tryz.prog 224 #[.pointer (some ⟨b,0,none⟩),.agg #[.int .i64 16,.int .i64 n,.float .f64 x]] w fun r w'=>r=.returned (askV a)∧Gm W F0 b K w' m':=by
 obtain ⟨F,h1,hX⟩:=h.both ⟨16,n,x⟩
 have HF:=Lib.hid (hF _ _ _ h1 (both_shaped hT _))
 have HG:=Lib.hid h1
 have HX:=Lib.hid hX
 have HR:=Lib.hid hR
 clear h h1 hX hT hF hR
 go_enter Tryz.func224,Tryz.ntmps224
 go_wp2_with (first
  | (go_at_call 234;refine (HR.out _ _ _ G0.out).mono ?_;rintro e u1 ⟨rfl,q⟩;obtain ⟨r1,r2,r3⟩:=HX.out _ _ q;obtain ⟨⟨d0,d1,d2,d3,d4⟩,d5,d6,d7,d8⟩:=askO_cells r2;have G1:=Lib.hid (And.intro r2 r3);clear q r1 r2 r3;unfold askV)
  | (go_at_call 233;refine HF.out.mono ?_;rintro e u0 ⟨rfl,q⟩;have q0:=HG.out.on q;obtain ⟨r1,r2,r3⟩:=HX.out _ _ q0;obtain ⟨c0,c1,c2,c3⟩:=insO_cells r1;obtain ⟨⟨k0,k1,k2,k3,k4⟩,k5,k6,k7,k8⟩:=askO_cells r2;have G0:=Lib.hid q0;clear q q0 r1 r2 r3))
 exact ask_back rfl (w.heap.size+1) a rfl (askO_set (k':=a) G1.out.1) rfl ⟨rfl,G1.out.2 _ (turn4 _ _ (.int .i64 a.kind) (.int .i64 a.cell) (.float .f64 a.x) (.bool a.first))⟩
theorem do_write (h:Gm W F0 b K w m) (hT:Shaped5 w) {n:Int} {x:Nat} {m':Mac} {a:Ask} (hR:∀ W F0 w,Gm W F0 b K w m→Calls Tryz.prog 235 #[.pointer (some ⟨b,0,none⟩)] w fun r w'=>r=.returned (askV a)∧Gm W F0 b K w' m') (hF:∀ W F0 w,Gm W F0 b K w m→Shaped5 w→Calls Tryz.prog 233 #[.pointer (some ⟨b,0,none⟩),.agg #[.int .i64 17,.int .i64 n,.float .f64 x]] w fun r w'=>r=.returned (.tuple #[])∧Below w.heap.size w w'):Calls Tryz.prog 224 #[.pointer (some ⟨b,0,none⟩),.agg #[.int .i64 17,.int .i64 n,.float .f64 x]] w fun r w'=>r=.returned (askV a)∧Gm W F0 b K w' m':=by
 obtain ⟨F,h1,hX⟩:=h.both ⟨17,n,x⟩
 have HF:=Lib.hid (hF _ _ _ h1 (both_shaped hT _))
 have HG:=Lib.hid h1
 have HX:=Lib.hid hX
 have HR:=Lib.hid hR
 clear h h1 hX hT hF hR
 go_enter Tryz.func224,Tryz.ntmps224
 go_wp2_with (first
  | (go_at_call 235;refine (HR.out _ _ _ G0.out).mono ?_;rintro e u1 ⟨rfl,q⟩;obtain ⟨r1,r2,r3⟩:=HX.out _ _ q;obtain ⟨⟨d0,d1,d2,d3,d4⟩,d5,d6,d7,d8⟩:=askO_cells r2;have G1:=Lib.hid (And.intro r2 r3);clear q r1 r2 r3;unfold askV)
  | (go_at_call 233;refine HF.out.mono ?_;rintro e u0 ⟨rfl,q⟩;have q0:=HG.out.on q;obtain ⟨r1,r2,r3⟩:=HX.out _ _ q0;obtain ⟨c0,c1,c2,c3⟩:=insO_cells r1;obtain ⟨⟨k0,k1,k2,k3,k4⟩,k5,k6,k7,k8⟩:=askO_cells r2;have G0:=Lib.hid q0;clear q q0 r1 r2 r3))
 exact ask_back rfl (w.heap.size+1) a rfl (askO_set (k':=a) G1.out.1) rfl ⟨rfl,G1.out.2 _ (turn4 _ _ (.int .i64 a.kind) (.int .i64 a.cell) (.float .f64 a.x) (.bool a.first))⟩
theorem do_ret (h:Gm W F0 b K w m) (hT:Shaped5 w) {n:Int} {x:Nat} {m':Mac} {a:Ask} (hR:∀ W F0 w,Gm W F0 b K w m→Calls Tryz.prog 236 #[.pointer (some ⟨b,0,none⟩)] w fun r w'=>r=.returned (askV a)∧Gm W F0 b K w' m') (hF:∀ W F0 w,Gm W F0 b K w m→Shaped5 w→Calls Tryz.prog 233 #[.pointer (some ⟨b,0,none⟩),.agg #[.int .i64 15,.int .i64 n,.float .f64 x]] w fun r w'=>r=.returned (.tuple #[])∧Below w.heap.size w w'):Calls Tryz.prog 224 #[.pointer (some ⟨b,0,none⟩),.agg #[.int .i64 15,.int .i64 n,.float .f64 x]] w fun r w'=>r=.returned (askV a)∧Gm W F0 b K w' m':=by
 obtain ⟨F,h1,hX⟩:=h.both ⟨15,n,x⟩
 have HF:=Lib.hid (hF _ _ _ h1 (both_shaped hT _))
 have HG:=Lib.hid h1
 have HX:=Lib.hid hX
 have HR:=Lib.hid hR
 clear h h1 hX hT hF hR
 go_enter Tryz.func224,Tryz.ntmps224
 go_wp2_with (first
  | (go_at_call 236;refine (HR.out _ _ _ G0.out).mono ?_;rintro e u1 ⟨rfl,q⟩;obtain ⟨r1,r2,r3⟩:=HX.out _ _ q;obtain ⟨⟨d0,d1,d2,d3,d4⟩,d5,d6,d7,d8⟩:=askO_cells r2;have G1:=Lib.hid (And.intro r2 r3);clear q r1 r2 r3;unfold askV)
  | (go_at_call 233;refine HF.out.mono ?_;rintro e u0 ⟨rfl,q⟩;have q0:=HG.out.on q;obtain ⟨r1,r2,r3⟩:=HX.out _ _ q0;obtain ⟨c0,c1,c2,c3⟩:=insO_cells r1;obtain ⟨⟨k0,k1,k2,k3,k4⟩,k5,k6,k7,k8⟩:=askO_cells r2;have G0:=Lib.hid q0;clear q q0 r1 r2 r3))
 exact ask_back rfl (w.heap.size+1) a rfl (askO_set (k':=a) G1.out.1) rfl ⟨rfl,G1.out.2 _ (turn4 _ _ (.int .i64 a.kind) (.int .i64 a.cell) (.float .f64 a.x) (.bool a.first))⟩
theorem do_read_no (h:Gm W F0 b K w m) (hT:Shaped5 w) {n:Int} {x:Nat} {e0:Int} (hR:∀ W F0 w,Gm W F0 b K w m→Calls Tryz.prog 234 #[.pointer (some ⟨b,0,none⟩)] w fun r w'=>r=gaveM e0∧Gm W F0 b K w' m) (hF:∀ W F0 w,Gm W F0 b K w m→Shaped5 w→Calls Tryz.prog 233 #[.pointer (some ⟨b,0,none⟩),.agg #[.int .i64 16,.int .i64 n,.float .f64 x]] w fun r w'=>r=.returned (.tuple #[])∧Below w.heap.size w w'):Calls Tryz.prog 224 #[.pointer (some ⟨b,0,none⟩),.agg #[.int .i64 16,.int .i64 n,.float .f64 x]] w fun r w'=>r=gaveM e0∧Gm W F0 b K w' m:=by
 obtain ⟨F,h1,hX⟩:=h.both ⟨16,n,x⟩
 have HF:=Lib.hid (hF _ _ _ h1 (both_shaped hT _))
 have HG:=Lib.hid h1
 have HX:=Lib.hid hX
 have HR:=Lib.hid hR
 clear h h1 hX hT hF hR
 go_enter Tryz.func224,Tryz.ntmps224
 go_wp2_with (first
  | (go_at_call 234;refine (HR.out _ _ _ G0.out).mono ?_;rintro e u1 ⟨rfl,q⟩;have G1:=Lib.hid ((HX.out _ _ q).2.2 _ (Turn.refl _ _));clear q)
  | (go_at_call 233;refine HF.out.mono ?_;rintro e u0 ⟨rfl,q⟩;have q0:=HG.out.on q;obtain ⟨r1,r2,r3⟩:=HX.out _ _ q0;obtain ⟨c0,c1,c2,c3⟩:=insO_cells r1;obtain ⟨⟨k0,k1,k2,k3,k4⟩,k5,k6,k7,k8⟩:=askO_cells r2;have G0:=Lib.hid q0;clear q q0 r1 r2 r3))
 exact ⟨rfl,rfl,G1.out⟩
theorem do_write_no (h:Gm W F0 b K w m) (hT:Shaped5 w) {n:Int} {x:Nat} {e0:Int} (hR:∀ W F0 w,Gm W F0 b K w m→Calls Tryz.prog 235 #[.pointer (some ⟨b,0,none⟩)] w fun r w'=>r=gaveM e0∧Gm W F0 b K w' m) (hF:∀ W F0 w,Gm W F0 b K w m→Shaped5 w→Calls Tryz.prog 233 #[.pointer (some ⟨b,0,none⟩),.agg #[.int .i64 17,.int .i64 n,.float .f64 x]] w fun r w'=>r=.returned (.tuple #[])∧Below w.heap.size w w'):Calls Tryz.prog 224 #[.pointer (some ⟨b,0,none⟩),.agg #[.int .i64 17,.int .i64 n,.float .f64 x]] w fun r w'=>r=gaveM e0∧Gm W F0 b K w' m:=by
 obtain ⟨F,h1,hX⟩:=h.both ⟨17,n,x⟩
 have HF:=Lib.hid (hF _ _ _ h1 (both_shaped hT _))
 have HG:=Lib.hid h1
 have HX:=Lib.hid hX
 have HR:=Lib.hid hR
 clear h h1 hX hT hF hR
 go_enter Tryz.func224,Tryz.ntmps224
 go_wp2_with (first
  | (go_at_call 235;refine (HR.out _ _ _ G0.out).mono ?_;rintro e u1 ⟨rfl,q⟩;have G1:=Lib.hid ((HX.out _ _ q).2.2 _ (Turn.refl _ _));clear q)
  | (go_at_call 233;refine HF.out.mono ?_;rintro e u0 ⟨rfl,q⟩;have q0:=HG.out.on q;obtain ⟨r1,r2,r3⟩:=HX.out _ _ q0;obtain ⟨c0,c1,c2,c3⟩:=insO_cells r1;obtain ⟨⟨k0,k1,k2,k3,k4⟩,k5,k6,k7,k8⟩:=askO_cells r2;have G0:=Lib.hid q0;clear q q0 r1 r2 r3))
 exact ⟨rfl,rfl,G1.out⟩
theorem do_19 (h:Gm W F0 b K w m) (hT:Shaped5 w) {n:Int} {x:Nat} (hF:∀ W F0 w,Gm W F0 b K w m→Shaped5 w→Calls Tryz.prog 233 #[.pointer (some ⟨b,0,none⟩),.agg #[.int .i64 19,.int .i64 n,.float .f64 x]] w fun r w'=>r=.returned (.tuple #[])∧Below w.heap.size w w'):Calls Tryz.prog 224 #[.pointer (some ⟨b,0,none⟩),.agg #[.int .i64 19,.int .i64 n,.float .f64 x]] w fun r w'=>r=.returned (askV askEnd)∧Gm W F0 b K w' { m with how:=2,cod:=n,err:=0 }:=by
 obtain ⟨F,h1,hX⟩:=h.both ⟨19,n,x⟩
 have HF:=Lib.hid (hF _ _ _ h1 (both_shaped hT _))
 have HG:=Lib.hid h1
 have HX:=Lib.hid hX
 clear h h1 hX hT hF
 go_enter Tryz.func224,Tryz.ntmps224
 go_wp2_with (first
  | (go_at_call 223;refine (ends_any G0.out 2 n 0).mono ?_;rintro e u1 ⟨rfl,q⟩;obtain ⟨r1,r2,r3⟩:=HX.out _ _ q;obtain ⟨⟨d0,d1,d2,d3,d4⟩,d5,d6,d7,d8⟩:=askO_cells r2;have G1:=Lib.hid (And.intro r2 r3);clear q r1 r2 r3;unfold askV)
  | (go_at_call 233;refine HF.out.mono ?_;rintro e u0 ⟨rfl,q⟩;have q0:=HG.out.on q;obtain ⟨r1,r2,r3⟩:=HX.out _ _ q0;obtain ⟨c0,c1,c2,c3⟩:=insO_cells r1;obtain ⟨⟨k0,k1,k2,k3,k4⟩,k5,k6,k7,k8⟩:=askO_cells r2;have G0:=Lib.hid q0;clear q q0 r1 r2 r3))
 exact ask_back rfl (w.heap.size+1) askEnd rfl (askO_set (k':=askEnd) G1.out.1) rfl ⟨rfl,G1.out.2 _ (turn4 _ _ (.int .i64 4) (.int .i64 0) (.float .f64 0) (.bool false))⟩
theorem do_20 (h:Gm W F0 b K w m) (hT:Shaped5 w) {n:Int} {x:Nat} (hF:∀ W F0 w,Gm W F0 b K w m→Shaped5 w→Calls Tryz.prog 233 #[.pointer (some ⟨b,0,none⟩),.agg #[.int .i64 20,.int .i64 n,.float .f64 x]] w fun r w'=>r=.returned (.tuple #[])∧Below w.heap.size w w'):Calls Tryz.prog 224 #[.pointer (some ⟨b,0,none⟩),.agg #[.int .i64 20,.int .i64 n,.float .f64 x]] w fun r w'=>r=.returned (askV askEnd)∧Gm W F0 b K w' { m with how:=1,cod:=0,err:=0 }:=by
 obtain ⟨F,h1,hX⟩:=h.both ⟨20,n,x⟩
 have HF:=Lib.hid (hF _ _ _ h1 (both_shaped hT _))
 have HG:=Lib.hid h1
 have HX:=Lib.hid hX
 clear h h1 hX hT hF
 go_enter Tryz.func224,Tryz.ntmps224
 go_wp2_with (first
  | (go_at_call 223;refine (ends_any G0.out 1 0 0).mono ?_;rintro e u1 ⟨rfl,q⟩;obtain ⟨r1,r2,r3⟩:=HX.out _ _ q;obtain ⟨⟨d0,d1,d2,d3,d4⟩,d5,d6,d7,d8⟩:=askO_cells r2;have G1:=Lib.hid (And.intro r2 r3);clear q r1 r2 r3;unfold askV)
  | (go_at_call 233;refine HF.out.mono ?_;rintro e u0 ⟨rfl,q⟩;have q0:=HG.out.on q;obtain ⟨r1,r2,r3⟩:=HX.out _ _ q0;obtain ⟨c0,c1,c2,c3⟩:=insO_cells r1;obtain ⟨⟨k0,k1,k2,k3,k4⟩,k5,k6,k7,k8⟩:=askO_cells r2;have G0:=Lib.hid q0;clear q q0 r1 r2 r3))
 exact ask_back rfl (w.heap.size+1) askEnd rfl (askO_set (k':=askEnd) G1.out.1) rfl ⟨rfl,G1.out.2 _ (turn4 _ _ (.int .i64 4) (.int .i64 0) (.float .f64 0) (.bool false))⟩
theorem do_unfit {k:Nat} {n:Int} {x:Nat} (h:Gm W F0 b K w m) (hT:Shaped5 w) (hF:∀ W F0 w,Gm W F0 b K w m→Shaped5 w→Calls Tryz.prog 233 #[.pointer (some ⟨b,0,none⟩),.agg #[.int .i64 (k:Int),.int .i64 n,.float .f64 x]] w fun r w'=>r=gaveM 82∧Below w.heap.size w w'):Calls Tryz.prog 224 #[.pointer (some ⟨b,0,none⟩),.agg #[.int .i64 (k:Int),.int .i64 n,.float .f64 x]] w fun r w'=>r=gaveM 82∧Gm W F0 b K w' m:=by
 obtain ⟨F,h1,hX⟩:=h.both ⟨(k:Int),n,x⟩
 have HF:=Lib.hid (hF _ _ _ h1 (both_shaped hT _))
 have HG:=Lib.hid h1
 have HX:=Lib.hid hX
 clear h h1 hX hT hF
 go_enter Tryz.func224,Tryz.ntmps224
 go_wp2_with (go_at_call 233;refine HF.out.mono ?_;rintro e u0 ⟨rfl,q⟩;have G1:=Lib.hid ((HX.out _ _ (HG.out.on q)).2.2 _ (Turn.refl _ _));clear q)
 exact ⟨rfl,rfl,G1.out⟩
end
end Go.Proofs.YtlkldgopliablaaGreatDoor
namespace Go.Proofs.YtlkldgopliablaaGreatDoor
open Go.ChangeShapes Go.WideShapes Go.ChangeAt Go.RowKit Num
def doF (m:Mac) (i:Ins):Mac × Ask:=if roomB m i then doM m i else failM m 82
theorem st1 {l:List Nat} (h:1≤l.length):∃ y s,l=y::s:=by
 match l,h with
 | y::s,_=>exact ⟨y,s,rfl⟩
theorem st2 {l:List Nat} (h:2≤l.length):∃ y z s,l=y::z::s:=by
 match l,h with
 | y::z::s,_=>exact ⟨y,z,s,rfl⟩
 | [y],h=>exact absurd h (by simp)
theorem room_parts {m:Mac} {k:Nat} {n:Int} {x:Nat} (h:roomB m ⟨k,n,x⟩=true):(k≠5→(shp k).takes≤(m.st.length:Int))∧(k=5→n+1≤(m.st.length:Int))∧(m.st.length:Int) - (shp k).takes+(shp k).lays≤64∧(k=14→m.calls.length<16):=by
 unfold roomB leastI takesI laysI at h
 simp only [Int.toNat_natCast,Bool.and_eq_true,decide_eq_true_eq,Bool.not_eq_true',Bool.and_eq_false_iff,decide_eq_false_iff_not] at h
 obtain ⟨⟨h1,h2⟩,h3⟩:=h
 refine ⟨fun hk=>?_,fun hk=>?_,h2,fun hk=>?_⟩
 ·rw [if_neg (by omega)] at h1
  exact h1
 ·rw [if_pos (by omega)] at h1
  exact h1
 ·rcases h3 with h3 | h3
  ·exact absurd (by omega) h3
  ·omega
theorem fits_parts {k:Nat} {n:Int} {x many:Nat} (h:mayB ⟨k,n,x⟩ many=true):(1≤k∧k<21)∧(shp k).lo≤n∧n≤(shp k).hi:=by
 unfold mayB knownB fitsB at h
 simp only [Bool.and_eq_true,decide_eq_true_eq,Int.toNat_natCast] at h
 omega
theorem retM_nil {m:Mac} (h:m.calls=[]):retM m=({ m with how:=1,cod:=0,err:=0 },askEnd):=by
 unfold retM
 split
 ·rfl
 ·rename_i q;rw [h] at q;cases q
theorem retM_cons {m:Mac} {c:Int} {r:List Int} (h:m.calls=c::r):retM m=({ m with calls:=r,place:=c },ask0):=by
 unfold retM
 split
 ·rename_i q;rw [h] at q;cases q
 ·rename_i q;rw [h] at q;cases q;rfl
section
variable {W w:World} {b:Nat} {F0 K:List Nat} {m:Mac}
theorem do_k1 (h:Gm W F0 b K w m) (hT:Shaped5 w) {n:Int} {x:Nat} (_hlo:(shp 1).lo≤n) (_hhi:n≤(shp 1).hi) (_hst:∀ x∈m.st,okN x) (_hcl:m.cells≤256) (_hre:m.reads.length≤1024) (_hou:m.out.length≤1024)
  (hF:∀ W F0 w,Gm W F0 b K w m→Shaped5 w→Calls Tryz.prog 233 #[.pointer (some ⟨b,0,none⟩),.agg #[.int .i64 ((1:Nat):Int),.int .i64 n,.float .f64 x]] w fun r w'=>r=.returned (.tuple #[])∧Below w.heap.size w w')
  (_r1:1≠5→(shp 1).takes≤(m.st.length:Int)) (_r2:1=5→n+1≤(m.st.length:Int)) (r3:(m.st.length:Int) - (shp 1).takes+(shp 1).lays≤64) (_r4:1=14→m.calls.length<16) :
  Calls Tryz.prog 224 #[.pointer (some ⟨b,0,none⟩),.agg #[.int .i64 ((1:Nat):Int),.int .i64 n,.float .f64 x]] w fun r w'=>Done W F0 b K m (doM m ⟨((1:Nat):Int),n,x⟩) r w':=by
 change (m.st.length:Int) - 0+1≤64 at r3
 exact (do_A h hT (k:=1) (by omega) (by omega) (by omega) (by omega) (by omega) (by omega) (by omega) (by omega) (by omega) (fun W F0 w h=>reckon_1 h n x (by omega)) hF).mono fun r w' ⟨a1,a2⟩=>.inr ⟨a1,by rw [show (doM m ⟨(1:Nat),n,x⟩).1={ m with st:=fixB x::m.st } from rfl];exact a2⟩
theorem do_k2 (h:Gm W F0 b K w m) (hT:Shaped5 w) {n:Int} {x:Nat} (_hlo:(shp 2).lo≤n) (_hhi:n≤(shp 2).hi) (_hst:∀ x∈m.st,okN x) (_hcl:m.cells≤256) (_hre:m.reads.length≤1024) (_hou:m.out.length≤1024)
  (hF:∀ W F0 w,Gm W F0 b K w m→Shaped5 w→Calls Tryz.prog 233 #[.pointer (some ⟨b,0,none⟩),.agg #[.int .i64 ((2:Nat):Int),.int .i64 n,.float .f64 x]] w fun r w'=>r=.returned (.tuple #[])∧Below w.heap.size w w')
  (r1:2≠5→(shp 2).takes≤(m.st.length:Int)) (_r2:2=5→n+1≤(m.st.length:Int)) (_r3:(m.st.length:Int) - (shp 2).takes+(shp 2).lays≤64) (_r4:2=14→m.calls.length<16) :
  Calls Tryz.prog 224 #[.pointer (some ⟨b,0,none⟩),.agg #[.int .i64 ((2:Nat):Int),.int .i64 n,.float .f64 x]] w fun r w'=>Done W F0 b K m (doM m ⟨((2:Nat):Int),n,x⟩) r w':=by
 obtain ⟨y,s,hs⟩:=st1 (l:=m.st) (by have:=r1 (by omega);change (1:Int)≤_ at this;omega)
 exact (do_A h hT (k:=2) (by omega) (by omega) (by omega) (by omega) (by omega) (by omega) (by omega) (by omega) (by omega) (fun W F0 w h=>reckon_2 h n x hs) hF).mono fun r w' ⟨a1,a2⟩=>.inr ⟨a1,by rw [show (doM m ⟨(2:Nat),n,x⟩).1={ m with st:=s } from by show ({ m with st:=m.st.drop 1 }:Mac)=_;rw [hs];rfl];exact a2⟩
theorem do_k3 (h:Gm W F0 b K w m) (hT:Shaped5 w) {n:Int} {x:Nat} (_hlo:(shp 3).lo≤n) (_hhi:n≤(shp 3).hi) (_hst:∀ x∈m.st,okN x) (_hcl:m.cells≤256) (_hre:m.reads.length≤1024) (_hou:m.out.length≤1024)
  (hF:∀ W F0 w,Gm W F0 b K w m→Shaped5 w→Calls Tryz.prog 233 #[.pointer (some ⟨b,0,none⟩),.agg #[.int .i64 ((3:Nat):Int),.int .i64 n,.float .f64 x]] w fun r w'=>r=.returned (.tuple #[])∧Below w.heap.size w w')
  (r1:3≠5→(shp 3).takes≤(m.st.length:Int)) (_r2:3=5→n+1≤(m.st.length:Int)) (r3:(m.st.length:Int) - (shp 3).takes+(shp 3).lays≤64) (_r4:3=14→m.calls.length<16) :
  Calls Tryz.prog 224 #[.pointer (some ⟨b,0,none⟩),.agg #[.int .i64 ((3:Nat):Int),.int .i64 n,.float .f64 x]] w fun r w'=>Done W F0 b K m (doM m ⟨((3:Nat):Int),n,x⟩) r w':=by
 change (m.st.length:Int) - 1+2≤64 at r3
 have r0:=r1 (by omega)
 change (1:Int)≤_ at r0
 exact (do_A h hT (k:=3) (by omega) (by omega) (by omega) (by omega) (by omega) (by omega) (by omega) (by omega) (by omega) (fun W F0 w h=>reckon_3 h n x (by omega) (by omega)) hF).mono fun r w' ⟨a1,a2⟩=>.inr ⟨a1,by rw [show (doM m ⟨(3:Nat),n,x⟩).1={ m with st:=m.st.getD 0 0::m.st } from rfl];exact a2⟩
theorem do_k4 (h:Gm W F0 b K w m) (hT:Shaped5 w) {n:Int} {x:Nat} (_hlo:(shp 4).lo≤n) (_hhi:n≤(shp 4).hi) (_hst:∀ x∈m.st,okN x) (_hcl:m.cells≤256) (_hre:m.reads.length≤1024) (_hou:m.out.length≤1024)
  (hF:∀ W F0 w,Gm W F0 b K w m→Shaped5 w→Calls Tryz.prog 233 #[.pointer (some ⟨b,0,none⟩),.agg #[.int .i64 ((4:Nat):Int),.int .i64 n,.float .f64 x]] w fun r w'=>r=.returned (.tuple #[])∧Below w.heap.size w w')
  (r1:4≠5→(shp 4).takes≤(m.st.length:Int)) (_r2:4=5→n+1≤(m.st.length:Int)) (r3:(m.st.length:Int) - (shp 4).takes+(shp 4).lays≤64) (_r4:4=14→m.calls.length<16) :
  Calls Tryz.prog 224 #[.pointer (some ⟨b,0,none⟩),.agg #[.int .i64 ((4:Nat):Int),.int .i64 n,.float .f64 x]] w fun r w'=>Done W F0 b K m (doM m ⟨((4:Nat):Int),n,x⟩) r w':=by
 obtain ⟨y,z,s,hs⟩:=st2 (l:=m.st) (by have:=r1 (by omega);change (2:Int)≤_ at this;omega)
 change (m.st.length:Int) - 2+2≤64 at r3
 exact (do_A h hT (k:=4) (by omega) (by omega) (by omega) (by omega) (by omega) (by omega) (by omega) (by omega) (by omega) (fun W F0 w h=>reckon_4 h n x hs (by rw [hs] at r3;simp at r3;omega)) hF).mono fun r w' ⟨a1,a2⟩=>.inr ⟨a1,by rw [show (doM m ⟨(4:Nat),n,x⟩).1={ m with st:=z::y::s } from by show ({ m with st:=m.st.getD 1 0::m.st.getD 0 0::m.st.drop 2 }:Mac)=_;rw [hs];rfl];exact a2⟩
theorem do_k5 (h:Gm W F0 b K w m) (hT:Shaped5 w) {n:Int} {x:Nat} (hlo:(shp 5).lo≤n) (_hhi:n≤(shp 5).hi) (_hst:∀ x∈m.st,okN x) (_hcl:m.cells≤256) (_hre:m.reads.length≤1024) (_hou:m.out.length≤1024)
  (hF:∀ W F0 w,Gm W F0 b K w m→Shaped5 w→Calls Tryz.prog 233 #[.pointer (some ⟨b,0,none⟩),.agg #[.int .i64 ((5:Nat):Int),.int .i64 n,.float .f64 x]] w fun r w'=>r=.returned (.tuple #[])∧Below w.heap.size w w')
  (_r1:5≠5→(shp 5).takes≤(m.st.length:Int)) (r2:5=5→n+1≤(m.st.length:Int)) (r3:(m.st.length:Int) - (shp 5).takes+(shp 5).lays≤64) (_r4:5=14→m.calls.length<16) :
  Calls Tryz.prog 224 #[.pointer (some ⟨b,0,none⟩),.agg #[.int .i64 ((5:Nat):Int),.int .i64 n,.float .f64 x]] w fun r w'=>Done W F0 b K m (doM m ⟨((5:Nat):Int),n,x⟩) r w':=by
 obtain ⟨q,rfl⟩:∃ q:Nat,n=q:=⟨n.toNat,by change (0:Int)≤n at hlo;omega⟩
 change (m.st.length:Int) - 0+1≤64 at r3
 have r0:=r2 rfl
 exact (do_A h hT (k:=5) (by omega) (by omega) (by omega) (by omega) (by omega) (by omega) (by omega) (by omega) (by omega) (fun W F0 w h=>reckon_5 h _ x rfl (by omega) (by omega)) hF).mono fun r w' ⟨a1,a2⟩=>.inr ⟨a1,by rw [show (doM m ⟨(5:Nat),(q:Int),x⟩).1={ m with st:=m.st.getD q 0::m.st } from rfl];exact a2⟩
theorem do_k6 (h:Gm W F0 b K w m) (hT:Shaped5 w) {n:Int} {x:Nat} (hlo:(shp 6).lo≤n) (hhi:n≤(shp 6).hi) (_hst:∀ x∈m.st,okN x) (_hcl:m.cells≤256) (_hre:m.reads.length≤1024) (_hou:m.out.length≤1024)
  (hF:∀ W F0 w,Gm W F0 b K w m→Shaped5 w→Calls Tryz.prog 233 #[.pointer (some ⟨b,0,none⟩),.agg #[.int .i64 ((6:Nat):Int),.int .i64 n,.float .f64 x]] w fun r w'=>r=.returned (.tuple #[])∧Below w.heap.size w w')
  (_r1:6≠5→(shp 6).takes≤(m.st.length:Int)) (_r2:6=5→n+1≤(m.st.length:Int)) (r3:(m.st.length:Int) - (shp 6).takes+(shp 6).lays≤64) (_r4:6=14→m.calls.length<16) :
  Calls Tryz.prog 224 #[.pointer (some ⟨b,0,none⟩),.agg #[.int .i64 ((6:Nat):Int),.int .i64 n,.float .f64 x]] w fun r w'=>Done W F0 b K m (doM m ⟨((6:Nat):Int),n,x⟩) r w':=by
 obtain ⟨q,rfl⟩:∃ q:Nat,n=q:=⟨n.toNat,by change (0:Int)≤n at hlo;omega⟩
 change _≤(7:Int) at hhi
 change (m.st.length:Int) - 0+1≤64 at r3
 exact (do_A h hT (k:=6) (by omega) (by omega) (by omega) (by omega) (by omega) (by omega) (by omega) (by omega) (by omega) (fun W F0 w h=>reckon_6 h _ x rfl (by omega) (by omega)) hF).mono fun r w' ⟨a1,a2⟩=>.inr ⟨a1,by rw [show (doM m ⟨(6:Nat),(q:Int),x⟩).1={ m with st:=m.args q::m.st } from rfl];exact a2⟩
theorem do_k7 (h:Gm W F0 b K w m) (hT:Shaped5 w) {n:Int} {x:Nat} (hlo:(shp 7).lo≤n) (hhi:n≤(shp 7).hi) (_hst:∀ x∈m.st,okN x) (_hcl:m.cells≤256) (_hre:m.reads.length≤1024) (_hou:m.out.length≤1024)
  (hF:∀ W F0 w,Gm W F0 b K w m→Shaped5 w→Calls Tryz.prog 233 #[.pointer (some ⟨b,0,none⟩),.agg #[.int .i64 ((7:Nat):Int),.int .i64 n,.float .f64 x]] w fun r w'=>r=.returned (.tuple #[])∧Below w.heap.size w w')
  (_r1:7≠5→(shp 7).takes≤(m.st.length:Int)) (_r2:7=5→n+1≤(m.st.length:Int)) (r3:(m.st.length:Int) - (shp 7).takes+(shp 7).lays≤64) (_r4:7=14→m.calls.length<16) :
  Calls Tryz.prog 224 #[.pointer (some ⟨b,0,none⟩),.agg #[.int .i64 ((7:Nat):Int),.int .i64 n,.float .f64 x]] w fun r w'=>Done W F0 b K m (doM m ⟨((7:Nat):Int),n,x⟩) r w':=by
 obtain ⟨q,rfl⟩:∃ q:Nat,n=q:=⟨n.toNat,by change (0:Int)≤n at hlo;omega⟩
 change _≤(7:Int) at hhi
 change (m.st.length:Int) - 0+1≤64 at r3
 exact (do_A h hT (k:=7) (by omega) (by omega) (by omega) (by omega) (by omega) (by omega) (by omega) (by omega) (by omega) (fun W F0 w h=>reckon_7 h _ x rfl (by omega) (by omega)) hF).mono fun r w' ⟨a1,a2⟩=>.inr ⟨a1,by rw [show (doM m ⟨(7:Nat),(q:Int),x⟩).1={ m with st:=m.loc q::m.st } from rfl];exact a2⟩
theorem do_k8 (h:Gm W F0 b K w m) (hT:Shaped5 w) {n:Int} {x:Nat} (hlo:(shp 8).lo≤n) (hhi:n≤(shp 8).hi) (_hst:∀ x∈m.st,okN x) (_hcl:m.cells≤256) (_hre:m.reads.length≤1024) (_hou:m.out.length≤1024)
  (hF:∀ W F0 w,Gm W F0 b K w m→Shaped5 w→Calls Tryz.prog 233 #[.pointer (some ⟨b,0,none⟩),.agg #[.int .i64 ((8:Nat):Int),.int .i64 n,.float .f64 x]] w fun r w'=>r=.returned (.tuple #[])∧Below w.heap.size w w')
  (r1:8≠5→(shp 8).takes≤(m.st.length:Int)) (_r2:8=5→n+1≤(m.st.length:Int)) (_r3:(m.st.length:Int) - (shp 8).takes+(shp 8).lays≤64) (_r4:8=14→m.calls.length<16) :
  Calls Tryz.prog 224 #[.pointer (some ⟨b,0,none⟩),.agg #[.int .i64 ((8:Nat):Int),.int .i64 n,.float .f64 x]] w fun r w'=>Done W F0 b K m (doM m ⟨((8:Nat):Int),n,x⟩) r w':=by
 obtain ⟨q,rfl⟩:∃ q:Nat,n=q:=⟨n.toNat,by change (0:Int)≤n at hlo;omega⟩
 change _≤(7:Int) at hhi
 obtain ⟨y,s,hs⟩:=st1 (l:=m.st) (by have:=r1 (by omega);change (1:Int)≤_ at this;omega)
 exact (do_A h hT (k:=8) (by omega) (by omega) (by omega) (by omega) (by omega) (by omega) (by omega) (by omega) (by omega) (fun W F0 w h=>reckon_8 h _ x rfl (by omega) hs) hF).mono fun r w' ⟨a1,a2⟩=>.inr ⟨a1,by rw [show (doM m ⟨(8:Nat),(q:Int),x⟩).1={ m with loc:=updF m.loc q y,st:=s } from by show ({ m with loc:=updF m.loc q (m.st.getD 0 0),st:=m.st.drop 1 }:Mac)=_;rw [hs];rfl];exact a2⟩
theorem do_k9 (h:Gm W F0 b K w m) (hT:Shaped5 w) {n:Int} {x:Nat} (hlo:(shp 9).lo≤n) (hhi:n≤(shp 9).hi) (hst:∀ x∈m.st,okN x) (_hcl:m.cells≤256) (_hre:m.reads.length≤1024) (_hou:m.out.length≤1024)
  (hF:∀ W F0 w,Gm W F0 b K w m→Shaped5 w→Calls Tryz.prog 233 #[.pointer (some ⟨b,0,none⟩),.agg #[.int .i64 ((9:Nat):Int),.int .i64 n,.float .f64 x]] w fun r w'=>r=.returned (.tuple #[])∧Below w.heap.size w w')
  (r1:9≠5→(shp 9).takes≤(m.st.length:Int)) (_r2:9=5→n+1≤(m.st.length:Int)) (r3:(m.st.length:Int) - (shp 9).takes+(shp 9).lays≤64) (_r4:9=14→m.calls.length<16) :
  Calls Tryz.prog 224 #[.pointer (some ⟨b,0,none⟩),.agg #[.int .i64 ((9:Nat):Int),.int .i64 n,.float .f64 x]] w fun r w'=>Done W F0 b K m (doM m ⟨((9:Nat):Int),n,x⟩) r w':=by
 change _≤(8:Int) at hhi
 change (1:Int)≤_ at hlo
 obtain ⟨y,s,hs⟩:=st1 (l:=m.st) (by have:=r1 (by omega);change (1:Int)≤_ at this;omega)
 change (m.st.length:Int) - 1+1≤64 at r3
 exact (do_A h hT (k:=9) (by omega) (by omega) (by omega) (by omega) (by omega) (by omega) (by omega) (by omega) (by omega) (fun W F0 w h=>reckon_9 h n x ⟨hlo,hhi⟩ (hst y (by rw [hs];simp)) hs (by rw [hs] at r3;simp at r3;omega)) hF).mono fun r w' ⟨a1,a2⟩=>.inr ⟨a1,by rw [show (doM m ⟨(9:Nat),n,x⟩).1={ m with st:=oneV n y::s } from by show ({ m with st:=oneV n (m.st.getD 0 0)::m.st.drop 1 }:Mac)=_;rw [hs];rfl];exact a2⟩
theorem do_k10 (h:Gm W F0 b K w m) (hT:Shaped5 w) {n:Int} {x:Nat} (hlo:(shp 10).lo≤n) (hhi:n≤(shp 10).hi) (hst:∀ x∈m.st,okN x) (_hcl:m.cells≤256) (_hre:m.reads.length≤1024) (_hou:m.out.length≤1024)
  (hF:∀ W F0 w,Gm W F0 b K w m→Shaped5 w→Calls Tryz.prog 233 #[.pointer (some ⟨b,0,none⟩),.agg #[.int .i64 ((10:Nat):Int),.int .i64 n,.float .f64 x]] w fun r w'=>r=.returned (.tuple #[])∧Below w.heap.size w w')
  (r1:10≠5→(shp 10).takes≤(m.st.length:Int)) (_r2:10=5→n+1≤(m.st.length:Int)) (r3:(m.st.length:Int) - (shp 10).takes+(shp 10).lays≤64) (_r4:10=14→m.calls.length<16) :
  Calls Tryz.prog 224 #[.pointer (some ⟨b,0,none⟩),.agg #[.int .i64 ((10:Nat):Int),.int .i64 n,.float .f64 x]] w fun r w'=>Done W F0 b K m (doM m ⟨((10:Nat):Int),n,x⟩) r w':=by
 change _≤(12:Int) at hhi
 change (1:Int)≤_ at hlo
 obtain ⟨y,z,s,hs⟩:=st2 (l:=m.st) (by have:=r1 (by omega);change (2:Int)≤_ at this;omega)
 change (m.st.length:Int) - 2+1≤64 at r3
 exact (do_A h hT (k:=10) (by omega) (by omega) (by omega) (by omega) (by omega) (by omega) (by omega) (by omega) (by omega) (fun W F0 w h=>reckon_10 h n x ⟨hlo,hhi⟩ (hst y (by rw [hs];simp)) (hst z (by rw [hs];simp)) hs (by rw [hs] at r3;simp at r3;omega)) hF).mono fun r w' ⟨a1,a2⟩=>.inr ⟨a1,by rw [show (doM m ⟨(10:Nat),n,x⟩).1={ m with st:=twoV n z y::s } from by show ({ m with st:=twoV n (m.st.getD 1 0) (m.st.getD 0 0)::m.st.drop 2 }:Mac)=_;rw [hs];rfl];exact a2⟩
theorem do_k11 (h:Gm W F0 b K w m) (hT:Shaped5 w) {n:Int} {x:Nat} (_hlo:(shp 11).lo≤n) (_hhi:n≤(shp 11).hi) (_hst:∀ x∈m.st,okN x) (_hcl:m.cells≤256) (_hre:m.reads.length≤1024) (_hou:m.out.length≤1024)
  (hF:∀ W F0 w,Gm W F0 b K w m→Shaped5 w→Calls Tryz.prog 233 #[.pointer (some ⟨b,0,none⟩),.agg #[.int .i64 ((11:Nat):Int),.int .i64 n,.float .f64 x]] w fun r w'=>r=.returned (.tuple #[])∧Below w.heap.size w w')
  (_r1:11≠5→(shp 11).takes≤(m.st.length:Int)) (_r2:11=5→n+1≤(m.st.length:Int)) (_r3:(m.st.length:Int) - (shp 11).takes+(shp 11).lays≤64) (_r4:11=14→m.calls.length<16) :
  Calls Tryz.prog 224 #[.pointer (some ⟨b,0,none⟩),.agg #[.int .i64 ((11:Nat):Int),.int .i64 n,.float .f64 x]] w fun r w'=>Done W F0 b K m (doM m ⟨((11:Nat):Int),n,x⟩) r w':=by
 exact (do_B11 h hT (fun W F0 w h=>move_11 h n x) hF).mono fun r w' ⟨a1,a2⟩=>.inr ⟨a1,by rw [show (doM m ⟨(11:Nat),n,x⟩).1={ m with place:=n } from rfl];exact a2⟩
theorem do_k12 (h:Gm W F0 b K w m) (hT:Shaped5 w) {n:Int} {x:Nat} (_hlo:(shp 12).lo≤n) (_hhi:n≤(shp 12).hi) (_hst:∀ x∈m.st,okN x) (_hcl:m.cells≤256) (_hre:m.reads.length≤1024) (_hou:m.out.length≤1024)
  (hF:∀ W F0 w,Gm W F0 b K w m→Shaped5 w→Calls Tryz.prog 233 #[.pointer (some ⟨b,0,none⟩),.agg #[.int .i64 ((12:Nat):Int),.int .i64 n,.float .f64 x]] w fun r w'=>r=.returned (.tuple #[])∧Below w.heap.size w w')
  (r1:12≠5→(shp 12).takes≤(m.st.length:Int)) (_r2:12=5→n+1≤(m.st.length:Int)) (_r3:(m.st.length:Int) - (shp 12).takes+(shp 12).lays≤64) (_r4:12=14→m.calls.length<16) :
  Calls Tryz.prog 224 #[.pointer (some ⟨b,0,none⟩),.agg #[.int .i64 ((12:Nat):Int),.int .i64 n,.float .f64 x]] w fun r w'=>Done W F0 b K m (doM m ⟨((12:Nat):Int),n,x⟩) r w':=by
 obtain ⟨y,s,hs⟩:=st1 (l:=m.st) (by have:=r1 (by omega);change (1:Int)≤_ at this;omega)
 cases ht:trueB y with
 | true=>exact (do_B12 h hT (fun W F0 w h=>move_12y h n x hs ht) hF).mono fun r w' ⟨a1,a2⟩=>.inr ⟨a1,by rw [show (doM m ⟨(12:Nat),n,x⟩).1={ m with place:=n,st:=s } from by show ({ m with place:=if trueB (m.st.getD 0 0) then n else m.place,st:=m.st.drop 1 }:Mac)=_;rw [hs];simp [ht]];exact a2⟩
 | false=>exact (do_B12 h hT (fun W F0 w h=>move_12n h n x hs ht) hF).mono fun r w' ⟨a1,a2⟩=>.inr ⟨a1,by rw [show (doM m ⟨(12:Nat),n,x⟩).1={ m with st:=s } from by show ({ m with place:=if trueB (m.st.getD 0 0) then n else m.place,st:=m.st.drop 1 }:Mac)=_;rw [hs];simp [ht]];exact a2⟩
theorem do_k13 (h:Gm W F0 b K w m) (hT:Shaped5 w) {n:Int} {x:Nat} (_hlo:(shp 13).lo≤n) (_hhi:n≤(shp 13).hi) (_hst:∀ x∈m.st,okN x) (_hcl:m.cells≤256) (_hre:m.reads.length≤1024) (_hou:m.out.length≤1024)
  (hF:∀ W F0 w,Gm W F0 b K w m→Shaped5 w→Calls Tryz.prog 233 #[.pointer (some ⟨b,0,none⟩),.agg #[.int .i64 ((13:Nat):Int),.int .i64 n,.float .f64 x]] w fun r w'=>r=.returned (.tuple #[])∧Below w.heap.size w w')
  (r1:13≠5→(shp 13).takes≤(m.st.length:Int)) (_r2:13=5→n+1≤(m.st.length:Int)) (_r3:(m.st.length:Int) - (shp 13).takes+(shp 13).lays≤64) (_r4:13=14→m.calls.length<16) :
  Calls Tryz.prog 224 #[.pointer (some ⟨b,0,none⟩),.agg #[.int .i64 ((13:Nat):Int),.int .i64 n,.float .f64 x]] w fun r w'=>Done W F0 b K m (doM m ⟨((13:Nat):Int),n,x⟩) r w':=by
 obtain ⟨y,s,hs⟩:=st1 (l:=m.st) (by have:=r1 (by omega);change (1:Int)≤_ at this;omega)
 cases ht:trueB y with
 | true=>exact (do_B13 h hT (fun W F0 w h=>move_13y h n x hs ht) hF).mono fun r w' ⟨a1,a2⟩=>.inr ⟨a1,by rw [show (doM m ⟨(13:Nat),n,x⟩).1={ m with st:=s } from by show ({ m with place:=if trueB (m.st.getD 0 0) then m.place else n,st:=m.st.drop 1 }:Mac)=_;rw [hs];simp [ht]];exact a2⟩
 | false=>exact (do_B13 h hT (fun W F0 w h=>move_13n h n x hs ht) hF).mono fun r w' ⟨a1,a2⟩=>.inr ⟨a1,by rw [show (doM m ⟨(13:Nat),n,x⟩).1={ m with place:=n,st:=s } from by show ({ m with place:=if trueB (m.st.getD 0 0) then m.place else n,st:=m.st.drop 1 }:Mac)=_;rw [hs];simp [ht]];exact a2⟩
theorem do_k14 (h:Gm W F0 b K w m) (hT:Shaped5 w) {n:Int} {x:Nat} (_hlo:(shp 14).lo≤n) (_hhi:n≤(shp 14).hi) (_hst:∀ x∈m.st,okN x) (_hcl:m.cells≤256) (_hre:m.reads.length≤1024) (_hou:m.out.length≤1024)
  (hF:∀ W F0 w,Gm W F0 b K w m→Shaped5 w→Calls Tryz.prog 233 #[.pointer (some ⟨b,0,none⟩),.agg #[.int .i64 ((14:Nat):Int),.int .i64 n,.float .f64 x]] w fun r w'=>r=.returned (.tuple #[])∧Below w.heap.size w w')
  (_r1:14≠5→(shp 14).takes≤(m.st.length:Int)) (_r2:14=5→n+1≤(m.st.length:Int)) (_r3:(m.st.length:Int) - (shp 14).takes+(shp 14).lays≤64) (r4:14=14→m.calls.length<16) :
  Calls Tryz.prog 224 #[.pointer (some ⟨b,0,none⟩),.agg #[.int .i64 ((14:Nat):Int),.int .i64 n,.float .f64 x]] w fun r w'=>Done W F0 b K m (doM m ⟨((14:Nat):Int),n,x⟩) r w':=by
 exact (do_B14 h hT (fun W F0 w h=>move_14 h n x (r4 rfl)) hF).mono fun r w' ⟨a1,a2⟩=>.inr ⟨a1,by rw [show (doM m ⟨(14:Nat),n,x⟩).1={ m with calls:=m.place::m.calls,place:=n } from rfl];exact a2⟩
theorem do_k15 (h:Gm W F0 b K w m) (hT:Shaped5 w) {n:Int} {x:Nat} (_hlo:(shp 15).lo≤n) (_hhi:n≤(shp 15).hi) (_hst:∀ x∈m.st,okN x) (_hcl:m.cells≤256) (_hre:m.reads.length≤1024) (_hou:m.out.length≤1024)
  (hF:∀ W F0 w,Gm W F0 b K w m→Shaped5 w→Calls Tryz.prog 233 #[.pointer (some ⟨b,0,none⟩),.agg #[.int .i64 ((15:Nat):Int),.int .i64 n,.float .f64 x]] w fun r w'=>r=.returned (.tuple #[])∧Below w.heap.size w w')
  (_r1:15≠5→(shp 15).takes≤(m.st.length:Int)) (_r2:15=5→n+1≤(m.st.length:Int)) (_r3:(m.st.length:Int) - (shp 15).takes+(shp 15).lays≤64) (_r4:15=14→m.calls.length<16) :
  Calls Tryz.prog 224 #[.pointer (some ⟨b,0,none⟩),.agg #[.int .i64 ((15:Nat):Int),.int .i64 n,.float .f64 x]] w fun r w'=>Done W F0 b K m (doM m ⟨((15:Nat):Int),n,x⟩) r w':=by
 refine (do_ret h hT (m':=(retM m).1) (a:=(retM m).2) (fun W F0 w h=>?_) hF).mono fun r w' ⟨a1,a2⟩=>.inr ⟨a1,a2⟩
 cases hc:m.calls with
 | nil=>exact (ret_end h hc).mono fun r w' ⟨a1,a2⟩=>⟨by rw [a1,retM_nil hc],by rw [retM_nil hc];exact a2⟩
 | cons c q=>exact (ret_back h hc).mono fun r w' ⟨a1,a2⟩=>⟨by rw [a1,retM_cons hc],by rw [retM_cons hc];exact a2⟩
theorem do_k16 (h:Gm W F0 b K w m) (hT:Shaped5 w) {n:Int} {x:Nat} (_hlo:(shp 16).lo≤n) (_hhi:n≤(shp 16).hi) (_hst:∀ x∈m.st,okN x) (hcl:m.cells≤256) (hre:m.reads.length≤1024) (_hou:m.out.length≤1024)
  (hF:∀ W F0 w,Gm W F0 b K w m→Shaped5 w→Calls Tryz.prog 233 #[.pointer (some ⟨b,0,none⟩),.agg #[.int .i64 ((16:Nat):Int),.int .i64 n,.float .f64 x]] w fun r w'=>r=.returned (.tuple #[])∧Below w.heap.size w w')
  (r1:16≠5→(shp 16).takes≤(m.st.length:Int)) (_r2:16=5→n+1≤(m.st.length:Int)) (r3:(m.st.length:Int) - (shp 16).takes+(shp 16).lays≤64) (_r4:16=14→m.calls.length<16) :
  Calls Tryz.prog 224 #[.pointer (some ⟨b,0,none⟩),.agg #[.int .i64 ((16:Nat):Int),.int .i64 n,.float .f64 x]] w fun r w'=>Done W F0 b K m (doM m ⟨((16:Nat):Int),n,x⟩) r w':=by
 obtain ⟨y,s,hs⟩:=st1 (l:=m.st) (by have:=r1 (by omega);change (1:Int)≤_ at this;omega)
 change (m.st.length:Int) - 1+1≤64 at r3
 have hl:s.length<64:=by rw [hs] at r3;simp at r3;omega
 cases ha:addrB m with
 | false=>exact (do_read_no h hT (e0:=50) (fun W F0 w h=>read_no h (by rw [hs];simp) ha) hF).mono fun r w' ⟨a1,a2⟩=>.inl ⟨50,by show readM m=_;unfold readM;rw [ha];rfl,a1,a2⟩
 | true =>
  cases hh:hasC m.buf (addrV m) with
  | false=>exact (do_read h hT (fun W F0 w h=>read_wait h hs hcl ha hh) hF).mono fun r w' ⟨a1,a2⟩=>.inr ⟨a1,a2⟩
  | true=>exact (do_read h hT (fun W F0 w h=>read_own h hs hl hre hcl ha hh) hF).mono fun r w' ⟨a1,a2⟩=>.inr ⟨a1,a2⟩
theorem do_k17 (h:Gm W F0 b K w m) (hT:Shaped5 w) {n:Int} {x:Nat} (_hlo:(shp 17).lo≤n) (_hhi:n≤(shp 17).hi) (hst:∀ x∈m.st,okN x) (hcl:m.cells≤256) (_hre:m.reads.length≤1024) (_hou:m.out.length≤1024)
  (hF:∀ W F0 w,Gm W F0 b K w m→Shaped5 w→Calls Tryz.prog 233 #[.pointer (some ⟨b,0,none⟩),.agg #[.int .i64 ((17:Nat):Int),.int .i64 n,.float .f64 x]] w fun r w'=>r=.returned (.tuple #[])∧Below w.heap.size w w')
  (r1:17≠5→(shp 17).takes≤(m.st.length:Int)) (_r2:17=5→n+1≤(m.st.length:Int)) (_r3:(m.st.length:Int) - (shp 17).takes+(shp 17).lays≤64) (_r4:17=14→m.calls.length<16) :
  Calls Tryz.prog 224 #[.pointer (some ⟨b,0,none⟩),.agg #[.int .i64 ((17:Nat):Int),.int .i64 n,.float .f64 x]] w fun r w'=>Done W F0 b K m (doM m ⟨((17:Nat):Int),n,x⟩) r w':=by
 obtain ⟨y,z,s,hs⟩:=st2 (l:=m.st) (by have:=r1 (by omega);change (2:Int)≤_ at this;omega)
 have hz:=hst z (by rw [hs];simp)
 cases hu:m.upd with
 | false=>exact (do_write_no h hT (e0:=81) (fun W F0 w h=>write_ro h hu) hF).mono fun r w' ⟨a1,a2⟩=>.inl ⟨81,by show writeM m=_;unfold writeM;rw [hu];rfl,a1,a2⟩
 | true =>
  cases ha:addrB m with
  | false=>exact (do_write_no h hT (e0:=50) (fun W F0 w h=>write_no h (by rw [hs];simp) hu ha) hF).mono fun r w' ⟨a1,a2⟩=>.inl ⟨50,by show writeM m=_;unfold writeM;rw [hu,ha];rfl,a1,a2⟩
  | true =>
   cases hp:mayP m.wmax m.buf (addrV m) with
   | false=>exact (do_write_no h hT (e0:=70) (fun W F0 w h=>write_full h hs hz hcl hu ha hp) hF).mono fun r w' ⟨a1,a2⟩=>.inl ⟨70,by show writeM m=_;unfold writeM;rw [hu,ha,hp];rfl,a1,a2⟩
   | true=>exact (do_write h hT (fun W F0 w h=>write_ok h hs hz hcl hu ha hp) hF).mono fun r w' ⟨a1,a2⟩=>.inr ⟨a1,a2⟩
theorem do_k18 (h:Gm W F0 b K w m) (hT:Shaped5 w) {n:Int} {x:Nat} (_hlo:(shp 18).lo≤n) (_hhi:n≤(shp 18).hi) (_hst:∀ x∈m.st,okN x) (_hcl:m.cells≤256) (_hre:m.reads.length≤1024) (hou:m.out.length≤1024)
  (hF:∀ W F0 w,Gm W F0 b K w m→Shaped5 w→Calls Tryz.prog 233 #[.pointer (some ⟨b,0,none⟩),.agg #[.int .i64 ((18:Nat):Int),.int .i64 n,.float .f64 x]] w fun r w'=>r=.returned (.tuple #[])∧Below w.heap.size w w')
  (r1:18≠5→(shp 18).takes≤(m.st.length:Int)) (_r2:18=5→n+1≤(m.st.length:Int)) (_r3:(m.st.length:Int) - (shp 18).takes+(shp 18).lays≤64) (_r4:18=14→m.calls.length<16) :
  Calls Tryz.prog 224 #[.pointer (some ⟨b,0,none⟩),.agg #[.int .i64 ((18:Nat):Int),.int .i64 n,.float .f64 x]] w fun r w'=>Done W F0 b K m (doM m ⟨((18:Nat):Int),n,x⟩) r w':=by
 obtain ⟨y,s,hs⟩:=st1 (l:=m.st) (by have:=r1 (by omega);change (1:Int)≤_ at this;omega)
 exact (do_A h hT (k:=18) (by omega) (by omega) (by omega) (by omega) (by omega) (by omega) (by omega) (by omega) (by omega) (fun W F0 w h=>reckon_18 h n x hs hou) hF).mono fun r w' ⟨a1,a2⟩=>.inr ⟨a1,by rw [show (doM m ⟨(18:Nat),n,x⟩).1={ m with out:=m.out ++ [y],st:=s } from by show ({ m with out:=m.out ++ [m.st.getD 0 0],st:=m.st.drop 1 }:Mac)=_;rw [hs];rfl];exact a2⟩
theorem do_k19 (h:Gm W F0 b K w m) (hT:Shaped5 w) {n:Int} {x:Nat} (_hlo:(shp 19).lo≤n) (_hhi:n≤(shp 19).hi) (_hst:∀ x∈m.st,okN x) (_hcl:m.cells≤256) (_hre:m.reads.length≤1024) (_hou:m.out.length≤1024)
  (hF:∀ W F0 w,Gm W F0 b K w m→Shaped5 w→Calls Tryz.prog 233 #[.pointer (some ⟨b,0,none⟩),.agg #[.int .i64 ((19:Nat):Int),.int .i64 n,.float .f64 x]] w fun r w'=>r=.returned (.tuple #[])∧Below w.heap.size w w')
  (_r1:19≠5→(shp 19).takes≤(m.st.length:Int)) (_r2:19=5→n+1≤(m.st.length:Int)) (_r3:(m.st.length:Int) - (shp 19).takes+(shp 19).lays≤64) (_r4:19=14→m.calls.length<16) :
  Calls Tryz.prog 224 #[.pointer (some ⟨b,0,none⟩),.agg #[.int .i64 ((19:Nat):Int),.int .i64 n,.float .f64 x]] w fun r w'=>Done W F0 b K m (doM m ⟨((19:Nat):Int),n,x⟩) r w':=by
 exact (do_19 h hT hF).mono fun r w' ⟨a1,a2⟩=>.inr ⟨a1,a2⟩
theorem do_k20 (h:Gm W F0 b K w m) (hT:Shaped5 w) {n:Int} {x:Nat} (_hlo:(shp 20).lo≤n) (_hhi:n≤(shp 20).hi) (_hst:∀ x∈m.st,okN x) (_hcl:m.cells≤256) (_hre:m.reads.length≤1024) (_hou:m.out.length≤1024)
  (hF:∀ W F0 w,Gm W F0 b K w m→Shaped5 w→Calls Tryz.prog 233 #[.pointer (some ⟨b,0,none⟩),.agg #[.int .i64 ((20:Nat):Int),.int .i64 n,.float .f64 x]] w fun r w'=>r=.returned (.tuple #[])∧Below w.heap.size w w')
  (_r1:20≠5→(shp 20).takes≤(m.st.length:Int)) (_r2:20=5→n+1≤(m.st.length:Int)) (_r3:(m.st.length:Int) - (shp 20).takes+(shp 20).lays≤64) (_r4:20=14→m.calls.length<16) :
  Calls Tryz.prog 224 #[.pointer (some ⟨b,0,none⟩),.agg #[.int .i64 ((20:Nat):Int),.int .i64 n,.float .f64 x]] w fun r w'=>Done W F0 b K m (doM m ⟨((20:Nat):Int),n,x⟩) r w':=by
 exact (do_20 h hT hF).mono fun r w' ⟨a1,a2⟩=>.inr ⟨a1,a2⟩
theorem do_any (h:Gm W F0 b K w m) (hT:Shaped5 w) {k many:Nat} {n:Int} {x:Nat} (hi:mayB ⟨k,n,x⟩ many=true) (hst:∀ x∈m.st,okN x) (hcl:m.cells≤256) (hre:m.reads.length≤1024) (hou:m.out.length≤1024):Calls Tryz.prog 224 #[.pointer (some ⟨b,0,none⟩),.agg #[.int .i64 (k:Int),.int .i64 n,.float .f64 x]] w fun r w'=>Done W F0 b K m (doF m ⟨k,n,x⟩) r w':=by
 obtain ⟨hk,hlo,hhi⟩:=fits_parts hi
 clear hi
 have h5:k=5→0≤n∧n≤63:=fun e=>by subst e;exact ⟨hlo,hhi⟩
 cases hro:roomB m ⟨k,n,x⟩ with
 | false =>
  have e:doF m ⟨k,n,x⟩=failM m 82:=by unfold doF;rw [hro];rfl
  rw [e]
  exact (do_unfit h hT (fun W F0 w h hT=>(fit_any h hT hk h5).mono fun r w' ⟨a1,a2⟩=>⟨by rw [a1,hro];rfl,a2⟩)).mono fun r w' ⟨a1,a2⟩=>.inl ⟨82,rfl,a1,a2⟩
 | true =>
  have hF:∀ W F0 w,Gm W F0 b K w m→Shaped5 w→Calls Tryz.prog 233 #[.pointer (some ⟨b,0,none⟩),.agg #[.int .i64 (k:Int),.int .i64 n,.float .f64 x]] w fun r w'=>r=.returned (.tuple #[])∧Below w.heap.size w w':=fun W F0 w h hT=>(fit_any h hT hk h5).mono fun r w' ⟨a1,a2⟩=>⟨by rw [a1,hro];rfl,a2⟩
  have e0:doF m ⟨k,n,x⟩=doM m ⟨k,n,x⟩:=by unfold doF;rw [hro];rfl
  obtain ⟨r1,r2,r3,r4⟩:=room_parts hro
  rw [e0]
  clear e0 hro h5
  have hkk:k=1∨k=2∨k=3∨k=4∨k=5∨k=6∨k=7∨k=8∨k=9∨k=10∨k=11∨k=12∨k=13∨k=14∨k=15∨k=16∨k=17∨k=18∨k=19∨k=20:=by omega
  rcases hkk with rfl | rfl | rfl | rfl | rfl | rfl | rfl | rfl | rfl | rfl | rfl | rfl | rfl | rfl | rfl | rfl | rfl | rfl | rfl | rfl
  ·exact do_k1 h hT hlo hhi hst hcl hre hou hF r1 r2 r3 r4
  ·exact do_k2 h hT hlo hhi hst hcl hre hou hF r1 r2 r3 r4
  ·exact do_k3 h hT hlo hhi hst hcl hre hou hF r1 r2 r3 r4
  ·exact do_k4 h hT hlo hhi hst hcl hre hou hF r1 r2 r3 r4
  ·exact do_k5 h hT hlo hhi hst hcl hre hou hF r1 r2 r3 r4
  ·exact do_k6 h hT hlo hhi hst hcl hre hou hF r1 r2 r3 r4
  ·exact do_k7 h hT hlo hhi hst hcl hre hou hF r1 r2 r3 r4
  ·exact do_k8 h hT hlo hhi hst hcl hre hou hF r1 r2 r3 r4
  ·exact do_k9 h hT hlo hhi hst hcl hre hou hF r1 r2 r3 r4
  ·exact do_k10 h hT hlo hhi hst hcl hre hou hF r1 r2 r3 r4
  ·exact do_k11 h hT hlo hhi hst hcl hre hou hF r1 r2 r3 r4
  ·exact do_k12 h hT hlo hhi hst hcl hre hou hF r1 r2 r3 r4
  ·exact do_k13 h hT hlo hhi hst hcl hre hou hF r1 r2 r3 r4
  ·exact do_k14 h hT hlo hhi hst hcl hre hou hF r1 r2 r3 r4
  ·exact do_k15 h hT hlo hhi hst hcl hre hou hF r1 r2 r3 r4
  ·exact do_k16 h hT hlo hhi hst hcl hre hou hF r1 r2 r3 r4
  ·exact do_k17 h hT hlo hhi hst hcl hre hou hF r1 r2 r3 r4
  ·exact do_k18 h hT hlo hhi hst hcl hre hou hF r1 r2 r3 r4
  ·exact do_k19 h hT hlo hhi hst hcl hre hou hF r1 r2 r3 r4
  ·exact do_k20 h hT hlo hhi hst hcl hre hou hF r1 r2 r3 r4
end
end Go.Proofs.YtlkldgopliablaaGreatDoor
namespace Go.Proofs.YtlkldgopliablaaGreatDoor
open Go.ChangeShapes Go.WideShapes Go.ChangeAt Go.RowKit Num
attribute [local go_sem] run_store_float
section
variable {W w:World} {b:Nat} {F0 K:List Nat} {m:Mac}
theorem Gm.two (h:Gm W F0 b K w m) (o1 o2:Obj):∃ F,Gm ((w.alloc o1).alloc o2) F b K ((w.alloc o1).alloc o2) m∧∀ w' m',Gm ((w.alloc o1).alloc o2) F b K w' m'→w'.heap[w.heap.size]?=some o1∧w'.heap[w.heap.size+1]?=some o2∧∀ w'',Turn [w.heap.size+1] [w.heap.size+1] w' w''→Gm W F0 b K w'' m':=by
 obtain ⟨F1,hM1,hT1⟩:=h.mc
 have hb1:Blw w F1:=hM1.blw
 have hM3:=hM1.on ((below_alloc w o1).trans ((below_alloc _ o2).mono (by simp)))
 refine ⟨F1,hM3.gm,fun w' m' hg=>?_⟩
 have a1:w'.heap[w.heap.size]?=some o1:=(hg.far (by simp;omega) (fun q=>absurd (hb1 _ q) (Nat.lt_irrefl _))).trans ((heap_alloc_old _ _ (by simp)).trans (heap_alloc_new w _))
 have a2:w'.heap[w.heap.size+1]?=some o2:=(hg.far (by simp) (fun q=>absurd (hb1 _ q) (by omega))).trans (heap_new (by simp))
 refine ⟨a1,a2,fun w'' t=>?_⟩
 obtain ⟨p,q1,q2,q3⟩:=hg
 have n1:w.heap.size+1∉p.F b:=fun q=>(q2.own _ q).elim (fun z=>absurd (hb1 _ z) (by omega)) (fun z=>by simp at z;omega)
 have n2:w.heap.size+1∉fpR p.pk:=fun q=>by rw [← q3] at q;exact absurd (hM1.blwK _ q) (by omega)
 have s1:Sep (p.F b) [w.heap.size+1]:=fun k hk q=>n1 (by simp at q;rw [← q];exact hk)
 have s2:Sep (fpR p.pk) [w.heap.size+1]:=fun k hk q=>n2 (by simp at q;rw [← q];exact hk)
 have hs:w.heap.size≤w'.heap.size:=Nat.le_trans (by simp;omega) q2.size
 refine ⟨p,q1.keep (t.kept s1 q1.blw) (t.kept s2 q1.ltk),hT1.trans ⟨t.os.trans q2.os,t.tape.trans q2.tape,t.output.trans q2.output,Nat.le_trans hs t.size,fun k hk hf=>?_,fun k hk=>?_⟩,q3⟩
 ·exact (t.block k (Nat.lt_of_lt_of_le hk hs) (by simp;omega)).trans ((q2.block k (by simp;omega) hf).trans ((heap_alloc_old _ _ (by simp;omega)).trans (heap_alloc_old w _ hk)))
 ·exact (q2.own k hk).imp id (fun z=>by simp at z;omega)
abbrev ptrO (b:Nat):Obj:=.cells #[.pointer (some ⟨b,0,none⟩)] 203
theorem ptrO_cell {w:World} {g b:Nat} (h:w.heap[g]?=some (ptrO b)):w.cell? ⟨g,0,none⟩=some (.pointer (some ⟨b,0,none⟩))∧g<w.heap.size:=⟨by rw [cell_of_row w g 0 _ _ _ h];rfl,lt_of_block h⟩
theorem catch_gave {B:World} {F:List Nat} {g1 g2:Nat} (e:Int) (h:Gm B F b K w m) (hX:∀ w' m',Gm B F b K w' m'→w'.heap[g1]?=some (ptrO b)∧w'.heap[g2]?=some (askO ask0)∧∀ w'',Turn [g2] [g2] w' w''→Gm W F0 b K w'' m') :
  CallsD Tryz.prog 222 #[.pointer (some ⟨g1,0,none⟩),.pointer (some ⟨g2,0,none⟩)] (.panicking [{ v:=.iface 37 (.int .i64 e),recovered:=false }]) w fun r u' w' =>
   r=.returned (.tuple #[])∧u'=.panicking [{ v:=.iface 37 (.int .i64 e),recovered:=true }]∧w'.heap[g2]?=some (askO askEnd)∧Gm W F0 b K w' (failM m e).1:=by
 refine callsD_of_wpS Tryz.func222 rfl fun c₀ cs hu=>?_
 obtain ⟨r1,r2,r3⟩:=hX _ _ h
 obtain ⟨q0,q1⟩:=ptrO_cell r1
 have HX:=Lib.hid hX
 have HG:=Lib.hid h
 clear r1 r2 r3 h hX
 apply wpS_seq
 apply wpS_region
 simp [wpOpsS,go_sem,recoverD,hu,Tryz.ntmps222,Exit.thenS]
 refine wpS_of_wp ?_
 have hta:∀ u:World,(Instr.typeAssert (.iface 37 (.int .i64 e)) 20 37 false).run Tryz.prog u=.ok (.int .i64 e) u:=fun u=>by kernel_rfl
 generalize hF:(Value.iface 37 (.int .i64 e))=Fv at hta ⊢
 rw [show (#[Value.pointer (some ⟨g1,0,none⟩),Value.pointer (some ⟨g2,0,none⟩)] ++ ((Array.replicate 9 undef).setIfInBounds 1 Fv).setIfInBounds 0 Fv)=#[Value.pointer (some ⟨g1,0,none⟩),Value.pointer (some ⟨g2,0,none⟩),Fv,Fv,undef,undef,undef,undef,undef,undef,undef] from rfl]
 subst hF
 go_wp2
 refine region_tail 4 (by kernel_rfl) ?_
 simp only [List.take_succ_cons,List.take_zero,List.drop_succ_cons,List.drop_zero]
 repeat still_step
 refine wpStill_nil ?_
 go_wp2_with (go_at_call 223;refine (ends_any (HG.out.drewN 1) 3 0 e).mono ?_;rintro r u1 ⟨rfl,q⟩;obtain ⟨r1,r2,r3⟩:=HX.out _ _ q;obtain ⟨⟨d0,d1,d2,d3,d4⟩,d5,d6,d7,d8⟩:=askO_cells r2;have G1:=Lib.hid (And.intro r2 r3);clear q r1 r2 r3;unfold askV)
 refine ⟨rfl,_,rfl,_,results_none rfl _ _ _,rfl,rfl,?_,?_⟩
 ·exact askO_set (k':=askEnd) G1.out.1
 ·exact G1.out.2 _ (turn4 _ _ (.int .i64 4) (.int .i64 0) (.float .f64 0) (.bool false))
theorem catch_idle {g1 g2:Nat} :
  CallsD Tryz.prog 222 #[.pointer (some ⟨g1,0,none⟩),.pointer (some ⟨g2,0,none⟩)] .returning w fun r u' w'=>r=.returned (.tuple #[])∧u'=.returning∧w'=w:=by
 refine callsD_of_wpS Tryz.func222 rfl fun c₀ cs hu=>?_
 apply wpS_seq
 apply wpS_region
 simp [wpOpsS,go_sem,recoverD,hu,Tryz.ntmps222,Exit.thenS]
 refine wpS_of_wp ?_
 rw [show (#[Value.pointer (some ⟨g1,0,none⟩),Value.pointer (some ⟨g2,0,none⟩)] ++ ((Array.replicate 9 undef).setIfInBounds 1 .nilIface).setIfInBounds 0 .nilIface)=#[Value.pointer (some ⟨g1,0,none⟩),Value.pointer (some ⟨g2,0,none⟩),.nilIface,.nilIface,undef,undef,undef,undef,undef,undef,undef] from rfl]
 go_wp2
 cases c₀
 simp_all [bodyPostS,results,Tryz.results222]
end
end Go.Proofs.YtlkldgopliablaaGreatDoor
namespace Go.Proofs.YtlkldgopliablaaGreatDoor
open Go.ChangeShapes Go.WideShapes Go.ChangeAt Go.RowKit Num
attribute [local go_sem] run_store_float
theorem ask_left {fn:Func} {p:Tmp} (h:fn.results=#[.cell p 165]) {R:Ending→World→Prop} {tmps:Array Value} {w:World} (g:Nat) (k:Ask) (hp:tmps.getD p undef=.pointer (some ⟨g,0,none⟩)) (hg:w.heap[g]?=some (askO k)) (hR:R (.returned (askV k)) w):Leaves Tryz.prog fn tmps R [] .returning w :=
 ⟨_,results_cell_row h _ _ g _ _ _ _ hp hg Tryz.underlying165 rfl (by kernel_rfl),hR⟩
section
variable {W w:World} {b:Nat} {F0 K:List Nat} {m:Mac}
theorem Gm.shaped (h:Gm W F0 b K w m) (hT:TabAt W F0):Shaped5 w:=by
 obtain ⟨p,_,h2,_⟩:=h
 exact (hT.turn h2).1
theorem how_at (h:Gm W F0 b K w m):w.cell? ⟨b,29,none⟩=some (.int .i64 m.how):=by
 obtain ⟨p,hm,_,_⟩:=h
 exact (hm.cell 29).trans rfl
theorem step_waits (h:Gm W F0 b K w m) (hw:0≤m.wait):Calls Tryz.prog 214 #[.pointer (some ⟨b,0,none⟩)] w fun e w'=>e=.returned (askV (askRead m.wait))∧Gm W F0 b K w' m:=by
 obtain ⟨F,h1,hX⟩:=h.two (ptrO b) (askO ask0)
 have hb:=h.ltB
 have h27:=(wait_at h).1
 rw [decide_eq_true hw] at h27
 have HW:=Lib.hid (wants_any h1 hw)
 have HX:=Lib.hid hX
 have HG:=Lib.hid h1
 clear h h1 hX hw
 go_enter_defers Tryz.func214,Tryz.ntmps214
 go_wp2_with (go_at_call 221;refine HW.out.mono ?_;rintro e u0 ⟨rfl,q⟩;obtain ⟨r1,r2,r3⟩:=HX.out _ _ (HG.out.on q);obtain ⟨⟨d0,d1,d2,d3,d4⟩,d5,d6,d7,d8⟩:=askO_cells r2;have G1:=Lib.hid (And.intro r2 r3);clear q r1 r2 r3;unfold askV askRead)
 simp only [bodyPostD]
 exact ask_left rfl (w.heap.size+1) (askRead m.wait) rfl (askO_set (k':=askRead m.wait) G1.out.1) ⟨rfl,G1.out.2 _ (turn4 _ _ (.int .i64 1) (.int .i64 m.wait) (.float .f64 0) (.bool false))⟩
theorem step_ended (h:Gm W F0 b K w m) (hw:¬ 0≤m.wait) (h0:¬ m.how=0):Calls Tryz.prog 214 #[.pointer (some ⟨b,0,none⟩)] w fun e w'=>e=.returned (askV askEnd)∧Gm W F0 b K w' m:=by
 obtain ⟨F,h1,hX⟩:=h.two (ptrO b) (askO ask0)
 have hb:=h.ltB
 have h27:=(wait_at h).1
 rw [decide_eq_false hw] at h27
 have h29:=how_at h
 have HG:=Lib.hid ((h.alloc (ptrO b)).alloc (askO askEnd))
 clear h h1 hX hw
 go_enter_defers Tryz.func214,Tryz.ntmps214
 go_wp2
 simp only [bodyPostD]
 exact ask_left rfl (w.heap.size+1) askEnd rfl (heap_new (by simp)) ⟨rfl,HG.out⟩
theorem step_gave1 (h:Gm W F0 b K w m) (hw:¬ 0≤m.wait) (h0:m.how=0) {e0:Int} (hB:∀ W F0 w,Gm W F0 b K w m→Calls Tryz.prog 225 #[.pointer (some ⟨b,0,none⟩)] w fun r w'=>r=gaveM e0∧Gm W F0 b K w' m):Calls Tryz.prog 214 #[.pointer (some ⟨b,0,none⟩)] w fun e w'=>e=.returned (askV askEnd)∧Gm W F0 b K w' (failM m e0).1:=by
 obtain ⟨F,h1,hX⟩:=h.two (ptrO b) (askO ask0)
 have hb:=h.ltB
 have h27:=(wait_at h).1
 rw [decide_eq_false hw] at h27
 have h29:=how_at h
 rw [h0] at h29
 have HX:=Lib.hid hX
 have HG:Hid (Gm ((w.alloc (ptrO b)).alloc (askO ask0)) F b K ((w.alloc (ptrO b)).alloc (askO ask0)).drew m):=h1.same (Same.drew _)
 have HBG:=Lib.hid hB
 clear h h1 hX hw h0 hB
 have hmf:∀ (fn:Fn) (first cap:Array Value) (w:World),(Instr.makeFunc fn first cap).run Tryz.prog w=.ok (.func fn first cap) w:=fun _ _ _ _=>rfl
 go_enter_defers Tryz.func214,Tryz.ntmps214
 go_wp2
 refine wp_region_any (by kernel_rfl) ?_
 change wpAny _ _ _ _ _ _ _ (World.drew _)
 refine wpAny_ready (rs:=[0,1]) (by kernel_rfl) (by simp) ?_
 refine AllReady.cons rfl (fun K hK=>?_) (AllReady.cons rfl (fun K hK=>?_) (AllReady.nil))
 ·go_simp
  refine hK _ _ ?_
  clear hK K
  refine wpAny_ready (rs:=[1]) (by kernel_rfl) (by simp) ?_
  refine AllReady.cons rfl (fun K hK=>?_) (AllReady.nil)
  go_simp
  refine hK _ _ ?_
  clear hK K
  refine wpAny_ready (rs:=[2]) (by kernel_rfl) (by simp) ?_
  refine AllReady.cons rfl (fun K hK=>?_) (AllReady.nil)
  go_simp
  refine (HBG.out _ _ _ HG.out).mono ?_
  rintro e u1 ⟨rfl,q⟩
  refine leaves_cons (f:=222) (args:=#[.pointer (some ⟨w.heap.size,0,none⟩),.pointer (some ⟨w.heap.size+1,0,none⟩)]) (by simp) (by simp [go_sem]) ?_
  refine (catch_gave (W:=W) (F0:=F0) e0 q HX.out).mono ?_
  rintro e u' w5 ⟨rfl,rfl,c1,c2⟩
  exact ask_left rfl (w.heap.size+1) askEnd rfl c1 ⟨rfl,c2⟩
 ·go_simp
  refine hK _ _ ?_
  clear hK K
  refine wpAny_ready (rs:=[0,2]) (by kernel_rfl) (by simp) ?_
  refine AllReady.cons rfl (fun K hK=>?_) (AllReady.cons rfl (fun K hK=>?_) (AllReady.nil))
  ·go_simp
   refine hK _ _ ?_
   clear hK K
   refine wpAny_ready (rs:=[2]) (by kernel_rfl) (by simp) ?_
   refine AllReady.cons rfl (fun K hK=>?_) (AllReady.nil)
   go_simp
   refine (HBG.out _ _ _ HG.out).mono ?_
   rintro e u1 ⟨rfl,q⟩
   refine leaves_cons (f:=222) (args:=#[.pointer (some ⟨w.heap.size,0,none⟩),.pointer (some ⟨w.heap.size+1,0,none⟩)]) (by simp) (by simp [go_sem]) ?_
   refine (catch_gave (W:=W) (F0:=F0) e0 q HX.out).mono ?_
   rintro e u' w5 ⟨rfl,rfl,c1,c2⟩
   exact ask_left rfl (w.heap.size+1) askEnd rfl c1 ⟨rfl,c2⟩
  ·go_simp
   refine (HBG.out _ _ _ HG.out).mono ?_
   rintro e u1 ⟨rfl,q⟩
   refine leaves_cons (f:=222) (args:=#[.pointer (some ⟨w.heap.size,0,none⟩),.pointer (some ⟨w.heap.size+1,0,none⟩)]) (by simp) (by simp [go_sem]) ?_
   refine (catch_gave (W:=W) (F0:=F0) e0 q HX.out).mono ?_
   rintro e u' w5 ⟨rfl,rfl,c1,c2⟩
   exact ask_left rfl (w.heap.size+1) askEnd rfl c1 ⟨rfl,c2⟩
theorem step_do (h:Gm W F0 b K w m) (hw:¬ 0≤m.wait) (h0:m.how=0) {o n:Int} {x:Nat} {m1:Mac} {res:Mac × Ask} (hT:TabAt W F0) (hB:∀ W F0 w,Gm W F0 b K w m→Calls Tryz.prog 225 #[.pointer (some ⟨b,0,none⟩)] w fun r w'=>r=.returned (.agg #[.int .i64 o,.int .i64 n,.float .f64 x])∧Gm W F0 b K w' m1) (hD:∀ W F0 w,Gm W F0 b K w m1→Shaped5 w→Calls Tryz.prog 224 #[.pointer (some ⟨b,0,none⟩),.agg #[.int .i64 o,.int .i64 n,.float .f64 x]] w fun r w'=>Done W F0 b K m1 res r w'):Calls Tryz.prog 214 #[.pointer (some ⟨b,0,none⟩)] w fun e w'=>e=.returned (askV res.2)∧Gm W F0 b K w' res.1:=by
 obtain ⟨F,h1,hX⟩:=h.two (ptrO b) (askO ask0)
 have hb:=h.ltB
 have h27:=(wait_at h).1
 rw [decide_eq_false hw] at h27
 have h29:=how_at h
 rw [h0] at h29
 have HX:=Lib.hid hX
 have HG:Hid (Gm ((w.alloc (ptrO b)).alloc (askO ask0)) F b K ((w.alloc (ptrO b)).alloc (askO ask0)).drew m):=h1.same (Same.drew _)
 have HBG:=Lib.hid hB
 have HDO:=Lib.hid hD
 have HT:=Lib.hid hT
 clear h h1 hX hw h0 hB hD hT
 have hmf:∀ (fn:Fn) (first cap:Array Value) (w:World),(Instr.makeFunc fn first cap).run Tryz.prog w=.ok (.func fn first cap) w:=fun _ _ _ _=>rfl
 go_enter_defers Tryz.func214,Tryz.ntmps214
 go_wp2
 refine wp_region_any (by kernel_rfl) ?_
 change wpAny _ _ _ _ _ _ _ (World.drew _)
 refine wpAny_ready (rs:=[0,1]) (by kernel_rfl) (by simp) ?_
 refine AllReady.cons rfl (fun K hK=>?_) (AllReady.cons rfl (fun K hK=>?_) (AllReady.nil))
 ·go_simp
  refine hK _ _ ?_
  clear hK K
  refine wpAny_ready (rs:=[1]) (by kernel_rfl) (by simp) ?_
  refine AllReady.cons rfl (fun K hK=>?_) (AllReady.nil)
  go_simp
  refine hK _ _ ?_
  clear hK K
  refine wpAny_ready (rs:=[2]) (by kernel_rfl) (by simp) ?_
  refine AllReady.cons rfl (fun K hK=>?_) (AllReady.nil)
  go_simp
  refine (HBG.out _ _ _ HG.out).mono ?_
  rintro e u1 ⟨rfl,q⟩
  obtain ⟨r1,r2,r3⟩:=HX.out _ _ q
  obtain ⟨k0,k1⟩:=ptrO_cell r1
  have HSH:=Lib.hid ((r3 _ (Turn.refl _ _)).shaped HT.out)
  clear r1 r2 r3
  have G1:=Lib.hid q
  clear q
  refine hK _ _ ?_
  clear hK K
  refine wpAny_ready (rs:=[3]) (by kernel_rfl) (by simp) ?_
  refine AllReady.cons rfl (fun K hK=>?_) (AllReady.nil)
  go_simp
  refine (HDO.out _ _ _ G1.out HSH.out).mono ?_
  rintro e u2 (⟨e0,he0,rfl,q⟩ | ⟨rfl,q⟩)
  ·subst he0
   refine leaves_cons (f:=222) (args:=#[.pointer (some ⟨w.heap.size,0,none⟩),.pointer (some ⟨w.heap.size+1,0,none⟩)]) (by simp) (by simp [go_sem]) ?_
   refine (catch_gave (W:=W) (F0:=F0) e0 q HX.out).mono ?_
   rintro e u' w5 ⟨rfl,rfl,c1,c2⟩
   exact ask_left rfl (w.heap.size+1) askEnd rfl c1 ⟨rfl,c2⟩
  ·obtain ⟨r1,r2,r3⟩:=HX.out _ _ q
   obtain ⟨⟨d0,d1,d2,d3,d4⟩,d5,d6,d7,d8⟩:=askO_cells r2
   have G2:=Lib.hid (And.intro r2 r3)
   clear q r1 r2 r3
   unfold askV
   refine hK _ _ ?_
   clear hK K
   refine wpAny_ready (rs:=[4]) (by kernel_rfl) (by simp) ?_
   refine AllReady.cons rfl (fun K hK=>?_) (AllReady.nil)
   go_simp
   refine hK _ _ ?_
   clear hK K
   refine wpAny_done (by kernel_rfl) ?_ _
   go_wp2
   refine leaves_cons (f:=222) (args:=#[.pointer (some ⟨w.heap.size,0,none⟩),.pointer (some ⟨w.heap.size+1,0,none⟩)]) (by simp) (by simp [go_sem]) ?_
   refine catch_idle.mono ?_
   rintro e u' w5 ⟨rfl,rfl,rfl⟩
   exact ask_left rfl (w.heap.size+1) res.2 rfl (askO_set (k':=res.2) G2.out.1) ⟨rfl,G2.out.2 _ (turn4 _ _ (.int .i64 res.2.kind) (.int .i64 res.2.cell) (.float .f64 res.2.x) (.bool res.2.first))⟩
 ·go_simp
  refine hK _ _ ?_
  clear hK K
  refine wpAny_ready (rs:=[0,2]) (by kernel_rfl) (by simp) ?_
  refine AllReady.cons rfl (fun K hK=>?_) (AllReady.cons rfl (fun K hK=>?_) (AllReady.nil))
  ·go_simp
   refine hK _ _ ?_
   clear hK K
   refine wpAny_ready (rs:=[2]) (by kernel_rfl) (by simp) ?_
   refine AllReady.cons rfl (fun K hK=>?_) (AllReady.nil)
   go_simp
   refine (HBG.out _ _ _ HG.out).mono ?_
   rintro e u1 ⟨rfl,q⟩
   obtain ⟨r1,r2,r3⟩:=HX.out _ _ q
   obtain ⟨k0,k1⟩:=ptrO_cell r1
   have HSH:=Lib.hid ((r3 _ (Turn.refl _ _)).shaped HT.out)
   clear r1 r2 r3
   have G1:=Lib.hid q
   clear q
   refine hK _ _ ?_
   clear hK K
   refine wpAny_ready (rs:=[3]) (by kernel_rfl) (by simp) ?_
   refine AllReady.cons rfl (fun K hK=>?_) (AllReady.nil)
   go_simp
   refine (HDO.out _ _ _ G1.out HSH.out).mono ?_
   rintro e u2 (⟨e0,he0,rfl,q⟩ | ⟨rfl,q⟩)
   ·subst he0
    refine leaves_cons (f:=222) (args:=#[.pointer (some ⟨w.heap.size,0,none⟩),.pointer (some ⟨w.heap.size+1,0,none⟩)]) (by simp) (by simp [go_sem]) ?_
    refine (catch_gave (W:=W) (F0:=F0) e0 q HX.out).mono ?_
    rintro e u' w5 ⟨rfl,rfl,c1,c2⟩
    exact ask_left rfl (w.heap.size+1) askEnd rfl c1 ⟨rfl,c2⟩
   ·obtain ⟨r1,r2,r3⟩:=HX.out _ _ q
    obtain ⟨⟨d0,d1,d2,d3,d4⟩,d5,d6,d7,d8⟩:=askO_cells r2
    have G2:=Lib.hid (And.intro r2 r3)
    clear q r1 r2 r3
    unfold askV
    refine hK _ _ ?_
    clear hK K
    refine wpAny_ready (rs:=[4]) (by kernel_rfl) (by simp) ?_
    refine AllReady.cons rfl (fun K hK=>?_) (AllReady.nil)
    go_simp
    refine hK _ _ ?_
    clear hK K
    refine wpAny_done (by kernel_rfl) ?_ _
    go_wp2
    refine leaves_cons (f:=222) (args:=#[.pointer (some ⟨w.heap.size,0,none⟩),.pointer (some ⟨w.heap.size+1,0,none⟩)]) (by simp) (by simp [go_sem]) ?_
    refine catch_idle.mono ?_
    rintro e u' w5 ⟨rfl,rfl,rfl⟩
    exact ask_left rfl (w.heap.size+1) res.2 rfl (askO_set (k':=res.2) G2.out.1) ⟨rfl,G2.out.2 _ (turn4 _ _ (.int .i64 res.2.kind) (.int .i64 res.2.cell) (.float .f64 res.2.x) (.bool res.2.first))⟩
  ·go_simp
   refine (HBG.out _ _ _ HG.out).mono ?_
   rintro e u1 ⟨rfl,q⟩
   obtain ⟨r1,r2,r3⟩:=HX.out _ _ q
   obtain ⟨k0,k1⟩:=ptrO_cell r1
   have HSH:=Lib.hid ((r3 _ (Turn.refl _ _)).shaped HT.out)
   clear r1 r2 r3
   have G1:=Lib.hid q
   clear q
   refine hK _ _ ?_
   clear hK K
   refine wpAny_ready (rs:=[0]) (by kernel_rfl) (by simp) ?_
   refine AllReady.cons rfl (fun K hK=>?_) (AllReady.nil)
   go_simp
   refine hK _ _ ?_
   clear hK K
   refine wpAny_ready (rs:=[3]) (by kernel_rfl) (by simp) ?_
   refine AllReady.cons rfl (fun K hK=>?_) (AllReady.nil)
   go_simp
   refine (HDO.out _ _ _ G1.out HSH.out).mono ?_
   rintro e u2 (⟨e0,he0,rfl,q⟩ | ⟨rfl,q⟩)
   ·subst he0
    refine leaves_cons (f:=222) (args:=#[.pointer (some ⟨w.heap.size,0,none⟩),.pointer (some ⟨w.heap.size+1,0,none⟩)]) (by simp) (by simp [go_sem]) ?_
    refine (catch_gave (W:=W) (F0:=F0) e0 q HX.out).mono ?_
    rintro e u' w5 ⟨rfl,rfl,c1,c2⟩
    exact ask_left rfl (w.heap.size+1) askEnd rfl c1 ⟨rfl,c2⟩
   ·obtain ⟨r1,r2,r3⟩:=HX.out _ _ q
    obtain ⟨⟨d0,d1,d2,d3,d4⟩,d5,d6,d7,d8⟩:=askO_cells r2
    have G2:=Lib.hid (And.intro r2 r3)
    clear q r1 r2 r3
    unfold askV
    refine hK _ _ ?_
    clear hK K
    refine wpAny_ready (rs:=[4]) (by kernel_rfl) (by simp) ?_
    refine AllReady.cons rfl (fun K hK=>?_) (AllReady.nil)
    go_simp
    refine hK _ _ ?_
    clear hK K
    refine wpAny_done (by kernel_rfl) ?_ _
    go_wp2
    refine leaves_cons (f:=222) (args:=#[.pointer (some ⟨w.heap.size,0,none⟩),.pointer (some ⟨w.heap.size+1,0,none⟩)]) (by simp) (by simp [go_sem]) ?_
    refine catch_idle.mono ?_
    rintro e u' w5 ⟨rfl,rfl,rfl⟩
    exact ask_left rfl (w.heap.size+1) res.2 rfl (askO_set (k':=res.2) G2.out.1) ⟨rfl,G2.out.2 _ (turn4 _ _ (.int .i64 res.2.kind) (.int .i64 res.2.cell) (.float .f64 res.2.x) (.bool res.2.first))⟩
end
end Go.Proofs.YtlkldgopliablaaGreatDoor
namespace Go.Proofs.YtlkldgopliablaaGreatDoor
open Go.ChangeShapes Go.WideShapes Go.ChangeAt Go.RowKit Num
attribute [local go_sem] run_store_float
section
variable {W w:World} {b:Nat} {F0 K:List Nat} {m:Mac}
theorem step_any (h:Gm W F0 b K w m) (hT:TabAt W F0) (hI:Inv m):Calls Tryz.prog 214 #[.pointer (some ⟨b,0,none⟩)] w fun e w'=>e=.returned (askV (stepM m).2)∧Gm W F0 b K w' (stepM m).1:=by
 unfold stepM
 by_cases hw:0≤m.wait
 ·rw [if_pos hw]
  exact step_waits h hw
 rw [if_neg hw]
 by_cases h0:m.how=0
 ·rw [if_pos h0]
  by_cases hf:m.used<m.fuel
  ·rw [if_pos hf]
   by_cases hp:m.place<(m.code.length:Int)
   ·rw [if_pos hp]
    obtain ⟨k,hk⟩:∃ k:Nat,m.place=k:=⟨m.place.toNat,by have:=hI.place.1;omega⟩
    have hkl:k<m.code.length:=by omega
    have hmay:=hI.may k hkl
    have hin:insM m=ci m.code k:=by unfold insM;rw [hk,Int.toNat_natCast]
    rw [hin]
    rcases hci:ci m.code k with ⟨o,n,x⟩
    have hB:∀ W F0 w,Gm W F0 b K w m→Calls Tryz.prog 225 #[.pointer (some ⟨b,0,none⟩)] w fun r w'=>r=.returned (.agg #[.int .i64 o,.int .i64 n,.float .f64 x])∧Gm W F0 b K w' (begM m):=fun W F0 w h=>by
     have:=begin_ok h hf hk hkl ⟨by have:=hI.fuel;omega,by have:=hI.used;omega⟩ (by have:=hI.len;omega)
     rw [hci] at this
     exact this
    rw [hci] at hmay
    obtain ⟨q,hq⟩:∃ q:Nat,o=q:=⟨o.toNat,by have:=hmay.1;unfold mayB knownB at this;simp at this;omega⟩
    subst hq
    have hre:(begM m).reads.length≤1024:=by
     have h1:=hI.reads
     have h2:=hI.used
     have h3:=hI.fuel
     rw [if_neg hw] at h1
     show m.reads.length≤1024
     omega
    have hou:(begM m).out.length≤1024:=by
     have h1:=hI.out
     have h2:=hI.used
     have h3:=hI.fuel
     show m.out.length≤1024
     omega
    have hD:∀ W F0 w,Gm W F0 b K w (begM m)→Shaped5 w→Calls Tryz.prog 224 #[.pointer (some ⟨b,0,none⟩),.agg #[.int .i64 (q:Int),.int .i64 n,.float .f64 x]] w fun r w'=>Done W F0 b K (begM m) (doF (begM m) ⟨q,n,x⟩) r w':=fun W F0 w h hT=>do_any h hT hmay.1 hI.st hI.cells.2 hre hou
    exact step_do h hw h0 hT hB hD
   ·rw [if_neg hp]
    exact step_gave1 h hw h0 (e0:=50) (fun W F0 w h=>(begin_far h hf hp).mono fun r w' ⟨a1,a2⟩=>⟨a1,h.on a2⟩)
  ·rw [if_neg hf]
   exact step_gave1 h hw h0 (e0:=80) (fun W F0 w h=>(begin_fuel h hf).mono fun r w' ⟨a1,a2⟩=>⟨a1,h.on a2⟩)
 ·rw [if_neg h0]
  exact step_ended h hw h0
theorem give_any (h:Gm W F0 b K w m) (hI:Inv m) (x:Nat):Calls Tryz.prog 215 #[.pointer (some ⟨b,0,none⟩),.float .f64 x] w fun e w'=>e=.returned (.int .i64 (giveE m))∧Gm W F0 b K w' (giveM m x):=by
 have hb:=h.ltB
 have h27:=(wait_at h).1
 have f27:=h.free 27
 unfold giveE giveM
 by_cases hw:0≤m.wait
 ·rw [if_pos hw,if_pos hw]
  rw [decide_eq_true hw] at h27
  have h28:w.cell? ⟨b,28,none⟩=some (.int .i64 m.wait):=by
   obtain ⟨p,hm,_,_⟩:=h
   rw [← hm.wt hw]
   exact (hm.cell 28).trans rfl
  have g1:Gm W F0 b K (w.setCell ⟨b,27,none⟩ (.bool false)) { m with wait:=-1 }:=h.set 27 (.bool false) { m with wait:=-1 } (fun p _=>⟨p.wt,rfl,fun z=>absurd z (show ¬ (0:Int)≤-1 by decide)⟩) ⟨rfl,rfl,rfl,rfl,rfl,rfl,rfl⟩
  have HG:=Lib.hid (g1.same (Same.drew _))
  have hl:m.st.length<64:=by
   have:=hI.high
   rw [if_pos hw] at this
   omega
  have hr:m.reads.length≤1024:=by
   have h1:=hI.reads
   have h2:=hI.used
   have h3:=hI.fuel
   rw [if_pos hw] at h1
   omega
  have HS:=Lib.hid (And.intro hl hr)
  clear h g1 hI hl hr hw
  go_enter Tryz.func215,Tryz.ntmps215
  go_wp2
  refine region_tail 7 (by kernel_rfl) ?_
  simp only [List.take_succ_cons,List.take_zero,List.drop_succ_cons,List.drop_zero]
  repeat (first | still_step | still_call (fix_any x _))
  refine wpStill_nil ?_
  go_wp2_with (go_at_call 226;refine (hasRead_any HG.out m.wait (fixB x) HS.out.1 HS.out.2).mono ?_;rintro e u1 ⟨rfl,q⟩;have G1:=Lib.hid q;clear q)
  go_ret
  exact ⟨rfl,G1.out⟩
 ·rw [if_neg hw,if_neg hw]
  rw [decide_eq_false hw] at h27
  have HG:=Lib.hid h
  clear h hI hw
  go_enter Tryz.func215,Tryz.ntmps215
  go_wp2
  go_ret
  exact ⟨rfl,HG.out⟩
end
end Go.Proofs.YtlkldgopliablaaGreatDoor
