import Derived.Test.YtipakfjpfjehmaaGreatDoorJ3
import Derived.Test.YtipakfjpfjehmaaGreatDoorJ2
import Derived.Laws.MakeOwn
import Derived.Deep.AppendSrc
import Derived.Deep.MidRow
import Derived.Deep.RegionLaw
import Derived.Deep.CutBlock
import Derived.Deep.DeepCutAuto
import Derived.Test.YtipakfjpfjehmaaGreatDoorJ1
import Derived.Laws.Tables
import Derived.Deep.WholeRow
import Derived.Deep.RegionHeld
set_option maxRecDepth 100000
set_option maxHeartbeats 8000000
namespace Go.Proofs.YtipakfjpfjehmaaGreatDoor
open Go.ChangeShapes Go.WideShapes Go.ChangeAt Go.RowKit Num
attribute [local go_sem] a00
attribute [local go_sem] a00
attribute [local go_sem] a00
attribute [local go_sem] a00
theorem bG4 {w:World} {p:Option Addr} {c n:Nat} {l:List Nat} (h:RowAt 49 w p c (fls l)) (hn:l.length=n) (i:Nat) (hi:i<n):∃ g,p=some ⟨g,0,none⟩/\g<w.heap.size/\w.cell? ⟨g,i,none⟩=some (.float .f64 (l.getD i 0)):=by
 rcases h.own.2 with⟨hv,_⟩ | ⟨g,cap,cur,hv,_⟩
 ·injection hv with _ h2 _
  rw[a32]at h2;omega
 ·injection hv with h1 _ _
  subst h1;obtain⟨r1,_,r2⟩:=row_get h (j:=i) (v:=.float .f64 (l.getD i 0)) (by simp[fls,show i<l.length by omega]);exact⟨g,rfl,r2,r1⟩
theorem bA9 {w:World} {p:Option Addr} {c n:Nat} {l:Wr} (h:TRow w p c l) (hn:l.length=n) (i:Nat) (hi:i<n):∃ g,p=some ⟨g,0,none⟩/\g<w.heap.size/\w.cell? ⟨g,i*2,none⟩=some (.int .i64 (l.getD i (0,0)).1)/\w.cell? ⟨g,i*2+1,none⟩=some (.float .f64 (l.getD i (0,0)).2):=by
 obtain⟨g,r1,r2,r3,r4,_⟩:=h.at i (by omega);rw[show l.getD i (0,0)=l[i]'(by omega) by simp[show i<l.length by omega]];exact⟨g,r1,r2,r3,r4⟩
attribute [local go_sem] a00
theorem RowAt.fl {w:World} {p:Option Addr} {c:Nat} {l:List Nat} (h:RowAt 49 w p c (fls l)):FlAt w p l:=fun k hk=>by
 obtain⟨g,e,hg,c⟩:=bG4 h rfl k hk;exact⟨g,0,e,hg,by rw[Nat.zero_add];exact c⟩
attribute [local go_sem] a00
attribute [local go_sem] a00
attribute [local go_sem] a00
theorem aD0 {l:List Nat} {j:Nat} (hj:j<l.length):(fls l)[j]?=some (.float .f64 (l.getD j 0)):=by
 unfold fls;rw[List.getElem?_map,List.getElem?_eq_getElem hj,zG,List.getElem?_eq_getElem hj]
 rfl
end Go.Proofs.YtipakfjpfjehmaaGreatDoor
namespace Go.Proofs.YtipakfjpfjehmaaGreatDoor.Rr
open Go.ChangeShapes Go.WideShapes Go.ChangeAt Go.RowKit Num
attribute [local go_sem] a00 frombits_run bits_run
def rowL (l:List Nat) (k n:Nat):List Nat:=(List.range n).map fun i=>if i<k then fixB (l.getD i 0) else 0
theorem ah0 (l:List Nat) (k n:Nat):(rowL l k n).length=n:=by simp[rowL]
theorem ax7 (l:List Nat) (n:Nat):rowL l 0 n=List.replicate n 0:=by
 apply List.ext_getElem
 ·simp[rowL]
 ·intro i h1 h2
  simp[rowL]
theorem aF1 {l:List Nat} {n:Nat} (h:l.length=n):rowL l n n=l.map fixB:=by
 apply List.ext_getElem
 ·simp[rowL,h]
 ·intro i h1 h2
  have hi:i<n:=by simpa[rowL]using h1
  simp[rowL,hi,h]
theorem aF2 (l:List Nat) (k n:Nat):(rowL l k n).set k (fixB (l.getD k 0))=rowL l (k+1) n:=by
 apply List.ext_getElem
 ·simp[rowL]
 ·intro i h1 h2
  rw[List.getElem_set]
  by_cases e:k=i
  ·subst e
   simp[rowL]
  ·rw[if_neg e]
   simp only[rowL,List.getElem_map,List.getElem_range]
   by_cases q:i<k
   ·rw[if_pos q,if_pos (by omega)]
   ·rw[if_neg q,if_neg (by omega)]
theorem fMk (n:Nat) (hn:n<=256) (w:World):(Instr.makeSlice 24 (.int .i64 (n:Int)) (.int .i64 (n:Int))).run Tryz.prog w=.ok (.slice (some ⟨w.heap.size,0,none⟩) n n) (w.alloc (.cells (fls (List.replicate n 0)).toArray 49)):=by
 obtain⟨i,hi,hz0,hz1,hz2⟩:=info_parts aH2;rw[run_make w 24 49 i (.float .f64 0) Tryz.underlying24 hi hz0 .i64 .i64 n n (by omega) (zW _) (by rw[hz2];omega) (by omega)];have e:(madeCells (.float .f64 0:Value).cells (((n:Int)).toNat*i.size))=(fls (List.replicate n 0)).toArray:=by
  rw[hz1,Nat.mul_one,Int.toNat_natCast]
  apply Array.toList_inj.1
  rw[show (.float .f64 0:Value).cells=#[.float .f64 0] from rfl,toList_madeCells_one]
  simp[fls]
 rw[e,Int.toNat_natCast]
theorem row_made {w:World} {l:List Nat} {n:Nat} (hl:l.length=n) (hn:n<=256):RowAt 49 (w.alloc (.cells (fls l).toArray 49)) (some ⟨w.heap.size,0,none⟩) n (fls l):=⟨by
 rw[a32,hl];exact World.ownsRow_lit w _ n (zV _) (by unfold maxLen;omega) (by rw[List.size_toArray,a32,hl,Nat.mul_one])⟩
theorem av7 {w:World} {po:Option Addr} {l:List Nat} {k co:Nat} (hk:l.length=k) (hL:FlAt w po l) (hk8:k<=8):Calls Tryz.prog 108 #[.slice po k co] w fun e w'=>e=.returned (.slice (some ⟨w.heap.size,0,none⟩) k k)/\RowAt 49 w' (some ⟨w.heap.size,0,none⟩) k (fls (l.map fixB))/\Bl w w':=by
 have hmk:=fMk k (by omega) w;have HL0:Hid (∀ wr,Bl w wr->FlAt wr po l):=fun wr h=>hL.on h
 have HE:Hid (rowL l k k=l.map fixB):=aF1 hk;have HS0:Hid (RowAt 49 (w.alloc (.cells (fls (List.replicate k 0)).toArray 49)) (some ⟨w.heap.size,0,none⟩) k (fls (rowL l 0 k))):=by
  have:=row_made (w:=w) (ah0 l 0 k) (by omega);rw[ax7]at this ⊢;exact this
 have HAT:Hid (∀ (v x y s:Int) (w:World),Calls Tryz.prog 68 #[.agg #[.int .u64 v,.int .u64 x,.int .u64 y],.int .u64 s] w fun e w'=>e=.returned (.float .f64 (Md.Ce.atV v x y s))/\Bl w w'):=Md.Ce.cat_any;have HK:Hid (l.length=k):=hk;clear hL hk;go_enter Tryz.func108,Tryz.ntmps108
 go_wp2
 go_loopw [11] (fun vi wr=>∃ i:Nat,vi=.int .i64 i/\i<=k/\Hid (RowAt 49 wr (some ⟨w.heap.size,0,none⟩) k (fls (rowL l i k)))/\Hid (Bl w wr)) (fun vi _=>k - (intOf vi).toNat)
 case atStart=>exact⟨0,rfl,zV _,HS0.out,below_alloc w _⟩
 case round =>
  obtain⟨i,rfl,hi,HR,HB⟩:=hrel
  by_cases hlt:i<k
  ·have hlt':(i:Int)<(k:Int):=by omega
   obtain⟨g,o,rfl,hg,hx⟩:=HL0.out _ HB.out i (by rw[HK.out];exact hlt);have hAt:Hid (∀ y:Nat,Md.Ce.atV 0 (y:Int) 0 0=fixB y):=fun y=>by unfold Md.Ce.atV;rw[if_neg (by omega)];rfl
   have HS1:=zH (aF2 l i k)
   generalize l.getD i 0=y at hx HS1
   obtain⟨r0,r1,r2⟩:=row_get HR.out (j:=i) (v:=.float .f64 ((rowL l i k).getD i 0)) (by rw[aD0 (by rw[ah0];exact hlt)]);have HD:Hid (∀ u,Bl wr u->u.cell? ⟨w.heap.size,i,none⟩=some (.float .f64 ((rowL l i k).getD i 0))/\u.frozen? ⟨w.heap.size,i,none⟩=false/\w.heap.size<u.heap.size/\RowAt 49 (u.setCell ⟨w.heap.size,i,none⟩ (.float .f64 (fixB y))) (some ⟨w.heap.size,0,none⟩) k (fls (rowL l (i+1) k))/\Bl w (u.setCell ⟨w.heap.size,i,none⟩ (.float .f64 (fixB y)))):=fun u hu=>by
    have h1:=HR.out.on hu;obtain⟨a1,a2,a3⟩:=row_get h1 (j:=i) (v:=.float .f64 ((rowL l i k).getD i 0)) (by rw[aD0 (by rw[ah0];exact hlt)]);have q:=(row_put h1 i (.float .f64 (fixB y))).1;rw[b39,HS1.out]at q;exact⟨a1,a2,a3,q,(HB.out.trans (hu.mono HB.out.size)).setCell (zE _) _⟩
   clear HL0 HS0
   go_wp2_with (go_at_call 68;refine(HAT.out _ _ _ _ _).mono ?_;rintro e u ⟨rfl,hb⟩;rw[hAt.out];obtain⟨a1,a2,a3,a4,a5⟩:=HD.out _ hb;have HZ:=zH (And.intro a4 a5);clear a4 a5 hb)
   exact⟨⟨i+1,by first | rfl | (congr 1),by omega,HZ.out.1,HZ.out.2⟩,by simp[intOf];omega⟩
  ·have hlt':¬ (i:Int)<(k:Int):=by omega
   obtain rfl:i=k:=by omega
   have HZ:=zH HR.out;rw[HE.out]at HZ
   go_wp2
   go_ret;exact⟨rfl,HZ.out,HB.out⟩
attribute [local go_sem] a00
abbrev trC (a b:Int) (bm:Option Addr) (st t:Int) (pa:Option Addr) (n ca:Nat):Array Value:=#[.int .i64 0,.int .i64 1,.int .i64 2,.int .i64 3,.int .i64 (3+b),.int .i64 (3+b+3*a),.pointer bm,.int .i64 st,.int .i64 t,.slice pa n ca]
abbrev trO (c:Array Value):Obj:=.cells c 162
abbrev trZ:Array Value:=#[.int .i64 0,.int .i64 0,.int .i64 0,.int .i64 0,.int .i64 0,.int .i64 0,.pointer none,.int .i64 0,.int .i64 0,.slice none 0 0]
theorem bA6 {fn:Func} {p u:Tmp} (h:fn.results=#[.cell p 162,.tmp u]) {Q:Ending->World->Prop} {a:Act} {w:World} (g:Nat) {v0 v1 v2 v3 v4 v5 v6 v7 v8 v9:Value} (may:Bool) (hp:a.tmps.getD p undef=.pointer (some ⟨g,0,none⟩)) (hu:a.tmps.getD u undef=.bool may)
  (hg:w.heap[g]?=some (.cells #[v0,v1,v2,v3,v4,v5,v6,v7,v8,v9] 162 (0,0))) (hd:a.defers=[]) (hR:Q (.returned (.tuple #[.agg #[v0,v1,v2,v3,v4,v5,v6,v7,v8,v9],.bool may])) w):bodyPost Tryz.prog fn Q .ret a w:=by
 refine bodyPost_ret (v:=.tuple #[.agg #[v0,v1,v2,v3,v4,v5,v6,v7,v8,v9],.bool may]) ?_ hd hR;rw[results_cell_tmp h,hp,hu];have hl:=run_loadVar_row (P:=Tryz.prog) w g 162 162 #[v0,v1,v2,v3,v4,v5,v6,v7,v8,v9] (0,0) _ hg Tryz.underlying162 rfl (by kernel_rfl)
 simp[asAddr,hl,Result.andThen]
abbrev begW (w:World) (a b c e t:Int) (ao:Option Addr) (n cap:Nat):World:=((w.alloc (cfgO a b c e)).alloc (prgO t ao n cap)).alloc (trO trZ)
theorem heap_old {w:World} {o y:Obj} {k:Nat} (e:w.heap[k]?=some y):(w.alloc o).heap[k]?=some y:=(Below.heap_alloc _ _ _ (Array.getElem?_eq_some_iff.1 e).1).trans e
theorem aU3 {w u:World} {a b c e t:Int} {ao:Option Addr} {n cap:Nat} (h:Below (begW w a b c e t ao n cap).heap.size (begW w a b c e t ao n cap) u) :
  u.heap[w.heap.size]?=some (cfgO a b c e)/\u.heap[w.heap.size+1]?=some (prgO t ao n cap)/\u.heap[w.heap.size+1+1]?=some (trO trZ)/\Bl w u:=by
 have h0:(begW w a b c e t ao n cap).heap[w.heap.size]?=some (cfgO a b c e):=heap_old (heap_old (zN _ _));have h1:(begW w a b c e t ao n cap).heap[w.heap.size+1]?=some (prgO t ao n cap):=heap_old (aa4 (by simp));have h2:(begW w a b c e t ao n cap).heap[w.heap.size+1+1]?=some (trO trZ):=aa4 (by simp);refine⟨(h.block _ (lt_of_block h0)).trans h0,(h.block _ (lt_of_block h1)).trans h1,(h.block _ (lt_of_block h2)).trans h2,?_⟩;exact(((below_alloc w _).trans ((below_alloc _ _).mono (by simp))).trans ((below_alloc _ _).mono (by simp;omega))).trans (h.mono (by simp[begW];omega))
theorem b08 {w:World} {x:Nat} {v0 v1 v2 v3 v4 v5 v6 v7 v8 v9:Value} {T:TypeId} (h:w.heap[x]?=some (.cells #[v0,v1,v2,v3,v4,v5,v6,v7,v8,v9] T (0,0))):(w.cell? ⟨x,0,none⟩=some v0/\w.cell? ⟨x,1,none⟩=some v1/\w.cell? ⟨x,2,none⟩=some v2/\w.cell? ⟨x,3,none⟩=some v3/\w.cell? ⟨x,4,none⟩=some v4/\w.cell? ⟨x,5,none⟩=some v5/\w.cell? ⟨x,6,none⟩=some v6/\w.cell? ⟨x,7,none⟩=some v7/\w.cell? ⟨x,8,none⟩=some v8/\w.cell? ⟨x,9,none⟩=some v9/\x<w.heap.size)/\∀ j,w.frozen? ⟨x,j,none⟩=false :=
 ⟨⟨(zR w x 0 _ _ _ h).trans rfl,(zR w x 1 _ _ _ h).trans rfl,(zR w x 2 _ _ _ h).trans rfl,(zR w x 3 _ _ _ h).trans rfl,(zR w x 4 _ _ _ h).trans rfl,(zR w x 5 _ _ _ h).trans rfl,(zR w x 6 _ _ _ h).trans rfl,(zR w x 7 _ _ _ h).trans rfl,(zR w x 8 _ _ _ h).trans rfl,(zR w x 9 _ _ _ h).trans rfl,lt_of_block h⟩,fun j=>zZ w x j _ _ h⟩
theorem bN6 {w:World} {x:Nat} {v0 v1 v2 v3 v4 v5 v6 v7 v8 v9 u0 u1 u2 u3 u4 u5 u6 u7 u8 u9:Value} {T:TypeId} (h:w.heap[x]?=some (.cells #[v0,v1,v2,v3,v4,v5,v6,v7,v8,v9] T (0,0))):((((((((((w.setCell ⟨x,0,none⟩ u0).setCell ⟨x,1,none⟩ u1).setCell ⟨x,2,none⟩ u2).setCell ⟨x,3,none⟩ u3).setCell ⟨x,4,none⟩ u4).setCell ⟨x,5,none⟩ u5).setCell ⟨x,6,none⟩ u6).setCell ⟨x,7,none⟩ u7).setCell ⟨x,8,none⟩ u8).setCell ⟨x,9,none⟩ u9).heap[x]?=some (.cells #[u0,u1,u2,u3,u4,u5,u6,u7,u8,u9] T (0,0)):=by
 have h0:=(zS _ x 0 _ _ u0 h).trans (show _=some (Obj.cells #[u0,v1,v2,v3,v4,v5,v6,v7,v8,v9] T (0,0)) from rfl);have h1:=(zS _ x 1 _ _ u1 h0).trans (show _=some (Obj.cells #[u0,u1,v2,v3,v4,v5,v6,v7,v8,v9] T (0,0)) from rfl);have h2:=(zS _ x 2 _ _ u2 h1).trans (show _=some (Obj.cells #[u0,u1,u2,v3,v4,v5,v6,v7,v8,v9] T (0,0)) from rfl);have h3:=(zS _ x 3 _ _ u3 h2).trans (show _=some (Obj.cells #[u0,u1,u2,u3,v4,v5,v6,v7,v8,v9] T (0,0)) from rfl);have h4:=(zS _ x 4 _ _ u4 h3).trans (show _=some (Obj.cells #[u0,u1,u2,u3,u4,v5,v6,v7,v8,v9] T (0,0)) from rfl);have h5:=(zS _ x 5 _ _ u5 h4).trans (show _=some (Obj.cells #[u0,u1,u2,u3,u4,u5,v6,v7,v8,v9] T (0,0)) from rfl);have h6:=(zS _ x 6 _ _ u6 h5).trans (show _=some (Obj.cells #[u0,u1,u2,u3,u4,u5,u6,v7,v8,v9] T (0,0)) from rfl);have h7:=(zS _ x 7 _ _ u7 h6).trans (show _=some (Obj.cells #[u0,u1,u2,u3,u4,u5,u6,u7,v8,v9] T (0,0)) from rfl);have h8:=(zS _ x 8 _ _ u8 h7).trans (show _=some (Obj.cells #[u0,u1,u2,u3,u4,u5,u6,u7,u8,v9] T (0,0)) from rfl);have h9:=(zS _ x 9 _ _ u9 h8).trans (show _=some (Obj.cells #[u0,u1,u2,u3,u4,u5,u6,u7,u8,u9] T (0,0)) from rfl);exact h9
theorem bx5 {w:World} {x y:Nat} (u0 u1 u2 u3 u4 u5 u6 u7 u8 u9:Value) (h:y≠x):((((((((((w.setCell ⟨x,0,none⟩ u0).setCell ⟨x,1,none⟩ u1).setCell ⟨x,2,none⟩ u2).setCell ⟨x,3,none⟩ u3).setCell ⟨x,4,none⟩ u4).setCell ⟨x,5,none⟩ u5).setCell ⟨x,6,none⟩ u6).setCell ⟨x,7,none⟩ u7).setCell ⟨x,8,none⟩ u8).setCell ⟨x,9,none⟩ u9).heap[y]?=w.heap[y]?:=(zO _ _ _ _ h).trans ((zO _ _ _ _ h).trans ((zO _ _ _ _ h).trans ((zO _ _ _ _ h).trans ((zO _ _ _ _ h).trans ((zO _ _ _ _ h).trans ((zO _ _ _ _ h).trans ((zO _ _ _ _ h).trans ((zO _ _ _ _ h).trans (zO _ _ _ _ h)))))))))
theorem bJ0 {B:Nat} {a w:World} {x:Nat} (u0 u1 u2 u3 u4 u5 u6 u7 u8 u9:Value) (h:Below B a w) (hx:B<=x):Below B a ((((((((((w.setCell ⟨x,0,none⟩ u0).setCell ⟨x,1,none⟩ u1).setCell ⟨x,2,none⟩ u2).setCell ⟨x,3,none⟩ u3).setCell ⟨x,4,none⟩ u4).setCell ⟨x,5,none⟩ u5).setCell ⟨x,6,none⟩ u6).setCell ⟨x,7,none⟩ u7).setCell ⟨x,8,none⟩ u8).setCell ⟨x,9,none⟩ u9):=(((((((((h.setCell hx _).setCell hx _).setCell hx _).setCell hx _).setCell hx _).setCell hx _).setCell hx _).setCell hx _).setCell hx _).setCell hx _
theorem aP9 {w:World} {x:Nat} {v0 v1 v2 v3 v4 v5:Value} {T:TypeId} (h:w.heap[x]?=some (.cells #[v0,v1,v2,v3,v4,v5] T (0,0))):w.cell? ⟨x,0,none⟩=some v0/\w.cell? ⟨x,1,none⟩=some v1/\w.cell? ⟨x,2,none⟩=some v2/\w.cell? ⟨x,3,none⟩=some v3/\w.cell? ⟨x,4,none⟩=some v4/\w.cell? ⟨x,5,none⟩=some v5/\x<w.heap.size :=
 ⟨(zR w x 0 _ _ _ h).trans rfl,(zR w x 1 _ _ _ h).trans rfl,(zR w x 2 _ _ _ h).trans rfl,(zR w x 3 _ _ _ h).trans rfl,(zR w x 4 _ _ _ h).trans rfl,(zR w x 5 _ _ _ h).trans rfl,lt_of_block h⟩
theorem cells4 {w:World} {x:Nat} {v0 v1 v2 v3:Value} {T:TypeId} (h:w.heap[x]?=some (.cells #[v0,v1,v2,v3] T (0,0))):w.cell? ⟨x,0,none⟩=some v0/\w.cell? ⟨x,1,none⟩=some v1/\w.cell? ⟨x,2,none⟩=some v2/\w.cell? ⟨x,3,none⟩=some v3/\x<w.heap.size :=
 ⟨(zR w x 0 _ _ _ h).trans rfl,(zR w x 1 _ _ _ h).trans rfl,(zR w x 2 _ _ _ h).trans rfl,(zR w x 3 _ _ _ h).trans rfl,lt_of_block h⟩
theorem aG3 {w:World} {x:Nat} {v0 v1:Value} {T:TypeId} (h:w.heap[x]?=some (.cells #[v0,v1] T (0,0))):w.cell? ⟨x,0,none⟩=some v0/\w.cell? ⟨x,1,none⟩=some v1/\x<w.heap.size :=
 ⟨(zR w x 0 _ _ _ h).trans rfl,(zR w x 1 _ _ _ h).trans rfl,lt_of_block h⟩
section
variable {w:World} {a b c e t:Int} {ao:Option Addr} {cs:List Ins} {n cap:Nat} {po:Option Addr} {l:List Nat} {k co:Nat}
theorem b04 (hc:Md.cfgB a b c e=true) (hn:cs.length=n) (hk:l.length=k) (hk8:k<=8) (hT:Shaped5 w) (hC:a39 w ao cs) (hL:FlAt w po l) (hnl:n<=9223372036854775807):Calls Tryz.prog 92 #[cfgV a b c e,.agg #[.int .i64 t,.slice ao n cap],.slice po k co] w fun r w'=>∃ bm K pa,r=.returned (.tuple #[.agg (trC a b (some ⟨bm,0,none⟩) 0 t (some ⟨pa,0,none⟩) k k),.bool true])/\∃ F,Mc w' bm F K (newM a c e t cs l)/\Abv w.heap.size F/\Abv w.heap.size K/\pa∉F/\pa∉K/\w.heap.size<=pa/\RowAt 49 w' (some ⟨pa,0,none⟩) k (fls (l.map fixB))/\Bl w w':=by
 have HN:Hid (∀ u,Bl w u->Calls Tryz.prog 88 #[cfgV a b c e,.agg #[.int .i64 t,.slice ao n cap],.slice po k co] u fun r w'=>∃ bm K,r=.returned (.pointer (some ⟨bm,0,none⟩))/\Gm u [] bm K w' (newM a c e t cs l)/\Abv u.heap.size K):=fun u hb=>aR7 hn hk (hT.on hb) (hC.on hb) (hL.on hb) hnl hc hk8
 have HX:Hid (∀ u,Below (begW w a b c e t ao n cap).heap.size (begW w a b c e t ao n cap) u->u.heap[w.heap.size]?=some (cfgO a b c e)/\u.heap[w.heap.size+1]?=some (prgO t ao n cap)/\u.heap[w.heap.size+1+1]?=some (trO trZ)/\Bl w u):=fun u hb=>aU3 hb
 have HP:=zH (fun u=>Md.place_any a b c e u);simp only[hc]at HP;have HFX:Hid (∀ u,Bl w u->Calls Tryz.prog 108 #[.slice po k co] u fun e w'=>e=.returned (.slice (some ⟨u.heap.size,0,none⟩) k k)/\RowAt 49 w' (some ⟨u.heap.size,0,none⟩) k (fls (l.map fixB))/\Bl u w'):=fun u hb=>av7 hk (hL.on hb) hk8
 clear hT hC hL hnl hn hk hc
 generalize newM a c e t cs l=m0 at *
 generalize h4:3+b=p4 at *
 generalize h5:p4+3*a=p5 at *
 go_enter Tryz.func92,Tryz.ntmps92
 go_wp2_with (first
  | (go_at_call 88;refine(HN.out _ ((HX.out _ (H1.out.alloc H1.out.size _)).2.2.2)).mono ?_;rintro e u2 ⟨bm,K,rfl,q1,q2⟩;have G2:=zH (And.intro q1 q2);have H2:=zH (a20 (H1.out.alloc H1.out.size _) q1.fresh);clear q1 q2)
  | (go_at_call 27;refine(HP.out _).mono ?_;rintro e u1 ⟨rfl,q⟩;have H1:=zH q;obtain⟨b0,b1,b2,b3⟩:=HX.out _ q;obtain⟨c0,c1,c2,c3,c4⟩:=cells4 b0;obtain⟨d0,d1,d2⟩:=aG3 b1;clear b0 b1 b2 b3 q))
 have Hb0:Hid (u2.heap[u1.heap.size]?=some (.cells #[.int .i64 0,.int .i64 1,.int .i64 2,.int .i64 3,.int .i64 p4,.int .i64 p5] 64)):=(G2.out.1.fresh.block _ (by simp)).trans (zN _ _);obtain⟨m0',m1,m2,m3⟩:=HX.out _ H2.out;have HB2:Hid (Bl w u2):=m3;obtain⟨d20,d21,d22⟩:=aG3 m1;obtain⟨e0,e1,e2,e3,e4,e5,e6⟩:=aP9 Hb0.out;have HTZ:Hid (u2.heap[w.heap.size+1+1]?=some (trO trZ)):=m2;have HNE:=zH (show u1.heap.size≠w.heap.size+1+1/\w.heap.size+1+1<u1.heap.size by have:=H1.out.size;simp at this;omega);clear m0' m1 m2 m3;refine a06 (fun u=>(u.cell? ⟨u1.heap.size,0,none⟩=some (.int .i64 0)/\u.cell? ⟨u1.heap.size,1,none⟩=some (.int .i64 1)/\u.cell? ⟨u1.heap.size,2,none⟩=some (.int .i64 2)/\u.cell? ⟨u1.heap.size,3,none⟩=some (.int .i64 3)/\u.cell? ⟨u1.heap.size,4,none⟩=some (.int .i64 p4)/\u.cell? ⟨u1.heap.size,5,none⟩=some (.int .i64 p5))/\u.cell? ⟨w.heap.size+1,0,none⟩=some (.int .i64 t) )  ((0,true)::(1,true)::(2,true)::(3,true)::(4,true)::(5,false)::(6,true)::(7,false)::(8,true)::[])  Md.Cv.follows13 (by kernel_rfl) (fun _ _ _ _ _ h=>h)  ⟨⟨e0,e1,e2,e3,e4,e5⟩,d20⟩ ?_
 (repeat ((first | (refine a02 (v:=?_) rfl (by rfl) (fun wq hSq=>?_) ?_;rotate_left;(focus ((try dsimp only at hSq);go_simp;try with_reducible rfl))) | refine a03 rfl (by rfl) ?_);simp only[Act.put,zA,zB,zC]))
 (refine a04 rfl (by rfl) (fun KK hK=>?_);go_simp)
 refine(HFX.out _ (HB2.out.trans ((Same.drew u2).below _))).mono ?_;rintro e u3 ⟨rfl,q1,q2⟩;have HR:=zH (And.intro q1 q2);have HB3:Hid (Bl w u3/\Bl u2 u3):=⟨(HB2.out.trans ((Same.drew u2).below _)).trans (q2.mono HB2.out.size),((Same.drew u2).below _).trans q2⟩;have HT3:Hid (u3.heap[w.heap.size+1+1]?=some (trO trZ)):=(HB3.out.2.block _ (lt_of_block HTZ.out)).trans HTZ.out;obtain⟨e30,e31,e32,e33,e34,e35,e36⟩:=aP9 ((HB3.out.2.block _ (lt_of_block Hb0.out)).trans Hb0.out);have d30:u3.cell? ⟨w.heap.size+1,0,none⟩=some (.int .i64 t):=(HB3.out.2.cell (p:=⟨w.heap.size+1,0,none⟩) d22).trans d20;obtain⟨⟨s0,s1,s2,s3,s4,s5,s6,s7,s8,s9,s10⟩,f⟩:=b08 HT3.out;have f0:=f 0;have f1:=f 1;have f2:=f 2;have f3:=f 3;have f4:=f 4;have f5:=f 5;have f6:=f 6;have f7:=f 7;have f8:=f 8;have f9:=f 9;clear q1 q2 f;refine hK.out _ _ ⟨⟨e30,e31,e32,e33,e34,e35⟩,d30⟩ ?_
 (clear hK KK;try simp only[Act.put,zA,zB,zC])
 (repeat ((first | (refine a02 (v:=?_) rfl (by rfl) (fun wq hSq=>?_) ?_;rotate_left;(focus ((try dsimp only at hSq);go_simp;try with_reducible rfl))) | refine a03 rfl (by rfl) ?_);simp only[Act.put,zA,zB,zC]))
 (refine a04 rfl (by rfl) (fun KK hK=>?_);go_simp)
 have O:∀ j y,y≠w.heap.size+1+1->_:=fun j y hy=>Md.Cv.cell_kept (w:=u3) (bx5 (.int .i64 0) (.int .i64 1) (.int .i64 2) (.int .i64 3) (.int .i64 p4) (.int .i64 p5) (.pointer (some ⟨bm,0,none⟩)) (.int .i64 0) (.int .i64 t) (.slice (some ⟨u2.heap.size,0,none⟩) k k) hy) j
 refine hK.out _ _ ⟨⟨(O 0 _ HNE.out.1).trans e30,(O 1 _ HNE.out.1).trans e31,(O 2 _ HNE.out.1).trans e32,(O 3 _ HNE.out.1).trans e33,(O 4 _ HNE.out.1).trans e34,(O 5 _ HNE.out.1).trans e35⟩,(O 0 _ (by omega)).trans d30⟩ ?_;clear O
 (clear hK KK;try simp only[Act.put,zA,zB,zC])
 (repeat ((first | (refine a02 (v:=?_) rfl (by rfl) (fun wq hSq=>?_) ?_;rotate_left;(focus ((try dsimp only at hSq);go_simp;try with_reducible rfl))) | refine a03 rfl (by rfl) ?_);simp only[Act.put,zA,zB,zC]))
 refine a13 ?_;go_wp2_with fail;subst h4 h5;refine bA6 rfl (w.heap.size+1+1) true rfl rfl (bN6 HT3.out) rfl ⟨bm,K,u2.heap.size,rfl,?_⟩;obtain⟨F,hM,tF⟩:=G2.out.1.mc;have lo:Abv (u1.alloc (.cells #[.int .i64 0,.int .i64 1,.int .i64 2,.int .i64 3,.int .i64 (3+b),.int .i64 (3+b+3*a)] 64)).heap.size F:=fun i hi=>(tF.own i hi).elim (fun q=>by simp at q) id
 have lo2:=G2.out.2;have sz:(u1.alloc (.cells #[.int .i64 0,.int .i64 1,.int .i64 2,.int .i64 3,.int .i64 (3+b),.int .i64 (3+b+3*a)] 64)).heap.size=u1.heap.size+1:=by simp
 rw[sz]at lo lo2;have hne:=HNE.out.2;have hs2:=tF.size;rw[sz]at hs2;have kk:∀ L:List Nat,Blw u2 L->Abv (u1.heap.size+1) L->Kept L u2 (((((((((((u3.setCell ⟨w.heap.size+1+1,0,none⟩ (.int .i64 0)).setCell ⟨w.heap.size+1+1,1,none⟩ (.int .i64 1)).setCell ⟨w.heap.size+1+1,2,none⟩ (.int .i64 2)).setCell ⟨w.heap.size+1+1,3,none⟩ (.int .i64 3)).setCell ⟨w.heap.size+1+1,4,none⟩ (.int .i64 (3+b))).setCell ⟨w.heap.size+1+1,5,none⟩ (.int .i64 (3+b+3*a))).setCell ⟨w.heap.size+1+1,6,none⟩ (.pointer (some ⟨bm,0,none⟩))).setCell ⟨w.heap.size+1+1,7,none⟩ (.int .i64 0)).setCell ⟨w.heap.size+1+1,8,none⟩ (.int .i64 t)).setCell ⟨w.heap.size+1+1,9,none⟩ (.slice (some ⟨u2.heap.size,0,none⟩) k k))):=fun L hb ha=>⟨by have:=HB3.out.2.size;simpa using this,fun i hi=>(bx5 _ _ _ _ _ _ _ _ _ _ (by have:=ha i hi;omega)).trans (HB3.out.2.block i (hb i hi))⟩
 refine⟨F,hM.keep (kk F hM.blw lo) (kk K hM.blwK lo2),fun i hi=>by have:=lo i hi;omega,fun i hi=>by have:=lo2 i hi;omega,fun q=>absurd (hM.blw _ q) (Nat.lt_irrefl _),fun q=>absurd (hM.blwK _ q) (Nat.lt_irrefl _),by omega,HR.out.1.keep ⟨by simp,fun i hi=>bx5 _ _ _ _ _ _ _ _ _ _ ?_⟩,bJ0 _ _ _ _ _ _ _ _ _ _ HB3.out.1 (by omega)⟩
 simp[fpR]at hi
 omega
end
attribute [local go_sem] a00
def newX (a b c e t:Int) (cs:List Ins) (l:List Nat) (th:Int):Rx:=⟨a,b,th,t,l.map fixB,newM a c e t cs l,0,1,0,0,0,-1,0,0⟩
theorem a43 {a b c e t:Int} {cs:List Ins} {l:List Nat} {th:Int} (hc:Md.cfgB a b c e=true) (hx:∀ k,k<cs.length->(ci cs k).x<18446744073709551616) (hl:∀ x∈l,x<18446744073709551616) (hk:l.length<=8) (ht:0<=th/\th<b):InX (newX a b c e t cs l th):=by
 obtain⟨h1,h2,h3,h4⟩:=Md.cfgB_iff.1 hc;have z:u64B 0:=⟨by decide,by decide⟩;exact⟨⟨h1,h2,rfl,ht,b55 hc hx hl,by show (l.map fixB).length<=8;simpa using hk,⟨by show 1<=1;omega,by show 1<=4;omega⟩,fun _=>⟨by show 0<=2;omega,rfl,rfl,fun _=>rfl,rfl,by show ¬ (0:Int)<=-1;omega⟩,(fun q=>by cases q),(fun q=>by rcases q with q | q <;> cases q),z,z,z,z⟩,by show (0:Int)<=0;omega,fun _=>rfl,(fun q=>by cases q),(fun q=>by cases q),(fun q=>by cases q)⟩
section
variable {w:World} {a b c e t th:Int} {ao:Option Addr} {cs:List Ins} {n cap:Nat} {po:Option Addr} {l:List Nat} {k co:Nat}
def au3 (w w':World) (bm pa:Nat) (K:List Nat) (k:Nat) (l:List Nat) (m:Mac):Prop:=∃ F,Mc w' bm F K m/\Abv w.heap.size F/\Abv w.heap.size K/\pa∉F/\pa∉K/\w.heap.size<=pa/\RowAt 49 w' (some ⟨pa,0,none⟩) k (fls (l.map fixB))/\Bl w w'
theorem au3.on {w w' w2:World} {bm pa:Nat} {K:List Nat} {k:Nat} {l:List Nat} {m:Mac} (h:au3 w w' bm pa K k l m) (q:Bl w' w2):au3 w w2 bm pa K k l m:=by
 obtain⟨F,h1,h2,h3,h4,h5,h6,h7,h8⟩:=h;exact⟨F,h1.on q,h2,h3,h4,h5,h6,h7.on q,h8.trans (q.mono h8.size)⟩
theorem au3.below {w w':World} {bm pa:Nat} {K:List Nat} {k:Nat} {l:List Nat} {m:Mac} (h:au3 w w' bm pa K k l m):Bl w w':=by
 obtain⟨F,_,_,_,_,_,_,_,h8⟩:=h;exact h8
theorem au3.from {w0 w w':World} {bm pa:Nat} {K:List Nat} {k:Nat} {l:List Nat} {m:Mac} (h:au3 w w' bm pa K k l m) (q:Bl w0 w):au3 w0 w' bm pa K k l m:=by
 obtain⟨F,h1,h2,h3,h4,h5,h6,h7,h8⟩:=h;exact⟨F,h1,h2.mono q.size,h3.mono q.size,h4,h5,zQ q.size h6,h7,q.trans (h8.mono q.size)⟩
structure Made (w w':World) (bx:Nat) (x:Rx):Prop where
 at_:∃ z F r,RawAt w' bx x z none F (comC x) r/\Abv w.heap.size (gX bx z none F)/\Abv w.heap.size z.KK
 bl:Bl w w'
theorem aN0 {w u1 u3:World} {bm pa xc:Nat} {K:List Nat} (hk:l.length=k) (h:au3 w u1 bm pa K k l (newM a c e t cs l)) (hb:Bl u1 u3) (hx:u1.heap.size<=xc) (hc:Md.Cv.CmAt u3 xc ⟨2,3,th,0,0,0⟩) {v:World} (hv:Same (u3.alloc (.cells #[.int .i64 0,.int .i64 1,.int .i64 2,.int .i64 3,.int .i64 (3+b),.int .i64 (3+b+3*a),.pointer (some ⟨bm,0,none⟩),.int .i64 0,.int .i64 t,.slice (some ⟨pa,0,none⟩) k k,.int .i64 th,.int .i64 1,.pointer (some ⟨xc,0,none⟩),.pointer none] 169)) v):Made w v u3.heap.size (newX a b c e t cs l th):=by
 obtain⟨F,h1,h2,h3,h4,h5,h6,h7,h8⟩:=h;have ha:Bl u3 v:=(below_alloc _ _).trans (hv.below _);have hb2:Bl u1 v:=hb.trans (ha.mono hb.size);have l1:∀ i∈F,i<u1.heap.size:=h1.blw
 have l2:∀ i∈K,i<u1.heap.size:=h1.blwK
 have l3:pa<u1.heap.size:=h7.blw pa (by simp[fpR]);have hs:=hb.size;have hs8:=h8.size;refine⟨⟨⟨bm,K,xc,some ⟨pa,0,none⟩,k⟩,F,⟨0,0,0,0,0,0,0,0,false⟩,⟨?_,h1.on hb2,hc.on ha,(fun n hn=>by cases hn),h7.on hb2,?_,?_,?_⟩,?_,?_⟩,h8.trans (hb2.mono hs8)⟩
 ·rw[hv.heap]
  refine(zN _ _).trans ?_;unfold ak6 newX ptrV;dsimp only;rw[List.length_map,hk]
  rfl
 ·intro i hi q
  have:=l1 i q
  simp at hi
  omega
 ·intro i hi q
  have q':i∈K∨i=pa:=by simpa[Rz.KK,fpR]using q
  have:=fun z=>l2 i z
  simp at hi
  rcases q' with q' | q'
  ·have:=l2 i q';omega
  ·omega
 ·intro i hi q
  simp[fpR]at hi
  subst hi;exact h4 q
 ·intro i hi
  simp only[gX,List.mem_cons,Option.toList_none,List.nil_append]at hi
  rcases hi with hi | hi | hi
  ·omega
  ·have hi':i=xc:=hi
   omega
  ·exact h2 i hi
 ·intro i hi
  have q':i∈K∨i=pa:=by simpa[Rz.KK,fpR]using hi
  rcases q' with q' | q'
  ·exact h3 i q'
  ·omega
theorem new_yes (hc:Md.cfgB a b c e=true) (hn:cs.length=n) (hk:l.length=k) (hk8:k<=8) (hT:Shaped5 w) (hC:a39 w ao cs) (hL:FlAt w po l) (hnl:n<=9223372036854775807) (h0:0<=th) (h1:th<b):Calls Tryz.prog 82 #[cfgV a b c e,.int .i64 th,.agg #[.int .i64 t,.slice ao n cap],.slice po k co] w fun r w'=>∃ bx,r=.returned (.pointer (some ⟨bx,0,none⟩))/\Made w w' bx (newX a b c e t cs l th):=by
 have HN:Hid (∀ u,Bl w u->Calls Tryz.prog 92 #[cfgV a b c e,.agg #[.int .i64 t,.slice ao n cap],.slice po k co] u fun r w'=>∃ bm K pa,r=.returned (.tuple #[.agg (trC a b (some ⟨bm,0,none⟩) 0 t (some ⟨pa,0,none⟩) k k),.bool true])/\au3 u w' bm pa K k l (newM a c e t cs l)):=fun u hb=>b04 hc hn hk hk8 (hT.on hb) (hC.on hb) (hL.on hb) hnl
 have HW:Hid (Bl w ((w.alloc (cfgO a b c e)).alloc (prgO t ao n cap))):=(below_alloc w _).trans ((below_alloc _ _).mono (by simp));have HMD:Hid (∀ u1 u3 bm pa xc K v,au3 w u1 bm pa K k l (newM a c e t cs l)->Bl u1 u3->u1.heap.size<=xc->Md.Cv.CmAt u3 xc ⟨2,3,th,0,0,0⟩->Same (u3.alloc (.cells #[.int .i64 0,.int .i64 1,.int .i64 2,.int .i64 3,.int .i64 (3+b),.int .i64 (3+b+3*a),.pointer (some ⟨bm,0,none⟩),.int .i64 0,.int .i64 t,.slice (some ⟨pa,0,none⟩) k k,.int .i64 th,.int .i64 1,.pointer (some ⟨xc,0,none⟩),.pointer none] 169)) v->Made w v u3.heap.size (newX a b c e t cs l th)):=fun u1 u3 bm pa xc K v q1 q2 q3 q4 q5=>aN0 hk q1 q2 q3 q4 q5
 have HCO:Hid (∀ u,Calls Tryz.prog 93 #[.agg #[.int .i64 0,.int .i64 1,.int .i64 2,.int .i64 3,.int .i64 (3+b),.int .i64 (3+b+3*a)],.int .i64 th] u fun e w'=>∃ x,e=.returned (.pointer (some ⟨x,0,none⟩))/\u.heap.size<=x/\Md.Cv.CmAt w' x ⟨2,3,th,0,0,0⟩/\Bl u w'):=fun u=>Md.Cv.come_any 0 1 2 3 (3+b) (3+b+3*a) th u
 clear hc hn hk hk8 hT hC hL hnl
 generalize newX a b c e t cs l th=X at *
 generalize newM a c e t cs l=m0 at *
 have h4:Hid (∃ p4,p4=3+b):=⟨_,rfl⟩;obtain⟨p5,h5⟩:∃ p5,3+b+3*a=p5:=⟨_,rfl⟩
 obtain⟨p4,h4⟩:∃ p4,3+b=p4:=⟨_,rfl⟩
 rw[h5,h4]at HMD HCO;unfold trC at HN;rw[h5,h4]at HN;clear h4 h5;go_enter Tryz.func82,Tryz.ntmps82
 go_wp2_with (go_at_call 92;refine(HN.out _ HW.out).mono ?_;rintro e u1 ⟨bm,K,pa,rfl,q⟩;have H1:=zH (q.from HW.out);have e1:u1.cell? ⟨w.heap.size,1,none⟩=some (.int .i64 b):=(ax1 q.below).2.1;have l1:w.heap.size<u1.heap.size:=(ax1 q.below).2.2.2.2;clear q HN)
 obtain⟨u2,hu2⟩:∃ u2,u2=u1.alloc (.cells #[.int .i64 0,.int .i64 1,.int .i64 2,.int .i64 3,.int .i64 p4,.int .i64 p5,.pointer (some ⟨bm,0,none⟩),.int .i64 0,.int .i64 t,.slice (some ⟨pa,0,none⟩) k k] 162):=⟨_,rfl⟩
 rw[<- hu2];have H2:=zH (H1.out.on (below_alloc u1 (.cells #[.int .i64 0,.int .i64 1,.int .i64 2,.int .i64 3,.int .i64 p4,.int .i64 p5,.pointer (some ⟨bm,0,none⟩),.int .i64 0,.int .i64 t,.slice (some ⟨pa,0,none⟩) k k] 162)));rw[<- hu2]at H2;obtain⟨⟨s0,s1,s2,s3,s4,s5,s6,s7,s8,s9,s10⟩,_⟩:=b08 (show u2.heap[u1.heap.size]?=_ by rw[hu2];exact zN _ _);clear hu2;refine a06 (fun u=>u.cell? ⟨u1.heap.size,0,none⟩=some (.int .i64 0)/\u.cell? ⟨u1.heap.size,1,none⟩=some (.int .i64 1)/\u.cell? ⟨u1.heap.size,2,none⟩=some (.int .i64 2)/\u.cell? ⟨u1.heap.size,3,none⟩=some (.int .i64 3)/\u.cell? ⟨u1.heap.size,4,none⟩=some (.int .i64 p4)/\u.cell? ⟨u1.heap.size,5,none⟩=some (.int .i64 p5)/\u.cell? ⟨u1.heap.size,6,none⟩=some (.pointer (some ⟨bm,0,none⟩))/\u.cell? ⟨u1.heap.size,7,none⟩=some (.int .i64 0)/\u.cell? ⟨u1.heap.size,8,none⟩=some (.int .i64 t)/\u.cell? ⟨u1.heap.size,9,none⟩=some (.slice (some ⟨pa,0,none⟩) k k) )  ((0,true)::(1,true)::(2,true)::(3,true)::(4,true)::(5,false)::(6,true)::(7,false)::(8,true)::[])  Md.Cv.follows13 (by kernel_rfl) (fun _ _ _ _ _ h=>h)  ⟨s0,s1,s2,s3,s4,s5,s6,s7,s8,s9⟩ ?_
 (repeat ((first | (refine a02 (v:=?_) rfl (by rfl) (fun wq hSq=>?_) ?_;rotate_left;(focus ((try dsimp only at hSq);go_simp;try with_reducible rfl))) | refine a03 rfl (by rfl) ?_);simp only[Act.put,zA,zB,zC]))
 (refine a04 rfl (by rfl) (fun KK hK=>?_);go_simp)
 refine(HCO.out _).mono ?_;rintro e u3 ⟨xc,rfl,q1,q2,q3⟩;have H3:Hid (u2.heap.size<=xc/\Md.Cv.CmAt u3 xc ⟨2,3,th,0,0,0⟩/\Bl u2 u3):=⟨q1,q2,((Same.drew u2).below _).trans q3⟩;clear q1 q2 q3;have ck:∀ (j:Nat) (v:Value),u2.cell? ⟨u1.heap.size,j,none⟩=some v->u3.cell? ⟨u1.heap.size,j,none⟩=some v:=fun j v hv=>(H3.out.2.2.cell (p:=⟨u1.heap.size,j,none⟩) s10).trans hv
 refine hK.out _ _ ⟨ck 0 _ s0,ck 1 _ s1,ck 2 _ s2,ck 3 _ s3,ck 4 _ s4,ck 5 _ s5,ck 6 _ s6,ck 7 _ s7,ck 8 _ s8,ck 9 _ s9⟩ ?_
 (clear hK KK;try simp only[Act.put,zA,zB,zC])
 (repeat ((first | (refine a02 (v:=?_) rfl (by rfl) (fun wq hSq=>?_) ?_;rotate_left;(focus ((try dsimp only at hSq);go_simp;try with_reducible rfl))) | refine a03 rfl (by rfl) ?_);simp only[Act.put,zA,zB,zC]))
 (refine a04 rfl (by rfl) (fun KK hK=>?_);go_simp)
 have l3:u1.heap.size<u3.heap.size:=zL s10 H3.out.2.2.size;have ck2:∀ (o:Obj) (j:Nat) (v:Value),u2.cell? ⟨u1.heap.size,j,none⟩=some v->(u3.alloc o).cell? ⟨u1.heap.size,j,none⟩=some v:=fun o j v hv=>(World.cell?_alloc_old _ _ _ (Nat.ne_of_lt l3)).trans (ck j v hv)
 refine hK.out _ _ ⟨ck2 _ 0 _ s0,ck2 _ 1 _ s1,ck2 _ 2 _ s2,ck2 _ 3 _ s3,ck2 _ 4 _ s4,ck2 _ 5 _ s5,ck2 _ 6 _ s6,ck2 _ 7 _ s7,ck2 _ 8 _ s8,ck2 _ 9 _ s9⟩ ?_;clear ck ck2
 (clear hK KK;try simp only[Act.put,zA,zB,zC])
 (repeat ((first | (refine a02 (v:=?_) rfl (by rfl) (fun wq hSq=>?_) ?_;rotate_left;(focus ((try dsimp only at hSq);go_simp;try with_reducible rfl))) | refine a03 rfl (by rfl) ?_);simp only[Act.put,zA,zB,zC]))
 refine a13 ?_;go_wp2_with fail;go_ret;exact⟨_,rfl,HMD.out _ _ _ _ _ _ _ H2.out H3.out.2.2 H3.out.1 H3.out.2.1 (Same.refl _)⟩
end
end Go.Proofs.YtipakfjpfjehmaaGreatDoor.Rr
namespace Go.Proofs.YtipakfjpfjehmaaGreatDoor.Ww
open Go.ChangeShapes Go.WideShapes Go.ChangeAt Go.RowKit Num Rr
structure Wz where
 bm:Nat
 K:List Nat
 pa:Option Addr
 ca:Nat
def Wz.KK (z:Wz):List Nat:=z.K ++ fpR z.pa
def ptrV (q:Option Nat):Value:=.pointer (q.map fun n=>⟨n,0,none⟩)
structure Wv where
 ph:Option Addr
 ch:Nat
 qs:Option Nat
 s:Md.Cv.Ss
 qw:Option Nat
 t:Md.Ce.Wt
 bg:Int
 nb:Int
 nx:Value
 F:List Nat
def partF (p:Nat):FuncId:=if p=1 then 91 else if p=2 then 107 else if p=3 then 115 else if p=4 then 126 else if p=5 then 141 else if p=6 then 178 else if p=7 then 175 else 139
def fnV (f:FuncId):Value:=.func (.func f) #[] #[]
def al3 (p:Nat):Value:=if p=9 then .nilFunc else fnV (partF p)
def boxY (x:Wx) (z:Wz) (v:Wv):Array Value:=#[.int .i64 0,.int .i64 1,.int .i64 2,.int .i64 3,.int .i64 (3+x.b),.int .i64 (3+x.b+3*x.a),.int .i64 x.b,.int .i64 x.tag,.slice z.pa x.args.length z.ca,.pointer (some ⟨z.bm,0,none⟩),.int .i64 x.steps,.int .i64 (x.part:Int),v.nx,.int .u64 x.tick,.int .u64 x.stamp,.slice v.ph x.was.length v.ch,ptrV v.qs,.int .i64 v.bg,ptrV v.qw,.int .u64 v.nb]
def ownY (b:Nat) (v:Wv):List (List Nat):=[[b],fpR v.ph,v.qs.toList,v.qw.toList,v.F]
def LY (b:Nat) (z:Wz) (v:Wv):List (List Nat):=[[b],fpR v.ph,v.qs.toList,v.qw.toList,v.F,z.KK]
def gY (b:Nat) (v:Wv):List Nat:=(ownY b v).flatten
structure RawAt (w:World) (b:Nat) (x:Wx) (z:Wz) (v:Wv):Prop where
 box:w.heap[b]?=some (.cells (boxY x z v) 159 (0,0))
 mac:Mc w z.bm v.F z.K x.m
 had:RowAt 49 w v.ph v.ch (fls x.was)
 sc:∀ n,v.qs=some n->Md.Cv.ScAt w n v.s
 wr:∀ n,v.qw=some n->Md.Ce.WtAt w n v.t
 arg:RowAt 49 w z.pa z.ca (fls x.args)
 apart:aF7 (LY b z v)
theorem ah2 {L F:List Nat} {w w':World} (o1:w'.os=w.os) (o2:w'.tape=w.tape) (o3:w'.output=w.output) (hs:w.heap.size<=w'.heap.size) (hL:∀ k,k∈L->k∈F) (hb:∀ k,k<w.heap.size->k∉L->w'.heap[k]?=w.heap[k]?):Turn F F w w' :=
 ⟨o1,o2,o3,hs,fun k hk hn=>hb k hk (fun q=>hn (hL k q)),fun _ h=>.inl h⟩
theorem ae8 {F:List Nat} {w:World} {b j:Nat} {v:Value} (h:b∉F):Kept F w (w.setCell ⟨b,j,none⟩ v):=⟨by simp,fun i hi=>zO _ _ _ _ (fun (e:i=b)=>h (e ▸ hi))⟩
section
variable {w w':World} {b:Nat} {x:Wx} {z:Wz} {v:Wv}
theorem mem_gY {k:Nat}:k∈gY b v ↔ k=b∨k∈fpR v.ph∨v.qs=some k∨v.qw=some k∨k∈v.F:=by
 simp only[gY,ownY,List.flatten_cons,List.flatten_nil,List.append_nil,List.mem_append,List.mem_cons,List.not_mem_nil,or_false,Option.mem_toList]
theorem in_b:b∈gY b v:=mem_gY.2 (.inl rfl)
theorem in_h {k:Nat} (h:k∈fpR v.ph):k∈gY b v:=mem_gY.2 (.inr (.inl h))
theorem in_s {k:Nat} (h:v.qs=some k):k∈gY b v:=mem_gY.2 (.inr (.inr (.inl h)))
theorem in_w {k:Nat} (h:v.qw=some k):k∈gY b v:=mem_gY.2 (.inr (.inr (.inr (.inl h))))
theorem in_F {k:Nat} (h:k∈v.F):k∈gY b v:=mem_gY.2 (.inr (.inr (.inr (.inr h))))
theorem aE5 {j k:Nat} (hj:j<5) (h:k∈(LY b z v).getD j []):k∈gY b v:=by
 match j,hj with
 | 0,_=>exact mem_gY.2 (.inl (by simpa[LY]using h))
 | 1,_=>exact in_h h
 | 2,_=>exact in_s (by simpa[LY]using h)
 | 3,_=>exact in_w (by simpa[LY]using h)
 | 4,_=>exact in_F h
theorem b50 {k:Nat} (h:k∈gY b v):∃ j,j<5/\k∈(LY b z v).getD j []:=by
 rcases mem_gY.1 h with h | h | h | h | h
 ·exact⟨0,by omega,by simp[LY,h]⟩
 ·exact⟨1,by omega,h⟩
 ·exact⟨2,by omega,by simp[LY,h]⟩
 ·exact⟨3,by omega,by simp[LY,h]⟩
 ·exact⟨4,by omega,h⟩
theorem RawAt.ltB (h:RawAt w b x z v):b<w.heap.size:=lt_of_block h.box
theorem RawAt.blwK (h:RawAt w b x z v):Blw w z.KK:=fun k hk=>by
 rcases List.mem_append.1 hk with hk | hk
 ·exact h.mac.blwK k hk
 ·exact h.arg.blw k hk
theorem RawAt.blws (h:RawAt w b x z v):∀ j,Blw w ((LY b z v).getD j []):=fun j=>by
 match j with
 | 0=>exact fun k hk=>by rw[show k=b by simpa[LY]using hk];exact h.ltB
 | 1=>exact h.had.blw
 | 2=>intro k hk;exact(h.sc k (by simpa[LY]using hk)).lt
 | 3=>intro k hk;exact(h.wr k (by simpa[LY]using hk)).lt
 | 4=>exact h.mac.blw
 | 5=>exact h.blwK
 | n+6=>intro k hk;simp[LY]at hk
theorem RawAt.blw (h:RawAt w b x z v):Blw w (gY b v):=fun k hk=>by
 obtain⟨j,_,hj⟩:=b50 (z:=z) hk;exact h.blws j k hj
theorem RawAt.sep (h:RawAt w b x z v):Sep z.KK (gY b v):=fun k hk q=>by
 obtain⟨j,hj,hq⟩:=b50 (z:=z) q;exact h.apart 5 j (by omega) k hk hq
theorem RawAt.all (h:RawAt w b x z v) (hs:w.heap.size<=w'.heap.size) (k:∀ j,Kept ((LY b z v).getD j []) w w'):RawAt w' b x z v :=
 ⟨((k 0).2 b (by simp[LY])).trans h.box,h.mac.keep (k 4) ⟨hs,fun i hi=>(k 5).2 i (List.mem_append.2 (.inl hi))⟩,h.had.keep (k 1),fun n hn=>(h.sc n hn).keep ((k 2).2 n (by simp[LY,hn])),fun n hn=>(h.wr n hn).keep ((k 3).2 n (by simp[LY,hn])),h.arg.keep ⟨hs,fun i hi=>(k 5).2 i (List.mem_append.2 (.inr hi))⟩,h.apart⟩
theorem RawAt.keep (h:RawAt w b x z v) (k:Kept (gY b v) w w') (k2:Kept z.KK w w'):RawAt w' b x z v :=
 h.all k.1 fun j=>by
  by_cases hj:j<5
  ·exact⟨k.1,fun i hi=>k.2 i (aE5 hj hi)⟩
  ·by_cases h5:j=5
   ·subst h5;exact k2
   ·exact⟨k.1,fun i hi=>by
     match j,hj,h5,hi with
     | n+6,_,_,hi=>simp[LY]at hi⟩
theorem RawAt.on (h:RawAt w b x z v) (k:Bl w w'):RawAt w' b x z v:=h.keep (a27 k h.blw) (a27 k h.blwK)
theorem RawAt.cell (h:RawAt w b x z v) (j:Nat):w.cell? ⟨b,j,none⟩=(boxY x z v)[j]?:=zR w b j _ _ _ h.box
theorem RawAt.free (h:RawAt w b x z v) (j:Nat):w.frozen? ⟨b,j,none⟩=false:=zZ w b j _ _ h.box
theorem RawAt.others (h:RawAt w b x z v) {i:Nat} {F':List Nat} (t:Turn ((LY b z v).getD i []) F' w w'):∀ j,j≠i->Kept ((LY b z v).getD j []) w w':=fun j hj=>t.kept (h.apart j i hj) (h.blws j)
theorem RawAt.put (h:RawAt w b x z v) (j:Nat) (u:Value) (x':Wx) (v':Wv) (e:(boxY x z v).setIfInBounds j u=boxY x' z v') (hm:x'.m=x.m/\x'.args=x.args/\x'.was=x.was) (hv:v'.ph=v.ph/\v'.ch=v.ch/\v'.qs=v.qs/\v'.s=v.s/\v'.qw=v.qw/\v'.t=v.t/\v'.F=v.F):RawAt (w.setCell ⟨b,j,none⟩ u) b x' z v':=by
 obtain⟨m1,m2,m3⟩:=hm;obtain⟨v1,v2,v3,v4,v5,v6,v7⟩:=hv;have kk:=h.others (i:=0) (a26 w b j u);have eL:LY b z v'=LY b z v:=by unfold LY;rw[v1,v3,v5,v7]
 refine⟨?_,by rw[m1,v7];exact h.mac.keep (kk 4 (by omega)) ⟨by simp,fun i hi=>(kk 5 (by omega)).2 i (List.mem_append.2 (.inl hi))⟩,by rw[m3,v1,v2];exact h.had.keep (kk 1 (by omega)),fun n hn=>by rw[v3]at hn;rw[v4];exact(h.sc n hn).keep ((kk 2 (by omega)).2 n (by simp[LY,hn])),fun n hn=>by rw[v5]at hn;rw[v6];exact(h.wr n hn).keep ((kk 3 (by omega)).2 n (by simp[LY,hn])),by rw[m2];exact h.arg.keep ⟨by simp,fun i hi=>(kk 5 (by omega)).2 i (List.mem_append.2 (.inr hi))⟩,by rw[eL];exact h.apart⟩;rw[<- e];exact zS w b j _ _ u h.box
theorem RawAt.putS (h:RawAt w b x z v) {n:Nat} {s:Md.Cv.Ss} (hs:Md.Cv.ScAt w n s) (hg:n∉gY b v) (hK:n∉z.KK):RawAt (w.setCell ⟨b,16,none⟩ (.pointer (some ⟨n,0,none⟩))) b x z { v with qs:=some n,s:=s }:=by
 have kk:=h.others (i:=0) (a26 w b 16 (.pointer (some ⟨n,0,none⟩)));have nb:n≠b:=fun e=>hg (e ▸ in_b)
 refine⟨zS w b 16 _ _ _ h.box,h.mac.keep (kk 4 (by omega)) ⟨by simp,fun i hi=>(kk 5 (by omega)).2 i (List.mem_append.2 (.inl hi))⟩,h.had.keep (kk 1 (by omega)),fun m hm=>?_,fun m hm=>(h.wr m hm).keep ((kk 3 (by omega)).2 m (by simp only[LY];simpa using hm)),h.arg.keep ⟨by simp,fun i hi=>(kk 5 (by omega)).2 i (List.mem_append.2 (.inr hi))⟩,fun i j hij=>?_⟩
 ·obtain rfl:n=m:=Option.some.inj hm
  exact hs.keep (zO _ _ _ _ nb)
 ·have P:∀ j,j≠2->(LY b z { v with qs:=some n,s:=s }).getD j []=(LY b z v).getD j []:=fun j hj=>by
   match j,hj with
   | 0,_=>rfl
   | 1,_=>rfl
   | 3,_=>rfl
   | 4,_=>rfl
   | 5,_=>rfl
   | j+6,_=>rfl
  have N:∀ j,j≠2->n∉(LY b z v).getD j []:=fun j hj y=>by
   by_cases h5:j<5
   ·exact hg (aE5 h5 y)
   ·match j,h5,y with
    | 5,_,y=>exact hK y
    | j+6,_,y=>simp[LY]at y
  by_cases i2:i=2
  ·subst i2
   rw[P j (by omega)];intro k hk y;have:k=n:=by simpa[LY,eq_comm]using hk
   exact N j (by omega) (this ▸ y)
  ·rw[P i i2]
   by_cases j2:j=2
   ·subst j2
    intro k hk y;have:k=n:=by simpa[LY,eq_comm]using y
    exact N i i2 (this ▸ hk)
   ·rw[P j j2]
    exact h.apart i j hij
theorem RawAt.putW (h:RawAt w b x z v) {n:Nat} {t:Md.Ce.Wt} (hs:Md.Ce.WtAt w n t) (hg:n∉gY b v) (hK:n∉z.KK):RawAt (w.setCell ⟨b,18,none⟩ (.pointer (some ⟨n,0,none⟩))) b x z { v with qw:=some n,t:=t }:=by
 have kk:=h.others (i:=0) (a26 w b 18 (.pointer (some ⟨n,0,none⟩)));have nb:n≠b:=fun e=>hg (e ▸ in_b)
 refine⟨zS w b 18 _ _ _ h.box,h.mac.keep (kk 4 (by omega)) ⟨by simp,fun i hi=>(kk 5 (by omega)).2 i (List.mem_append.2 (.inl hi))⟩,h.had.keep (kk 1 (by omega)),fun m hm=>(h.sc m hm).keep ((kk 2 (by omega)).2 m (by simp only[LY];simpa using hm)),fun m hm=>?_,h.arg.keep ⟨by simp,fun i hi=>(kk 5 (by omega)).2 i (List.mem_append.2 (.inr hi))⟩,fun i j hij=>?_⟩
 ·obtain rfl:n=m:=Option.some.inj hm
  exact hs.keep (zO _ _ _ _ nb)
 ·have P:∀ j,j≠3->(LY b z { v with qw:=some n,t:=t }).getD j []=(LY b z v).getD j []:=fun j hj=>by
   match j,hj with
   | 0,_=>rfl
   | 1,_=>rfl
   | 2,_=>rfl
   | 4,_=>rfl
   | 5,_=>rfl
   | j+6,_=>rfl
  have N:∀ j,j≠3->n∉(LY b z v).getD j []:=fun j hj y=>by
   by_cases h5:j<5
   ·exact hg (aE5 h5 y)
   ·match j,h5,y with
    | 5,_,y=>exact hK y
    | j+6,_,y=>simp[LY]at y
  by_cases i2:i=3
  ·subst i2
   rw[P j (by omega)];intro k hk y;have:k=n:=by simpa[LY,eq_comm]using hk
   exact N j (by omega) (this ▸ y)
  ·rw[P i i2]
   by_cases j2:j=3
   ·subst j2
    intro k hk y;have:k=n:=by simpa[LY,eq_comm]using y
    exact N i i2 (this ▸ hk)
   ·rw[P j j2]
    exact h.apart i j hij
theorem RawAt.scans (h:RawAt w b x z v) {n:Nat} {s:Md.Cv.Ss} (hn:v.qs=some n) (hs:w.heap.size<=w'.heap.size) (k:∀ j,j≠2->Kept ((LY b z v).getD j []) w w') (h2:Md.Cv.ScAt w' n s):RawAt w' b x z { v with s:=s } :=
 ⟨((k 0 (by omega)).2 b (by simp[LY])).trans h.box,h.mac.keep (k 4 (by omega)) ⟨hs,fun i hi=>(k 5 (by omega)).2 i (List.mem_append.2 (.inl hi))⟩,h.had.keep (k 1 (by omega)),fun m hm=>by have e:=hn.symm.trans hm;cases e;exact h2,fun m hm=>(h.wr m hm).keep ((k 3 (by omega)).2 m (by simp only[LY];simpa using hm)),h.arg.keep ⟨hs,fun i hi=>(k 5 (by omega)).2 i (List.mem_append.2 (.inr hi))⟩,h.apart⟩
theorem RawAt.writes (h:RawAt w b x z v) {n:Nat} {t:Md.Ce.Wt} (hn:v.qw=some n) (hs:w.heap.size<=w'.heap.size) (k:∀ j,j≠3->Kept ((LY b z v).getD j []) w w') (h2:Md.Ce.WtAt w' n t):RawAt w' b x z { v with t:=t } :=
 ⟨((k 0 (by omega)).2 b (by simp[LY])).trans h.box,h.mac.keep (k 4 (by omega)) ⟨hs,fun i hi=>(k 5 (by omega)).2 i (List.mem_append.2 (.inl hi))⟩,h.had.keep (k 1 (by omega)),fun m hm=>(h.sc m hm).keep ((k 2 (by omega)).2 m (by simp only[LY];simpa using hm)),fun m hm=>by have e:=hn.symm.trans hm;cases e;exact h2,h.arg.keep ⟨hs,fun i hi=>(k 5 (by omega)).2 i (List.mem_append.2 (.inr hi))⟩,h.apart⟩
theorem RawAt.mach (h:RawAt w b x z v) {m':Mac} (g:Gm w v.F z.bm z.K w' m'):∃ F',RawAt w' b { x with m:=m' } z { v with F:=F' }/\Turn v.F F' w w':=by
 obtain⟨F',hM,t⟩:=g.mc;have kk:=h.others (i:=4) t;exact⟨F',⟨((kk 0 (by omega)).2 b (by simp[LY])).trans h.box,hM,h.had.keep (kk 1 (by omega)),fun n hn=>(h.sc n hn).keep ((kk 2 (by omega)).2 n (by simp only[LY];simpa using hn)),fun n hn=>(h.wr n hn).keep ((kk 3 (by omega)).2 n (by simp only[LY];simpa using hn)),h.arg.keep ⟨t.size,fun i hi=>(kk 5 (by omega)).2 i (List.mem_append.2 (.inr hi))⟩,h.apart.turn (i:=4) h.blws (by simp[LY]) t⟩,t⟩
theorem RawAt.hads (h:RawAt w b x z v) {w3:World} {u:Value} {y:Nat} (hown:w3.ownsRow 0 49 1 u (x.was.length+1) (fls x.was ++ [.float .f64 y])) (hg:w.grownBy w3 (Value.slice v.ph x.was.length v.ch).ownBlock) (hat:u.ownBlock=(Value.slice v.ph x.was.length v.ch).ownBlock∨∃ s,u.ownBlock=some s/\w.heap.size<=s) :
  ∃ p' c',u=.slice p' (x.was.length+1) c'/\Turn (fpR v.ph) (fpR p') w w3/\RawAt (w3.setCell ⟨b,15,none⟩ u) b { x with was:=x.was ++ [y] } z { v with ph:=p',ch:=c' }:=by
 obtain⟨p',c',rfl,hr⟩:=a93 hown;have hl:(fls x.was ++ [Value.float .f64 y]).length=x.was.length+1:=by simp[a32]
 rw[hl]at hat ⊢;have ho:∀ k,k∈fpR p'->k∈fpR v.ph∨w.heap.size<=k:=by
  rcases hat with q | ⟨s,q,hs⟩
  ·exact ak7 (s:=w.heap.size) (.inl q) (zE _)
  ·exact ak7 (n:=x.was.length) (c:=v.ch) (.inr q) hs
 have t:Turn (fpR v.ph) (fpR p') w w3:=⟨hg.os,hg.tape,hg.output,hg.size,fun k hk hn=>hg.block k hk (fun q=>hn (a42.2 q.symm)),ho⟩;have kk:=h.others (i:=1) t;have hbox:w3.heap[b]?=_:=((kk 0 (by omega)).2 b (by simp[LY])).trans h.box;have ap:aF7 (LY b z { v with ph:=p',ch:=c' }):=h.apart.turn (i:=1) h.blws (by simp[LY]) t;have k2:∀ j,j≠0->∀ F,F=(LY b z { v with ph:=p',ch:=c' }).getD j []->Kept F w3 (w3.setCell ⟨b,15,none⟩ (.slice p' (x.was.length+1) c')):=fun j hj F hF=>ae8 (fun y=>ap j 0 hj b (hF ▸ y) (by simp[LY]))
 have tr:∀ {F},Kept F w w3->Kept F w3 (w3.setCell ⟨b,15,none⟩ (.slice p' (x.was.length+1) c'))->Kept F w (w3.setCell ⟨b,15,none⟩ (.slice p' (x.was.length+1) c')):=fun a c=>⟨zQ a.1 c.1,fun i hi=>(c.2 i hi).trans (a.2 i hi)⟩
 have k4:=tr (kk 4 (by omega)) (k2 4 (by omega) _ rfl);have k5:=tr (kk 5 (by omega)) (k2 5 (by omega) _ rfl);refine⟨p',c',rfl,t,⟨?_,h.mac.keep k4 ⟨k5.1,fun i hi=>k5.2 i (List.mem_append.2 (.inl hi))⟩,?_,fun n hn=>(h.sc n hn).keep ((tr (kk 2 (by omega)) (k2 2 (by omega) _ rfl)).2 n (by simp only[LY];simpa using hn)),fun n hn=>(h.wr n hn).keep ((tr (kk 3 (by omega)) (k2 3 (by omega) _ rfl)).2 n (by simp only[LY];simpa using hn)),h.arg.keep ⟨k5.1,fun i hi=>k5.2 i (List.mem_append.2 (.inr hi))⟩,ap⟩⟩
 ·refine(zS w3 b 15 _ _ _ hbox).trans ?_
  have:(x.was ++ [y]).length=x.was.length+1:=by simp
  unfold boxY;rw[this]
  rfl
 ·rw[at2]
  exact hr.keep (k2 1 (by omega) _ rfl)
end
def Mid (W:World) (G0:List Nat) (b:Nat) (z:Wz) (mb mg:Nat) (w:World) (x:Wx) (v:Wv) (ws:List Int) (o:Bool) (n:Int):Prop :=
 RawAt w b x z v/\MemAt 106 w mb mg ws o n/\Sep [mb,mg] (gY b v)/\Sep [mb,mg] z.KK/\Turn G0 (mb::mg::gY b v) W w
section
variable {W w w':World} {G0:List Nat} {b mb mg:Nat} {x:Wx} {z:Wz} {v:Wv} {ws:List Int} {o:Bool} {n:Int}
theorem Mid.raw (h:Mid W G0 b z mb mg w x v ws o n):RawAt w b x z v:=h.1
theorem Mid.mem (h:Mid W G0 b z mb mg w x v ws o n):MemAt 106 w mb mg ws o n:=h.2.1
theorem Mid.cell (h:Mid W G0 b z mb mg w x v ws o n) (j:Nat):w.cell? ⟨b,j,none⟩=(boxY x z v)[j]?:=h.1.cell j
theorem Mid.free (h:Mid W G0 b z mb mg w x v ws o n) (j:Nat):w.frozen? ⟨b,j,none⟩=false:=h.1.free j
theorem Mid.ltB (h:Mid W G0 b z mb mg w x v ws o n):b<w.heap.size:=h.1.ltB
theorem Mid.size (h:Mid W G0 b z mb mg w x v ws o n):W.heap.size<=w.heap.size:=h.2.2.2.2.size
theorem Mid.on (h:Mid W G0 b z mb mg w x v ws o n) (k:Bl w w'):Mid W G0 b z mb mg w' x v ws o n:=by
 obtain⟨h1,h2,h3,h4,t⟩:=h;exact⟨h1.on k,h2.on k,h3,h4,t.trans (Below.turn k _)⟩
theorem Mid.alloc (h:Mid W G0 b z mb mg w x v ws o n) (y:Obj):Mid W G0 b z mb mg (w.alloc y) x v ws o n:=h.on (below_alloc _ y)
theorem Mid.same (h:Mid W G0 b z mb mg w x v ws o n) (k:Same w w'):Mid W G0 b z mb mg w' x v ws o n:=h.on (k.below _)
theorem Mid.drew (h:Mid W G0 b z mb mg w x v ws o n):Mid W G0 b z mb mg w.drew x v ws o n:=h.same (Same.drew w)
theorem Mid.put (h:Mid W G0 b z mb mg w x v ws o n) (j:Nat) (u:Value) (x':Wx) (v':Wv) (e:(boxY x z v).setIfInBounds j u=boxY x' z v') (hm:x'.m=x.m/\x'.args=x.args/\x'.was=x.was) (hv:v'.ph=v.ph/\v'.ch=v.ch/\v'.qs=v.qs/\v'.s=v.s/\v'.qw=v.qw/\v'.t=v.t/\v'.F=v.F):Mid W G0 b z mb mg (w.setCell ⟨b,j,none⟩ u) x' v' ws o n:=by
 obtain⟨h1,h2,h3,h4,t⟩:=h;have eg:gY b v'=gY b v:=by obtain⟨v1,_,v3,_,v5,_,v7⟩:=hv;unfold gY ownY;rw[v1,v3,v5,v7]
 have tb:Turn (mb::mg::gY b v) (mb::mg::gY b v) w (w.setCell ⟨b,j,none⟩ u):=ah2 (L:=[b]) rfl rfl rfl (by simp) (fun k hk=>by
  simp only[List.mem_cons,List.not_mem_nil,or_false]at hk;subst hk;exact List.mem_cons_of_mem _ (List.mem_cons_of_mem _ in_b)) fun k _ hn=>zO _ _ _ _ (by simpa using hn)
 refine⟨h1.put j u x' v' e hm hv,h2.other (fun e=>h3 mb (by simp) (e ▸ in_b)) (fun e=>h3 mg (by simp) (e ▸ in_b)) j u,by rw[eg];exact h3,h4,?_⟩;rw[eg];exact t.trans tb
theorem Mid.memb {ws':List Int} {o':Bool} {n':Int} (h:Mid W G0 b z mb mg w x v ws o n) (k:Chg mb mg w w') (hm:MemAt 106 w' mb mg ws' o' n'):Mid W G0 b z mb mg w' x v ws' o' n':=by
 obtain⟨h1,h2,h3,h4,t⟩:=h;refine⟨h1.keep ⟨k.size,fun i hi=>k.block i (h1.blw i hi) (fun e=>h3 mb (by simp) (e ▸ hi)) (fun e=>h3 mg (by simp) (e ▸ hi))⟩ ⟨k.size,fun i hi=>k.block i (h1.blwK i hi) (fun e=>h4 mb (by simp) (e ▸ hi)) (fun e=>h4 mg (by simp) (e ▸ hi))⟩,hm,h3,h4,t.trans (ah2 (L:=[mb,mg]) k.os k.tape k.output k.size (fun i hi=>?_) fun i hi hn=>k.block i hi (fun e=>hn (by simp[e])) (fun e=>hn (by simp[e])))⟩;simp only[List.mem_cons,List.not_mem_nil,or_false]at hi
 rcases hi with rfl | rfl <;> simp
theorem Mid.rest (h:Mid W G0 b z mb mg w x v ws o n) {i0 i:Nat} (hs:w.heap.size<=w'.heap.size) (k:∀ i,i<w.heap.size->i∉[mb,mg,i0]->w'.heap[i]?=w.heap[i]?) (hi:i0∈(LY b z v).getD i []):∀ j,j≠i->Kept ((LY b z v).getD j []) w w':=fun j hj=>by
 obtain⟨h1,h2,h3,h4,t⟩:=h;refine⟨hs,fun q hq=>k q (h1.blws j q hq) (fun e=>?_)⟩;have M:∀ m,m∈[mb,mg]->m≠q:=fun m hm e=>by
  by_cases h5:j<5
  ·exact h3 m hm (e ▸ aE5 h5 hq)
  ·match j,h5,hq with
   | 5,_,hq=>exact h4 m hm (e ▸ hq)
   | j+6,_,hq=>simp[LY]at hq
 simp only[List.mem_cons,List.not_mem_nil,or_false]at e
 rcases e with e | e | e
 ·exact M mb (by simp) e.symm
 ·exact M mg (by simp) e.symm
 ·exact h1.apart j i hj q hq (e ▸ hi)
theorem Mid.scans {ws':List Int} {o':Bool} {n':Int} {i0:Nat} {s:Md.Cv.Ss} (h:Mid W G0 b z mb mg w x v ws o n) (hq:v.qs=some i0) (k:Md.Cv.Ch3 mb mg i0 w w') (hm:MemAt 106 w' mb mg ws' o' n') (hr:Md.Cv.ScAt w' i0 s):Mid W G0 b z mb mg w' x { v with s:=s } ws' o' n':=by
 have K:∀ i,i<w.heap.size->i∉[mb,mg,i0]->w'.heap[i]?=w.heap[i]?:=fun i hi hn=>k.block i hi (fun e=>hn (by simp[e])) (fun e=>hn (by simp[e])) (fun e=>hn (by simp[e]))
 have R:=h.rest (i0:=i0) (i:=2) k.size K (by simp[LY,hq]);obtain⟨h1,h2,h3,h4,t⟩:=h;refine⟨h1.scans hq k.size R hr,hm,h3,h4,t.trans (ah2 (L:=[mb,mg,i0]) k.os k.tape k.output k.size (fun i hi=>?_) K)⟩;simp only[List.mem_cons,List.not_mem_nil,or_false]at hi
 rcases hi with rfl | rfl | rfl
 ·simp
 ·simp
 ·exact List.mem_cons_of_mem _ (List.mem_cons_of_mem _ (in_s hq))
theorem Mid.writes {ws':List Int} {o':Bool} {n':Int} {i0:Nat} {s:Md.Ce.Wt} (h:Mid W G0 b z mb mg w x v ws o n) (hq:v.qw=some i0) (k:Md.Ce.Ch [mb,mg,i0] w w') (hm:MemAt 106 w' mb mg ws' o' n') (hr:Md.Ce.WtAt w' i0 s):Mid W G0 b z mb mg w' x { v with t:=s } ws' o' n':=by
 have R:=h.rest (i0:=i0) (i:=3) k.size k.block (by simp[LY,hq]);obtain⟨h1,h2,h3,h4,t⟩:=h;refine⟨h1.writes hq k.size R hr,hm,h3,h4,t.trans (ah2 (L:=[mb,mg,i0]) k.os k.tape k.output k.size (fun i hi=>?_) k.block)⟩;simp only[List.mem_cons,List.not_mem_nil,or_false]at hi
 rcases hi with rfl | rfl | rfl
 ·simp
 ·simp
 ·exact List.mem_cons_of_mem _ (List.mem_cons_of_mem _ (in_w hq))
theorem Mid.new (h:Mid W G0 b z mb mg w x v ws o n) {i0:Nat} (hi:w.heap.size<=i0):i0∉gY b v/\i0∉z.KK/\i0≠mb/\i0≠mg:=by
 obtain⟨h1,h2,h3,h4,t⟩:=h;exact⟨fun y=>absurd (h1.blw i0 y) (Nat.not_lt.2 hi),fun y=>absurd (h1.blwK i0 y) (Nat.not_lt.2 hi),fun e=>by have:=h2.ltB;omega,fun e=>by have:=h2.ltG;omega⟩
theorem Mid.scanNew {w1:World} {s:Md.Cv.Ss} {i0:Nat} (h:Mid W G0 b z mb mg w x v ws o n) (k:Bl w w1) (hi:w.heap.size<=i0) (hr:Md.Cv.ScAt w1 i0 s):Mid W G0 b z mb mg (w1.setCell ⟨b,16,none⟩ (.pointer (some ⟨i0,0,none⟩))) x { v with qs:=some i0,s:=s } ws o n:=by
 obtain⟨n1,n2,n3,n4⟩:=h.new hi;have hs:=h.size;obtain⟨h1,h2,h3,h4,t⟩:=h;have tt:Turn (mb::mg::gY b v) (mb::mg::gY b v) w1 (w1.setCell ⟨b,16,none⟩ (.pointer (some ⟨i0,0,none⟩))):=⟨rfl,rfl,rfl,by simp,fun i _ hn=>zO _ _ _ _ (fun (e:i=b)=>hn (e ▸ List.mem_cons_of_mem _ (List.mem_cons_of_mem _ in_b))),fun i hy=>.inl hy⟩;have G:∀ i,i∈gY b { v with qs:=some i0,s:=s }->i=i0∨i∈gY b v:=fun i hy=>by
  rcases mem_gY.1 hy with y | y | y | y | y
  ·exact .inr (mem_gY.2 (.inl y))
  ·exact .inr (in_h y)
  ·exact .inl (Option.some.inj y).symm
  ·exact .inr (in_w y)
  ·exact .inr (in_F y)
 refine⟨(h1.on k).putS hr n1 n2,(h2.on k).other (fun e=>h3 mb (by simp) (e ▸ in_b)) (fun e=>h3 mg (by simp) (e ▸ in_b)) 16 _,fun i hi2 hy=>?_,h4,((t.trans (Below.turn k _)).trans tt).mono fun i hy=>?_⟩
 ·rcases G i hy with e | y
  ·subst e
   simp only[List.mem_cons,List.not_mem_nil,or_false]at hi2;omega
  ·exact h3 i hi2 y
 ·simp only[List.mem_cons]at hy
  rcases hy with y | y | y
  ·exact t.own i (by simp[y])
  ·exact t.own i (by simp[y])
  ·rcases G i y with e | y
   ·exact .inr (by omega)
   ·exact t.own i (by simp[y])
theorem Mid.writeNew {w1:World} {s:Md.Ce.Wt} {i0:Nat} (h:Mid W G0 b z mb mg w x v ws o n) (k:Bl w w1) (hi:w.heap.size<=i0) (hr:Md.Ce.WtAt w1 i0 s):Mid W G0 b z mb mg (w1.setCell ⟨b,18,none⟩ (.pointer (some ⟨i0,0,none⟩))) x { v with qw:=some i0,t:=s } ws o n:=by
 obtain⟨n1,n2,n3,n4⟩:=h.new hi;have hs:=h.size;obtain⟨h1,h2,h3,h4,t⟩:=h;have tt:Turn (mb::mg::gY b v) (mb::mg::gY b v) w1 (w1.setCell ⟨b,18,none⟩ (.pointer (some ⟨i0,0,none⟩))):=⟨rfl,rfl,rfl,by simp,fun i _ hn=>zO _ _ _ _ (fun (e:i=b)=>hn (e ▸ List.mem_cons_of_mem _ (List.mem_cons_of_mem _ in_b))),fun i hy=>.inl hy⟩;have G:∀ i,i∈gY b { v with qw:=some i0,t:=s }->i=i0∨i∈gY b v:=fun i hy=>by
  rcases mem_gY.1 hy with y | y | y | y | y
  ·exact .inr (mem_gY.2 (.inl y))
  ·exact .inr (in_h y)
  ·exact .inr (in_s y)
  ·exact .inl (Option.some.inj y).symm
  ·exact .inr (in_F y)
 refine⟨(h1.on k).putW hr n1 n2,(h2.on k).other (fun e=>h3 mb (by simp) (e ▸ in_b)) (fun e=>h3 mg (by simp) (e ▸ in_b)) 18 _,fun i hi2 hy=>?_,h4,((t.trans (Below.turn k _)).trans tt).mono fun i hy=>?_⟩
 ·rcases G i hy with e | y
  ·subst e
   simp only[List.mem_cons,List.not_mem_nil,or_false]at hi2;omega
  ·exact h3 i hi2 y
 ·simp only[List.mem_cons]at hy
  rcases hy with y | y | y
  ·exact t.own i (by simp[y])
  ·exact t.own i (by simp[y])
  ·rcases G i y with e | y
   ·exact .inr (by omega)
   ·exact t.own i (by simp[y])
theorem Mid.mach (h:Mid W G0 b z mb mg w x v ws o n):Gm w v.F z.bm z.K w x.m/\(a87 W G0->a87 w v.F)/\∀ w' m',Gm w v.F z.bm z.K w' m'->∃ F',Mid W G0 b z mb mg w' { x with m:=m' } { v with F:=F' } ws o n:=by
 obtain⟨h1,h2,h3,h4,t⟩:=h;refine⟨h1.mac.gm,fun hT=>?_,fun w' m' g=>?_⟩
 ·have:=hT.turn t
  exact⟨this.1,fun y=>this.2 (List.mem_cons_of_mem _ (List.mem_cons_of_mem _ (in_F y)))⟩
 ·obtain⟨F',g1,tF⟩:=h1.mach g
  have nm:∀ i,i∈[mb,mg]->i∉v.F:=fun i hi y=>h3 i hi (in_F y)
  have lM:Blw w [mb,mg]:=fun k hk=>by
   simp only[List.mem_cons,List.not_mem_nil,or_false]at hk
   rcases hk with rfl | rfl
   ·exact h2.ltB
   ·exact h2.ltG
  have sp:Sep [mb,mg] F':=Sep.turn (fun i hi y=>nm i hi y) lM tF;have G:∀ i,i∈gY b { v with F:=F' }->i∈F'∨i∈gY b v:=fun i hy=>by
   rcases mem_gY.1 hy with y | y | y | y | y
   ·exact .inr (mem_gY.2 (.inl y))
   ·exact .inr (in_h y)
   ·exact .inr (in_s y)
   ·exact .inr (in_w y)
   ·exact .inl y
  refine⟨F',g1,h2.keep (tF.block mb h2.ltB (nm mb (by simp))) (tF.block mg h2.ltG (nm mg (by simp))),fun i hi hy=>?_,h4,t.trans ⟨tF.os,tF.tape,tF.output,tF.size,fun k hk hn=>tF.block k hk (fun y=>hn (List.mem_cons_of_mem _ (List.mem_cons_of_mem _ (in_F y)))),fun i hy=>?_⟩⟩
  ·rcases G i hy with y | y
   ·exact sp i hi y
   ·exact h3 i hi y
  ·simp only[List.mem_cons]at hy
   rcases hy with y | y | y
   ·exact .inl (by simp[y])
   ·exact .inl (by simp[y])
   ·rcases G i y with y | y
    ·rcases tF.own i y with y | y
     ·exact .inl (List.mem_cons_of_mem _ (List.mem_cons_of_mem _ (in_F y)))
     ·exact .inr y
    ·exact .inl (by simp[y])
theorem Mid.hads (h:Mid W G0 b z mb mg w x v ws o n) {w3:World} {u:Value} {y:Nat} (hown:w3.ownsRow 0 49 1 u (x.was.length+1) (fls x.was ++ [.float .f64 y])) (hg:w.grownBy w3 (Value.slice v.ph x.was.length v.ch).ownBlock) (hat:u.ownBlock=(Value.slice v.ph x.was.length v.ch).ownBlock∨∃ s,u.ownBlock=some s/\w.heap.size<=s) :
  ∃ p' c',u=.slice p' (x.was.length+1) c'/\w3.heap[b]?=some (.cells (boxY x z v) 159 (0,0))/\Mid W G0 b z mb mg (w3.setCell ⟨b,15,none⟩ u) { x with was:=x.was ++ [y] } { v with ph:=p',ch:=c' } ws o n:=by
 obtain⟨h1,h2,h3,h4,t⟩:=h;obtain⟨p',c',e,tH,g1⟩:=h1.hads hown hg hat;have hbox:w3.heap[b]?=_:=((h1.others (i:=1) tH 0 (by omega)).2 b (by simp[LY])).trans h1.box;have nm:∀ i,i∈[mb,mg]->i∉fpR v.ph:=fun i hi y=>h3 i hi (in_h y)
 have lM:Blw w [mb,mg]:=fun k hk=>by
  simp only[List.mem_cons,List.not_mem_nil,or_false]at hk
  rcases hk with rfl | rfl
  ·exact h2.ltB
  ·exact h2.ltG
 have sp:Sep [mb,mg] (fpR p'):=Sep.turn (fun i hi y=>nm i hi y) lM tH;have G:∀ i,i∈gY b { v with ph:=p',ch:=c' }->i∈fpR p'∨i∈gY b v:=fun i hy=>by
  rcases mem_gY.1 hy with y | y | y | y | y
  ·exact .inr (mem_gY.2 (.inl y))
  ·exact .inl y
  ·exact .inr (in_s y)
  ·exact .inr (in_w y)
  ·exact .inr (in_F y)
 have m3:MemAt 106 w3 mb mg ws o n:=h2.keep (tH.block mb h2.ltB (nm mb (by simp))) (tH.block mg h2.ltG (nm mg (by simp)));refine⟨p',c',e,hbox,g1,m3.other (fun e=>h3 mb (by simp) (e ▸ in_b)) (fun e=>h3 mg (by simp) (e ▸ in_b)) 15 _,fun i hi hy=>?_,h4,t.trans ⟨tH.os,tH.tape,tH.output,by simpa using tH.size,fun k hk hn=>?_,fun i hy=>?_⟩⟩
 ·rcases G i hy with y | y
  ·exact sp i hi y
  ·exact h3 i hi y
 ·have nb:k≠b:=fun e=>hn (e ▸ List.mem_cons_of_mem _ (List.mem_cons_of_mem _ in_b))
  exact(zO _ _ _ _ nb).trans (tH.block k hk (fun y=>hn (List.mem_cons_of_mem _ (List.mem_cons_of_mem _ (in_h y)))))
 ·simp only[List.mem_cons]at hy
  rcases hy with y | y | y
  ·exact .inl (by simp[y])
  ·exact .inl (by simp[y])
  ·rcases G i y with y | y
   ·rcases tH.own i y with y | y
    ·exact .inl (List.mem_cons_of_mem _ (List.mem_cons_of_mem _ (in_h y)))
    ·exact .inr y
   ·exact .inl (by simp[y])
end
end Go.Proofs.YtipakfjpfjehmaaGreatDoor.Ww
namespace Go.Proofs.YtipakfjpfjehmaaGreatDoor.Md.Ct
open Go.ChangeShapes Go.WideShapes Go.ChangeAt Go.RowKit
def plnV (a b c d e f:Int):Value:=.agg #[.int .i64 a,.int .i64 b,.int .i64 c,.int .i64 d,.int .i64 e,.int .i64 f]
theorem aR3 {f:FuncId} {cap:Array Value} {w:World} {Q:World->Prop} (x y:Int) (z:Int) (hz:(if y=0 then x else 0)=z) (hcall:∀ (args:Array Value) (w:World),(callFunc f args).run Tryz.prog w=.ok (.enter f args) w)
  (hf:Calls Tryz.prog f cap w fun e w'=>e=.returned (.tuple #[.int .u64 x,.int .i64 y])/\Q w'):Calls Tryz.prog 111 #[.func (.func f) #[] cap] w fun e w'=>e=.returned (.tuple #[.int .u64 z,.int .i64 y])/\Q w':=by
 subst hz;have HF:=zH hf;clear hf
 by_cases hy:y=0
 ·subst hy
  go_enter Tryz.func111,Tryz.ntmps111
  go_wp2_with (refine HF.out.mono ?_;rintro e w' ⟨rfl,hq⟩)
  go_ret2;exact⟨rfl,hq⟩
 ·rw[if_neg hy]
  go_enter Tryz.func111,Tryz.ntmps111
  go_wp2_with (refine HF.out.mono ?_;rintro e w' ⟨rfl,hq⟩)
  go_ret2;exact⟨rfl,hq⟩
theorem bg6 {f:FuncId} {cap:Array Value} {w:World} {Q:World->Prop} (x:Bool) (y:Int) (z:Bool) (hz:(if y=0 then x else false)=z) (hcall:∀ (args:Array Value) (w:World),(callFunc f args).run Tryz.prog w=.ok (.enter f args) w)
  (hf:Calls Tryz.prog f cap w fun e w'=>e=.returned (.tuple #[.bool x,.int .i64 y])/\Q w'):Calls Tryz.prog 122 #[.func (.func f) #[] cap] w fun e w'=>e=.returned (.tuple #[.bool z,.int .i64 y])/\Q w':=by
 subst hz;have HF:=zH hf;clear hf
 by_cases hy:y=0
 ·subst hy
  go_enter Tryz.func122,Tryz.ntmps122
  go_wp2_with (refine HF.out.mono ?_;rintro e w' ⟨rfl,hq⟩)
  go_ret2;exact⟨rfl,hq⟩
 ·rw[if_neg hy]
  go_enter Tryz.func122,Tryz.ntmps122
  go_wp2_with (refine HF.out.mono ?_;rintro e w' ⟨rfl,hq⟩)
  go_ret2;exact⟨rfl,hq⟩
theorem bg7 {f:FuncId} {cap:Array Value} {w:World} {Q:World->Prop} (x y:Int) (z:Int) (hz:(if y=0 then x else 0)=z) (hcall:∀ (args:Array Value) (w:World),(callFunc f args).run Tryz.prog w=.ok (.enter f args) w)
  (hf:Calls Tryz.prog f cap w fun e w'=>e=.returned (.tuple #[.int .i64 x,.int .i64 y])/\Q w'):Calls Tryz.prog 94 #[.func (.func f) #[] cap] w fun e w'=>e=.returned (.tuple #[.int .i64 z,.int .i64 y])/\Q w':=by
 subst hz;have HF:=zH hf;clear hf
 by_cases hy:y=0
 ·subst hy
  go_enter Tryz.func94,Tryz.ntmps94
  go_wp2_with (refine HF.out.mono ?_;rintro e w' ⟨rfl,hq⟩)
  go_ret2;exact⟨rfl,hq⟩
 ·rw[if_neg hy]
  go_enter Tryz.func94,Tryz.ntmps94
  go_wp2_with (refine HF.out.mono ?_;rintro e w' ⟨rfl,hq⟩)
  go_ret2;exact⟨rfl,hq⟩
def betw (x t:Int):Int:=if t<=x then 0 else (if 2147483647<IntKind.u64.wrap (t - x) then 2147483647 else IntKind.u64.wrap (t - x))
theorem bc7 (n:Int):0<=IntKind.u64.wrap n:=by simp[IntKind.wrap,IntKind.bits,IntKind.signed];omega
theorem cell_kept {w w':World} {b:Nat} (e:w'.heap[b]?=w.heap[b]?) (o:Nat):w'.cell? ⟨b,o,none⟩=w.cell? ⟨b,o,none⟩:=by simp[World.cell?,e]
theorem b06 {x t:Int} (h:¬ t<=x) (q:¬ 2147483647<IntKind.u64.wrap (t - x)):betw x t=wrap64 (IntKind.u64.wrap (t - x)):=by
 have h0:=bc7 (t - x);unfold betw;rw[if_neg h,if_neg q,Go.IntWalk.wrap64_in _ ⟨by omega,by omega⟩]
theorem b05 {x t:Int} (h:¬ t<=x) (q:2147483647<IntKind.u64.wrap (t - x)):betw x t=2147483647:=by
 unfold betw;rw[if_neg h,if_pos q]
theorem aL5 (x t:Int) (w:World):Calls Tryz.prog 96 #[.int .u64 x,.int .u64 t] w fun e w'=>e=.returned (.int .i64 (betw x t))/\w'=w:=by
 by_cases h1:t<=x
 ·rw[show betw x t=0 by simp[betw,h1]]
  go_enter Tryz.func96,Tryz.ntmps96
  go_wp2
  go_ret;exact⟨rfl,rfl⟩
 ·by_cases h2:2147483647<IntKind.u64.wrap (t - x)
  ·rw[b05 h1 h2]
   go_enter Tryz.func96,Tryz.ntmps96
   go_wp2
   go_ret;exact⟨rfl,rfl⟩
  ·rw[b06 h1 h2]
   go_enter Tryz.func96,Tryz.ntmps96
   go_wp2
   go_ret;exact⟨rfl,rfl⟩
section
variable {w:World} {b g:Nat} {ws:List Int} {o:Bool} {c:Int}
def lookB (ws:List Int) (o:Bool) (i t:Int):Bool:=(hasB ws i && o) && decide (wordAt ws i=t)
def passV (t:Int):Int:=IntKind.u64.wrap (t+1)
def aheadI (ws:List Int) (i t:Int):Int:=if hasB ws i then betw (wordAt ws i) t else 0
theorem bo3 (ws:List Int) (o:Bool) (i:Int):(if errA ws o i=0 then toldW ws o i else 0)=toldW ws o i:=by
 unfold errA toldW
 cases q:hasB ws i <;> cases o <;> simp
theorem bg8 (ws:List Int) (o:Bool) (i t:Int):(if errA ws o i=0 then decide (toldW ws o i=t) else false)=lookB ws o i t:=by
 unfold errA toldW lookB
 cases q:hasB ws i <;> cases o <;> simp
theorem aZ4 (ws:List Int) (i t:Int):(if errP ws i=0 then betw (if hasB ws i then wordAt ws i else 0) t else 0)=aheadI ws i t:=by
 unfold errP aheadI
 cases q:hasB ws i <;> simp
theorem aL9 (h:MemAt 106 w b g ws o c) (pm pp:Nat) (a:Int) (h0:w.cell? ⟨pm,0,none⟩=some (.pointer (some ⟨b,0,none⟩))) (h1:w.cell? ⟨pp,0,none⟩=some (.int .i64 a)) :
  Calls Tryz.prog 112 #[.pointer (some ⟨pm,0,none⟩),.pointer (some ⟨pp,0,none⟩)] w fun e w'=>e=.returned (.tuple #[.int .u64 (toldW ws o a),.int .i64 (errA ws o a)])/\MemAt 106 w' b g (stored ws o a (addV (wordAt ws a) 1)) (a53 ws o a) (a52 ws o a c)/\Chg b g w w':=by
 have HA:=zH (bs0 h a 1);clear h;go_enter Tryz.func112,Tryz.ntmps112
 go_wp2_with (go_at_call 113;refine HA.out.mono ?_;rintro e w' ⟨rfl,hq⟩)
 go_ret2;exact⟨rfl,hq⟩
theorem draw_any (h:MemAt 106 w b g ws o c) (a0 a1 a2 a3 a4 a5:Int) :
  Calls Tryz.prog 106 #[.pointer (some ⟨b,0,none⟩),plnV a0 a1 a2 a3 a4 a5] w fun e w'=>e=.returned (.tuple #[.int .u64 (toldW ws o a0),.int .i64 (errA ws o a0)])/\MemAt 106 w' b g (stored ws o a0 (addV (wordAt ws a0) 1)) (a53 ws o a0) (a52 ws o a0 c)/\Chg b g w w':=by
 unfold plnV;have HM:=zH h;clear h;go_enter Tryz.func106,Tryz.ntmps106
 go_wp2_with (go_at_call 111;refine(aR3 _ _ _ (bo3 ..) (enter_run Tryz.func112 (by kernel_rfl) (by kernel_rfl)) (aL9 ((HM.out.alloc _).alloc _) _ _ a0 (by simp[go_sem]) (by simp[go_sem]))).mono ?_;rintro e w' ⟨rfl,hm,hc⟩;have HX:=zH (And.intro hm (((Chg.refl b g w).alloc _).alloc _ |>.trans hc));clear hm hc)
 go_ret2;exact⟨rfl,HX.out⟩
theorem aM9 (h:MemAt 106 w b g ws o c) (pm pp pt:Nat) (a t:Int) (nb:pt≠b) (ng:pt≠g) (h0:w.cell? ⟨pm,0,none⟩=some (.pointer (some ⟨b,0,none⟩))) (h1:w.cell? ⟨pp,1,none⟩=some (.int .i64 a)) (h2:w.cell? ⟨pt,0,none⟩=some (.int .u64 t)) :
  Calls Tryz.prog 123 #[.pointer (some ⟨pm,0,none⟩),.pointer (some ⟨pp,0,none⟩),.pointer (some ⟨pt,0,none⟩)] w fun e w'=>e=.returned (.tuple #[.bool (decide (toldW ws o a=t)),.int .i64 (errA ws o a)])/\MemAt 106 w' b g ws (a53 ws o a) (a52 ws o a c)/\Chg b g w w':=by
 have HA:=zH (aa5 h a);have hlt:=zK w _ h2;have HN:=zH (And.intro nb ng);clear h nb ng
 generalize toldW ws o a=x at *
 by_cases hx:x=t
 ·go_enter Tryz.func123,Tryz.ntmps123
  go_wp2_with (go_at_call 124;refine HA.out.mono ?_;rintro e w' ⟨rfl,hm,hc⟩;have q2:w'.cell? ⟨pt,0,none⟩=some (.int .u64 t):=((cell_kept (hc.block pt hlt HN.out.1 HN.out.2) 0).trans h2);have HX:=zH (And.intro hm hc);clear hm hc)
  go_ret2;exact⟨by simp[hx],HX.out⟩
 ·go_enter Tryz.func123,Tryz.ntmps123
  go_wp2_with (go_at_call 124;refine HA.out.mono ?_;rintro e w' ⟨rfl,hm,hc⟩;have q2:w'.cell? ⟨pt,0,none⟩=some (.int .u64 t):=((cell_kept (hc.block pt hlt HN.out.1 HN.out.2) 0).trans h2);have HX:=zH (And.intro hm hc);clear hm hc)
  go_ret2;exact⟨by simp[hx],HX.out⟩
theorem look_any (h:MemAt 106 w b g ws o c) (a0 a1 a2 a3 a4 a5 t:Int) :
  Calls Tryz.prog 114 #[.pointer (some ⟨b,0,none⟩),plnV a0 a1 a2 a3 a4 a5,.int .u64 t] w fun e w'=>e=.returned (.tuple #[.bool (lookB ws o a1 t),.int .i64 (errA ws o a1)])/\MemAt 106 w' b g ws (a53 ws o a1) (a52 ws o a1 c)/\Chg b g w w':=by
 unfold plnV;have HM:=zH h;have HLT:Hid (b<w.heap.size/\g<w.heap.size):=⟨h.ltB,h.ltG⟩;clear h;go_enter Tryz.func114,Tryz.ntmps114
 go_wp2_with (go_at_call 122;refine(bg6 _ _ _ (bg8 ..) (enter_run Tryz.func123 (by kernel_rfl) (by kernel_rfl)) (aM9 (((HM.out.alloc _).alloc _).alloc _) _ _ _ a1 t (by have:=HLT.out;omega) (by have:=HLT.out;omega) (by simp[go_sem]) (by simp[go_sem]) (by simp[go_sem]))).mono ?_;rintro e w' ⟨rfl,hm,hc⟩;have HX:=zH (And.intro hm ((((Chg.refl b g w).alloc _).alloc _).alloc _ |>.trans hc));clear hm hc)
 go_ret2;exact⟨rfl,HX.out⟩
theorem aN5 (h:MemAt 106 w b g ws o c) (pm pp pt:Nat) (a t:Int) (h0:w.cell? ⟨pm,0,none⟩=some (.pointer (some ⟨b,0,none⟩))) (h1:w.cell? ⟨pp,1,none⟩=some (.int .i64 a)) (h2:w.cell? ⟨pt,0,none⟩=some (.int .u64 t)) :
  Calls Tryz.prog 170 #[.pointer (some ⟨pt,0,none⟩),.pointer (some ⟨pm,0,none⟩),.pointer (some ⟨pp,0,none⟩)] w fun e w'=>e=.returned (.tuple #[.int .u64 (passV t),.int .i64 (errA ws o a)])/\MemAt 106 w' b g (stored ws o a (passV t)) (a53 ws o a) (a52 ws o a c)/\Chg b g w w':=by
 have HA:=zH (af5 h a (passV t));unfold passV at *;clear h;go_enter Tryz.func170,Tryz.ntmps170
 go_wp2_with (go_at_call 171;refine HA.out.mono ?_;rintro e w' ⟨rfl,hm,hc⟩;have HX:=zH (And.intro hm hc);clear hm hc)
 go_ret2;exact⟨rfl,HX.out⟩
theorem pass_any (h:MemAt 106 w b g ws o c) (a0 a1 a2 a3 a4 a5 t:Int) :
  Calls Tryz.prog 151 #[.pointer (some ⟨b,0,none⟩),plnV a0 a1 a2 a3 a4 a5,.int .u64 t] w fun e w'=>e=.returned (.int .i64 (errA ws o a1))/\MemAt 106 w' b g (stored ws o a1 (passV t)) (a53 ws o a1) (a52 ws o a1 c)/\Chg b g w w':=by
 unfold plnV;have HM:=zH h;obtain⟨z,hz⟩:∃ z,(if errA ws o a1=0 then passV t else 0)=z:=⟨_,rfl⟩
 have HZ:=zH hz;clear hz;clear h;go_enter Tryz.func151,Tryz.ntmps151
 go_wp2_with (go_at_call 111;refine(aR3 _ _ z HZ.out (enter_run Tryz.func170 (by kernel_rfl) (by kernel_rfl)) (aN5 (((HM.out.alloc _).alloc _).alloc _) _ _ _ a1 t (by simp[go_sem]) (by simp[go_sem]) (by simp[go_sem]))).mono ?_;rintro e w' ⟨rfl,hm,hc⟩;have HX:=zH (And.intro hm ((((Chg.refl b g w).alloc _).alloc _).alloc _ |>.trans hc));clear hm hc)
 go_ret;exact⟨rfl,HX.out⟩
theorem aF9 (h:MemAt 106 w b g ws o c) (pm pp pt:Nat) (a t:Int) (h0:w.cell? ⟨pm,0,none⟩=some (.pointer (some ⟨b,0,none⟩))) (h1:w.cell? ⟨pp,1,none⟩=some (.int .i64 a)) (h2:w.cell? ⟨pt,0,none⟩=some (.int .u64 t)) :
  Calls Tryz.prog 95 #[.pointer (some ⟨pm,0,none⟩),.pointer (some ⟨pp,0,none⟩),.pointer (some ⟨pt,0,none⟩)] w fun e w'=>e=.returned (.tuple #[.int .i64 (betw (if hasB ws a then wordAt ws a else 0) t),.int .i64 (errP ws a)])/\w'=w:=by
 have HA:=zH (peek_any h a)
 generalize (if hasB ws a then wordAt ws a else 0)=x at *
 clear h;go_enter Tryz.func95,Tryz.ntmps95
 go_wp2_with (first
  | (go_at_call 67;refine HA.out.mono ?_;rintro e w' ⟨rfl,hw⟩;subst w')
  | (go_at_call 96;refine(aL5 _ _ _).mono ?_;rintro e w' ⟨rfl,hw⟩;subst w'))
 go_ret2;exact⟨rfl,rfl⟩
theorem ahead_any (h:MemAt 106 w b g ws o c) (a0 a1 a2 a3 a4 a5 t:Int) :
  Calls Tryz.prog 83 #[.pointer (some ⟨b,0,none⟩),plnV a0 a1 a2 a3 a4 a5,.int .u64 t] w fun e w'=>e=.returned (.tuple #[.int .i64 (aheadI ws a1 t),.int .i64 (errP ws a1)])/\MemAt 106 w' b g ws o c/\Bl w w':=by
 unfold plnV;have HM:=zH h;clear h;go_enter Tryz.func83,Tryz.ntmps83
 go_wp2_with (go_at_call 94;refine(bg7 _ _ _ (aZ4 ..) (enter_run Tryz.func95 (by kernel_rfl) (by kernel_rfl)) (aF9 (((HM.out.alloc _).alloc _).alloc _) _ _ _ a1 t (by simp[go_sem]) (by simp[go_sem]) (by simp[go_sem]))).mono ?_;rintro e w' ⟨rfl,hw⟩;have HX:Hid (MemAt 106 w' b g ws o c/\Bl w w'):=(by rw[hw];exact⟨((HM.out.alloc _).alloc _).alloc _,(((zF _ _).alloc (zE _) _).alloc (by simp) _).alloc (by simp;omega) _⟩);clear hw)
 go_ret2;exact⟨rfl,HX.out⟩
end
end Go.Proofs.YtipakfjpfjehmaaGreatDoor.Md.Ct
namespace Go.Proofs.YtipakfjpfjehmaaGreatDoor.Ww
open Go.ChangeShapes Go.WideShapes Go.ChangeAt Go.RowKit Num Rr
theorem aM5 {ws:List Int} {i:Int} (h:0<=i) (k:i<(ws.length:Int)):hasB ws i=true:=zT ⟨h,k⟩
theorem aa0 {ws:List Int} {i:Int} (h:0<=i) (k:i<(ws.length:Int)):errA ws true i=0:=by unfold errA;rw[aM5 h k];rfl
def bufC (x:Wx) (k:Nat):Int:=(x.m.buf.getD k (0,0)).1
def bufX (x:Wx) (k:Nat):Nat:=(x.m.buf.getD k (0,0)).2
def wtK (x:Wx) (k d:Nat):Md.Ce.Wt:=⟨3+x.b,bufC x k,((x.was.getD k 0:Nat):Int),Md.Cv.passV x.stamp,((bufX x k:Nat):Int),d⟩
structure VOk (x:Wx) (v:Wv):Prop where
 nx:v.nx=al3 x.part
 s5:x.part=5->(∃ n,v.qs=some n)/\v.s.B=3/\v.s.H=x.b/\v.s.D=x.stamp/\v.s.P=(x.at_:Int)
 b5:x.part<=5->v.bg=0
 w6:x.part=6->(∃ n,v.qw=some n)/\v.bg=((x.at_ / 3+1:Nat):Int)/\v.t=wtK x (x.at_ / 3) (x.at_ % 3)
 nb:wrap64 v.nb=x.num
theorem bi6 {p:Nat} (h:p≠9):al3 p=fnV (partF p):=by unfold al3;rw[if_neg h]
theorem VOk.tick {x:Wx} {v:Wv} (h:VOk x v):VOk (a16 x) v:=⟨h.nx,h.s5,h.b5,h.w6,h.nb⟩
section
variable {x:Wx} {ws:List Int}
def letsY (x:Wx) (ws:List Int):Bool:=decide (wordAt ws (3+(x.at_:Int))=0∨x.stamp<wordAt ws (3+(x.at_:Int)))
theorem bm9 (hI:InY x) (hp:x.part=5) (hl:plY x<=(ws.length:Int)) {s:Md.Cv.Ss} (hB:s.B=3) (hH:s.H=x.b) (hD:s.D=x.stamp) (hP:s.P=(x.at_:Int)) (n:Int) :
  Md.Cv.sE s ws true=0/\Md.Cv.sP s ws true=false/\Md.Cv.sQ s ws true n=up n/\Md.Cv.SOk s/\Md.Cv.sO s ws true=(letsY x ws && decide (((x.at_+1:Nat):Int)=x.b))/\(letsY x ws=true->Md.Cv.sC s ws true=⟨3,x.b,x.stamp,((x.at_+1:Nat):Int),s.Q⟩)/\(letsY x ws=false->Md.Cv.sC s ws true=⟨3,x.b,x.stamp,(x.at_:Int),up s.Q⟩):=by
 obtain⟨B,H,D,P,Q⟩:=s;dsimp only at hB hH hD hP;subst hB hH hD hP;have h5:=hI.at5 hp;have hb:=hI.cb;have ha:=hI.ca;unfold plY at hl;have hpl:Md.Cv.plc 3 (x.at_:Int)=3+(x.at_:Int):=by unfold Md.Cv.plc;rw[if_pos (by omega)]
 have hm:Md.Cv.mayH x.b=true:=zT ⟨hb.1,hb.2⟩;have hE:Md.Cv.sE ⟨3,x.b,x.stamp,(x.at_:Int),Q⟩ ws true=0:=by
  unfold Md.Cv.sE;dsimp only;rw[hm,if_pos rfl,if_neg (by omega),hpl];exact aa0 (by omega) (by omega)
 have hC:Md.Cv.sC ⟨3,x.b,x.stamp,(x.at_:Int),Q⟩ ws true=Md.Cv.sN ⟨3,x.b,x.stamp,(x.at_:Int),Q⟩ (wordAt ws (3+(x.at_:Int))):=by
  unfold Md.Cv.sC;rw[if_pos hE];dsimp only;rw[hpl]
 have hL:Md.Cv.letB x.stamp (wordAt ws (3+(x.at_:Int)))=letsY x ws:=by
  unfold Md.Cv.letB letsY;rw[Bool.eq_iff_iff]
  simp
 have hN:Md.Cv.sN ⟨3,x.b,x.stamp,(x.at_:Int),Q⟩ (wordAt ws (3+(x.at_:Int)))=if letsY x ws then ⟨3,x.b,x.stamp,(x.at_:Int)+1,Q⟩ else ⟨3,x.b,x.stamp,(x.at_:Int),up Q⟩:=by
  unfold Md.Cv.sN;dsimp only;rw[hL]
 refine⟨hE,?_,?_,⟨by dsimp only;omega,fun _=>by dsimp only;omega⟩,?_,fun q=>?_,fun q=>?_⟩
 ·unfold Md.Cv.sP;rw[if_pos hE]
 ·unfold Md.Cv.sQ;rw[if_pos hE]
 ·unfold Md.Cv.sO
  rw[hE,hC,hN,zT rfl,Bool.true_and]
  cases letsY x ws
  ·rw[Bool.false_and]
   exact zU (by simp;omega)
  ·rw[Bool.true_and]
   simp
 ·rw[hC,hN,q]
  simp
 ·rw[hC,hN,q]
  simp
theorem bm6 (h:letsY x ws=false):a97 x ws=x:=by
 have:=zM h;unfold a97;rw[if_neg this]
theorem bm7 (h:letsY x ws=true) (hb:¬ ((x.at_+1:Nat):Int)=x.b):a97 x ws={ x with at_:=x.at_+1 }:=by
 have:=zP h;unfold a97;rw[if_pos this,if_neg hb]
theorem ba0 (h:letsY x ws=true) (hb:((x.at_+1:Nat):Int)=x.b):a97 x ws={ x with at_:=0,part:=if x.m.buf.length=0 then 7 else 6 }:=by
 have:=zP h;unfold a97;rw[if_pos this,if_pos hb]
theorem aR8 {v:Nat} (h:okN v):fixB v=v:=h.1
theorem bp8 (hI:InY x) {k:Nat} (hk:k<x.m.buf.length):0<=bufC x k/\bufC x k<x.a/\okN (bufX x k):=by
 have e:x.m.buf.getD k (0,0)=x.m.buf[k]:=by simp[hk]
 unfold bufC bufX;rw[e,<- hI.cel];exact⟨(hI.rest.cel _ (List.getElem_mem hk)).1,(hI.rest.cel _ (List.getElem_mem hk)).2,hI.rest.inv.buf _ (List.getElem_mem hk)⟩
theorem bI0 (hI:InY x) (k:Nat):okN (x.was.getD k 0):=ad9 0 a92 x.was hI.wok k
theorem bw4 (hI:InY x) {k:Nat} (hk:k<x.m.buf.length):Md.Ce.newW (3+x.b) (bufC x k) (Md.Cv.passV x.stamp) (x.was.getD k 0) (bufX x k)=wtK x k 0:=by
 unfold Md.Ce.newW wtK;rw[aR8 (bI0 hI k),aR8 (bp8 hI hk).2.2]
theorem bc8 (hI:InY x) (hp:x.part=6) (hl:plY x<=(ws.length:Int)) (n:Int):Md.Ce.errW (wtK x (x.at_ / 3) (x.at_ % 3)) ws true=0/\Md.Ce.laidW (wtK x (x.at_ / 3) (x.at_ % 3)) ws true=ah7 x ws/\Md.Ce.stepW (wtK x (x.at_ / 3) (x.at_ % 3)) ws true=wtK x (x.at_ / 3) (x.at_ % 3+1)/\Md.Ce.endW (wtK x (x.at_ / 3) (x.at_ % 3)) ws true=decide (x.at_ % 3=2)/\Md.Ce.aftO (Md.Ce.errW (wtK x (x.at_ / 3) (x.at_ % 3)) ws true) true=false/\Md.Ce.aftN (Md.Ce.errW (wtK x (x.at_ / 3) (x.at_ % 3)) ws true) n=up n:=by
 have h6:=hI.at6 hp;have hk:x.at_ / 3<x.m.buf.length:=by omega
 obtain⟨c1,c2,c3⟩:=bp8 hI hk;have hb:=hI.cb;have ha:=hI.ca;unfold plY at hl;have hd:x.at_ % 3<3:=Nat.mod_lt _ (by omega);have P:∀ j:Int,Md.Ce.placeI (3+x.b) (bufC x (x.at_ / 3)) j=3+x.b+3*bufC x (x.at_ / 3)+j:=fun j=>by unfold Md.Ce.placeI;rw[if_pos (by omega)]
 have hw:=Md.Ce.wordW_in (x.at_ % 3);have hE:Md.Ce.errW (wtK x (x.at_ / 3) (x.at_ % 3)) ws true=0:=by
  unfold Md.Ce.errW Md.Ce.errC wtK;dsimp only;rw[if_pos hd,show Md.Ce.mayC (bufC x (x.at_ / 3))=true from zT ⟨c1,by omega⟩,if_pos rfl,P];exact aa0 (by omega) (by omega)
 refine⟨hE,?_,?_,?_,?_,?_⟩
 ·unfold Md.Ce.laidW
  rw[if_pos hE];unfold Md.Ce.storeC Md.Ce.bitsW Md.Ce.wordW wtK ah7 atC;dsimp only;rw[P]
  rcases(by omega:x.at_ % 3=0∨x.at_ % 3=1∨x.at_ % 3=2) with d | d | d
  ·simp only[d,if_true]
   rfl
  ·simp only[d,if_true,if_neg (show ¬ (1:Nat)=0 by omega)]
   rfl
  ·simp only[d,if_neg (show ¬ (2:Nat)=0 by omega),if_neg (show ¬ (2:Nat)=1 by omega)]
   rfl
 ·unfold Md.Ce.stepW
  rw[if_pos hE]
  rfl
 ·unfold Md.Ce.endW
  rw[hE,zT rfl,Bool.true_and]
  rfl
 ·unfold Md.Ce.aftO;rw[if_pos hE]
 ·unfold Md.Ce.aftN;rw[if_pos hE]
theorem bw8 (ha:1<=x.a/\x.a<=256) (hb:1<=x.b/\x.b<=8) (hl:plY x<=(ws.length:Int)) {c:Int} (h0:0<=c) (h1:c<x.a) (n:Int):Md.Ce.errC ws true (3+x.b) c 1=0/\Md.Ce.nowV ws true (3+x.b) c=nowN x ws c/\Md.Ce.aftO (Md.Ce.errC ws true (3+x.b) c 1) true=false/\Md.Ce.aftN (Md.Ce.errC ws true (3+x.b) c 1) n=up n:=by
 unfold plY at hl;have P:Md.Ce.placeI (3+x.b) c 1=3+x.b+3*c+1:=by unfold Md.Ce.placeI;rw[if_pos (by omega)]
 have hE:Md.Ce.errC ws true (3+x.b) c 1=0:=by
  unfold Md.Ce.errC;rw[show Md.Ce.mayC c=true from zT ⟨h0,by omega⟩,if_pos rfl,P];exact aa0 (by omega) (by omega)
 refine⟨hE,?_,?_,?_⟩
 ·unfold Md.Ce.nowV Md.Ce.wordC nowN atC
  rw[if_pos hE,P]
 ·unfold Md.Ce.aftO;rw[if_pos hE]
 ·unfold Md.Ce.aftN;rw[if_pos hE]
end
section
variable {W w w':World} {G0:List Nat} {b mb mg:Nat} {x:Wx} {z:Wz} {v:Wv} {ws:List Int} {o:Bool} {n:Int}
theorem RawAt.like (h:RawAt w b x z v) {x':Wx} (e:boxY x' z v=boxY x z v) (hm:x'.m=x.m) (ha:x'.args=x.args) (hw:x'.was=x.was):RawAt w b x' z v:=⟨by rw[e];exact h.box,by rw[hm];exact h.mac,by rw[hw];exact h.had,h.sc,h.wr,by rw[ha];exact h.arg,h.apart⟩
theorem Mid.like (h:Mid W G0 b z mb mg w x v ws o n) {x':Wx} (e:boxY x' z v=boxY x z v) (hm:x'.m=x.m) (ha:x'.args=x.args) (hw:x'.was=x.was):Mid W G0 b z mb mg w x' v ws o n:=⟨h.1.like e hm ha hw,h.2⟩
theorem Mid.plan (h:Mid W G0 b z mb mg w x v ws o n) {p4 p5:Int} (h4:3+x.b=p4) (h5:3+x.b+3*x.a=p5):w.cell? ⟨b,0,none⟩=some (.int .i64 0)/\w.cell? ⟨b,1,none⟩=some (.int .i64 1)/\w.cell? ⟨b,2,none⟩=some (.int .i64 2)/\w.cell? ⟨b,3,none⟩=some (.int .i64 3)/\w.cell? ⟨b,4,none⟩=some (.int .i64 p4)/\w.cell? ⟨b,5,none⟩=some (.int .i64 p5):=by
 subst h4 h5;exact⟨(h.cell 0).trans rfl,(h.cell 1).trans rfl,(h.cell 2).trans rfl,(h.cell 3).trans rfl,(h.cell 4).trans rfl,(h.cell 5).trans rfl⟩
theorem Mid.step (h:Mid W G0 b z mb mg w x v ws o n) (hT:a87 W G0) (hI:Inv x.m) {M:Mac} {A:Ask} (hM:(a07 x.m).1=M) (hA:(a07 x.m).2=A):Calls Tryz.prog 128 #[.pointer (some ⟨z.bm,0,none⟩)] w fun e w'=>e=.returned (.agg #[.int .i64 A.kind,.int .i64 A.cell,.float .f64 A.x,.bool A.first])/\Hid (∃ F,Mid W G0 b z mb mg w' { x with m:=M } { v with F:=F } ws o n):=by
 obtain⟨g,tb,go⟩:=h.mach;subst hM hA;refine(step_any g (tb hT) hI).mono ?_;rintro e w' ⟨rfl,k⟩;exact⟨rfl,go _ _ k⟩
theorem Mid.give (h:Mid W G0 b z mb mg w x v ws o n) (hI:Inv x.m) (y:Nat) {M:Mac} (hM:a65 x.m y=M):Calls Tryz.prog 129 #[.pointer (some ⟨z.bm,0,none⟩),.float .f64 y] w fun e w'=>e=.returned (.int .i64 (giveE x.m))/\Hid (∃ F,Mid W G0 b z mb mg w' { x with m:=M } { v with F:=F } ws o n):=by
 obtain⟨g,tb,go⟩:=h.mach;subst hM;refine(aR0 g hI y).mono ?_;rintro e w' ⟨rfl,k⟩;exact⟨rfl,go _ _ k⟩
end
attribute [local go_sem] a00 Md.Ce.run_store_func Md.Ce.run_store_nilFunc
theorem b40:∃ ps rs v,Tryz.prog.underlying 155=some (.func ps rs v):=⟨#[146,67],#[],false,by kernel_rfl⟩
theorem ai8 (f:Fn) (x y:Array Value) (w:World):(binOp .eql 155 (.func f x y) .nilFunc).run Tryz.prog w=.ok (.bool false) w:=by
 obtain⟨ps,rs,v,h⟩:=b40;simp only[binOp]
 simp[Md.Ce.run_equal_func _ f x y w h]
theorem ad4 (w:World):(binOp .eql 155 .nilFunc .nilFunc).run Tryz.prog w=.ok (.bool true) w:=by
 obtain⟨ps,rs,v,h⟩:=b40;simp only[binOp]
 simp[Md.Ce.run_equal_nil _ w h]
attribute [local go_sem] ai8 ad4
theorem aW6 (p:Nat) (args:Array Value) (w:World):(callFunc (partF p) args).run Tryz.prog w=.ok (.enter (partF p) args) w:=by
 unfold partF
 split
 ·exact Md.enter_run Tryz.func91 (by kernel_rfl) (by kernel_rfl) args w
 split
 ·exact Md.enter_run Tryz.func107 (by kernel_rfl) (by kernel_rfl) args w
 split
 ·exact Md.enter_run Tryz.func115 (by kernel_rfl) (by kernel_rfl) args w
 split
 ·exact Md.enter_run Tryz.func126 (by kernel_rfl) (by kernel_rfl) args w
 split
 ·exact Md.enter_run Tryz.func141 (by kernel_rfl) (by kernel_rfl) args w
 split
 ·exact Md.enter_run Tryz.func178 (by kernel_rfl) (by kernel_rfl) args w
 split
 ·exact Md.enter_run Tryz.func175 (by kernel_rfl) (by kernel_rfl) args w
 ·exact Md.enter_run Tryz.func139 (by kernel_rfl) (by kernel_rfl) args w
section
variable {W w:World} {G0:List Nat} {b mb mg:Nat} {x:Wx} {z:Wz} {v:Wv} {ws:List Int} {o:Bool} {n:Int}
theorem ao0 (h:RawAt w b x z v) (hv:v.nx=al3 x.part):Calls Tryz.prog 100 #[.pointer (some ⟨b,0,none⟩)] w fun e w'=>e=.returned (.bool (decide ((x.part:Int)=9)))/\w'=w:=by
 have h12:w.cell? ⟨b,12,none⟩=some v.nx:=(h.cell 12).trans rfl;have hb:=h.ltB;rw[hv]at h12;unfold al3 at h12;clear h hv
 by_cases e:x.part=9
 ·rw[if_pos e]at h12
  rw[zT (by omega)];clear e;go_enter Tryz.func100,Tryz.ntmps100
  go_wp2
  go_ret;exact⟨rfl,rfl⟩
 ·rw[if_neg e]at h12
  unfold fnV at h12;rw[zU (by omega)]
  generalize partF x.part=ff at h12
  clear e;go_enter Tryz.func100,Tryz.ntmps100
  go_wp2
  go_ret;exact⟨rfl,rfl⟩
theorem ab4 (h:Mid W G0 b z mb mg w x v ws o n) (p:Nat) {P:Int} (hP:(p:Int)=P) (f:FuncId):Calls Tryz.prog 90 #[.pointer (some ⟨b,0,none⟩),.int .i64 P,.func (.func f) #[] #[]] w fun e w'=>e=.returned (.tuple #[])/\Mid W G0 b z mb mg w' { x with part:=p } { v with nx:=fnV f } ws o n:=by
 subst hP;have h11:w.cell? ⟨b,11,none⟩=some (.int .i64 (x.part:Int)):=(h.cell 11).trans rfl;have f11:=h.free 11;have H1:=h.put 11 (.int .i64 (p:Int)) { x with part:=p } v rfl ⟨rfl,rfl,rfl⟩ ⟨rfl,rfl,rfl,rfl,rfl,rfl,rfl⟩;have h12:(w.setCell ⟨b,11,none⟩ (.int .i64 (p:Int))).cell? ⟨b,12,none⟩=some v.nx:=(H1.cell 12).trans rfl;have f12:=H1.free 12;have H2:=zH (H1.put 12 (.func (.func f) #[] #[]) { x with part:=p } { v with nx:=fnV f } rfl ⟨rfl,rfl,rfl⟩ ⟨rfl,rfl,rfl,rfl,rfl,rfl,rfl⟩);have hb:=h.ltB;clear h H1;go_enter Tryz.func90,Tryz.ntmps90
 go_wp2
 go_end0
 exact⟨rfl,H2.out⟩
theorem aY1 (h:Mid W G0 b z mb mg w x v ws o n) (p:Nat) {P:Int} (hP:(p:Int)=P):Calls Tryz.prog 90 #[.pointer (some ⟨b,0,none⟩),.int .i64 P,.nilFunc] w fun e w'=>e=.returned (.tuple #[])/\Mid W G0 b z mb mg w' { x with part:=p } { v with nx:=.nilFunc } ws o n:=by
 subst hP;have h11:w.cell? ⟨b,11,none⟩=some (.int .i64 (x.part:Int)):=(h.cell 11).trans rfl;have f11:=h.free 11;have H1:=h.put 11 (.int .i64 (p:Int)) { x with part:=p } v rfl ⟨rfl,rfl,rfl⟩ ⟨rfl,rfl,rfl,rfl,rfl,rfl,rfl⟩;have h12:(w.setCell ⟨b,11,none⟩ (.int .i64 (p:Int))).cell? ⟨b,12,none⟩=some v.nx:=(H1.cell 12).trans rfl;have f12:=H1.free 12;have H2:=zH (H1.put 12 .nilFunc { x with part:=p } { v with nx:=.nilFunc } rfl ⟨rfl,rfl,rfl⟩ ⟨rfl,rfl,rfl,rfl,rfl,rfl,rfl⟩);have hb:=h.ltB;clear h H1;go_enter Tryz.func90,Tryz.ntmps90
 go_wp2
 go_end0
 exact⟨rfl,H2.out⟩
theorem an7 (h:Mid W G0 b z mb mg w x v ws o n):Calls Tryz.prog 177 #[.pointer (some ⟨b,0,none⟩)] w fun e w'=>e=.returned (.int .u64 (Md.Cv.passV x.stamp))/\w'=w:=by
 have h14:w.cell? ⟨b,14,none⟩=some (.int .u64 x.stamp):=(h.cell 14).trans rfl;have hb:=h.ltB;clear h;unfold Md.Cv.passV;go_enter Tryz.func177,Tryz.ntmps177
 go_wp2
 go_ret;exact⟨rfl,rfl⟩
theorem draw_any (h:Mid W G0 b z mb mg w x v ws true n) (hl:0<(ws.length:Int)):Calls Tryz.prog 91 #[.pointer (some ⟨b,0,none⟩),.pointer (some ⟨mb,0,none⟩)] w fun e w'=>e=.returned (.tuple #[])/\Mid W G0 b z mb mg w' { x with tick:=wordAt ws 0,part:=2 } { v with nx:=fnV 107 } (ws.set 0 (Md.Cv.passV (wordAt ws 0))) false (up n):=by
 have hE:errA ws true 0=0:=aa0 (by omega) hl;obtain⟨f1,f2,f3,f4,_⟩:=Md.Cv.ok_facts hE;obtain⟨y,hy⟩:∃ y,wordAt ws 0=y:=⟨_,rfl⟩
 obtain⟨ws',hws⟩:∃ ws',ws.set 0 (Md.Cv.passV (wordAt ws 0))=ws':=⟨_,rfl⟩
 have HD:=zH (Md.Ct.draw_any h.mem 0 1 2 3 (3+x.b) (3+x.b+3*x.a));unfold Md.Ct.plnV at HD;rw[hE,f1,f2,f3,f4,show ws.set (Int.toNat 0) (addV (wordAt ws 0) 1)=ws' from hws,hy]at HD;rw[hws,hy];have HM:Hid (∀ w',MemAt 106 w' mb mg ws' false (up n)->Chg mb mg w w'->Mid W G0 b z mb mg w' x v ws' false (up n)):=fun w' k1 k2=>h.memb k2 k1
 have HP:Hid (∀ w',Mid W G0 b z mb mg w' x v ws' false (up n)->Mid W G0 b z mb mg (w'.setCell ⟨b,13,none⟩ (.int .u64 y)) { x with tick:=y } v ws' false (up n)):=fun w' k=>k.put 13 _ { x with tick:=y } v rfl ⟨rfl,rfl,rfl⟩ ⟨rfl,rfl,rfl,rfl,rfl,rfl,rfl⟩
 have HT:Hid (∀ w',Mid W G0 b z mb mg w' { x with tick:=y } v ws' false (up n)->Calls Tryz.prog 90 #[.pointer (some ⟨b,0,none⟩),.int .i64 2,.func (.func 107) #[] #[]] w' fun e w'=>e=.returned (.tuple #[])/\Mid W G0 b z mb mg w' { x with tick:=y,part:=2 } { v with nx:=fnV 107 } ws' false (up n)):=fun w' k=>ab4 k 2 rfl 107
 obtain⟨h0,h1,h2,h3,h4,h5⟩:=h.plan rfl rfl;have hb:=h.ltB;clear h f1 f2 f3 f4 hE hl hy hws
 generalize 3+x.b+3*x.a=p5 at *
 generalize 3+x.b=p4 at *
 go_enter Tryz.func91,Tryz.ntmps91
 go_wp2_with (first
  | (go_at_call 90;refine(HT.out _ (HP.out _ HQ.out)).mono ?_;rintro e w2 ⟨rfl,k⟩;have HR:=zH k;clear k HT)
  | (go_at_call 106;refine HD.out.mono ?_;rintro e w1 ⟨rfl,k1,k2⟩;have HQ:=zH (HM.out _ k1 k2);have e13:w1.cell? ⟨b,13,none⟩=some (.int .u64 x.tick):=(HQ.out.cell 13).trans rfl;have f13:=HQ.out.free 13;have lb:=HQ.out.ltB;clear k1 k2 HD HM))
 go_end0
 exact⟨rfl,HR.out⟩
theorem aT8 (h:Mid W G0 b z mb mg w x v ws true n) (hl:1<(ws.length:Int)) {is:Bool} (his:decide (wordAt ws 1=x.tick)=is):Calls Tryz.prog 107 #[.pointer (some ⟨b,0,none⟩),.pointer (some ⟨mb,0,none⟩)] w fun e w'=>e=.returned (.tuple #[])/\Mid W G0 b z mb mg w' (if is then { x with part:=3 } else x) (if is then { v with nx:=fnV 115 } else v) ws false (up n):=by
 have hE:errA ws true 1=0:=aa0 (by omega) hl;obtain⟨f1,f2,f3,f4,f5,_⟩:=Md.Cv.ok_facts hE;have HD:=zH (Md.Ct.look_any h.drew.mem 0 1 2 3 (3+x.b) (3+x.b+3*x.a) x.tick);unfold Md.Ct.plnV Md.Ct.lookB at HD;rw[hE,f2,f3,f5,Bool.true_and,Bool.true_and,his]at HD;have HM:Hid (∀ w',MemAt 106 w' mb mg ws false (up n)->Chg mb mg w.drew w'->Mid W G0 b z mb mg w' x v ws false (up n)):=fun w' k1 k2=>h.drew.memb k2 k1
 have HT:Hid (∀ w',Mid W G0 b z mb mg w' x v ws false (up n)->Calls Tryz.prog 90 #[.pointer (some ⟨b,0,none⟩),.int .i64 3,.func (.func 115) #[] #[]] w' fun e w'=>e=.returned (.tuple #[])/\Mid W G0 b z mb mg w' { x with part:=3 } { v with nx:=fnV 115 } ws false (up n)):=fun w' k=>ab4 k 3 rfl 115
 obtain⟨h0,h1,h2,h3,h4,h5⟩:=h.plan rfl rfl;have h13:w.cell? ⟨b,13,none⟩=some (.int .u64 x.tick):=(h.cell 13).trans rfl;have hb:=h.ltB;have HPL:Hid (∀ w',Mid W G0 b z mb mg w' x v ws false (up n)->(w'.cell? ⟨b,0,none⟩=some (.int .i64 0)/\w'.cell? ⟨b,1,none⟩=some (.int .i64 1)/\w'.cell? ⟨b,2,none⟩=some (.int .i64 2)/\w'.cell? ⟨b,3,none⟩=some (.int .i64 3)/\w'.cell? ⟨b,4,none⟩=some (.int .i64 (3+x.b))/\w'.cell? ⟨b,5,none⟩=some (.int .i64 (3+x.b+3*x.a)))/\w'.cell? ⟨b,13,none⟩=some (.int .u64 x.tick)):=fun w' k=>⟨k.plan rfl rfl,(k.cell 13).trans rfl⟩
 clear h f1 f2 f3 f4 f5 hE hl his
 generalize 3+x.b+3*x.a=p5 at *
 generalize 3+x.b=p4 at *
 go_enter Tryz.func107,Tryz.ntmps107;go_wp2_with fail;refine a06 (fun u=>(u.cell? ⟨b,0,none⟩=some (.int .i64 0)/\u.cell? ⟨b,1,none⟩=some (.int .i64 1)/\u.cell? ⟨b,2,none⟩=some (.int .i64 2)/\u.cell? ⟨b,3,none⟩=some (.int .i64 3)/\u.cell? ⟨b,4,none⟩=some (.int .i64 p4)/\u.cell? ⟨b,5,none⟩=some (.int .i64 p5))/\u.cell? ⟨b,13,none⟩=some (.int .u64 x.tick) )  ((0,true)::(1,true)::(2,true)::(3,true)::(4,true)::(5,true)::(6,true)::(7,true)::(8,true)::(9,false)::(10,true)::(11,true)::(12,true)::(13,true)::(14,true)::[])  Md.Cv.follows13 (by kernel_rfl) (fun _ _ _ _ _ h=>h)  ⟨⟨h0,h1,h2,h3,h4,h5⟩,h13⟩ ?_
 (repeat ((first | (refine a02 (v:=?_) rfl (by rfl) (fun wq hSq=>?_) ?_;rotate_left;(focus ((try dsimp only at hSq);go_simp;try with_reducible rfl))) | refine a03 rfl (by rfl) ?_);simp only[Act.put,zA,zB,zC]))
 (refine a04 rfl (by rfl) (fun KK hK=>?_);go_simp)
 refine HD.out.mono ?_;rintro e w1 ⟨rfl,k1,k2⟩;have HQ:=zH (HM.out _ k1 k2);have lb:=HQ.out.ltB;clear k1 k2 HD HM;refine hK.out _ _ (HPL.out _ HQ.out) ?_
 (clear hK KK;try simp only[Act.put,zA,zB,zC])
 (repeat ((first | (refine a02 (v:=?_) rfl (by rfl) (fun wq hSq=>?_) ?_;rotate_left;(focus ((try dsimp only at hSq);go_simp;try with_reducible rfl))) | refine a03 rfl (by rfl) ?_);simp only[Act.put,zA,zB,zC]))
 refine a13 ?_
 cases is
 ·go_wp2_with fail
  go_end0
  exact⟨rfl,HQ.out⟩
 ·go_wp2_with (go_at_call 90;refine(HT.out _ HQ.out).mono ?_;rintro e w2 ⟨rfl,k⟩;have HR:=zH k;clear k HT)
  go_end0
  exact⟨rfl,HR.out⟩
theorem aD7 (h:Mid W G0 b z mb mg w x v ws true n) (hl:2<(ws.length:Int)):Calls Tryz.prog 115 #[.pointer (some ⟨b,0,none⟩),.pointer (some ⟨mb,0,none⟩)] w fun e w'=>e=.returned (.tuple #[])/\Mid W G0 b z mb mg w' { x with stamp:=wordAt ws 2,part:=4 } { v with nx:=fnV 126 } ws false (up n):=by
 have hE:errA ws true 2=0:=aa0 (by omega) hl;obtain⟨f1,f2,f3,f4,_⟩:=Md.Cv.ok_facts hE;obtain⟨y,hy⟩:∃ y,wordAt ws 2=y:=⟨_,rfl⟩
 have HD:=zH (Md.Cv.stampM_any h.mem 0 1 2 3 (3+x.b) (3+x.b+3*x.a));unfold Md.Cv.plnV at HD;rw[hE,f2,f3,f4,hy]at HD;rw[hy];have HM:Hid (∀ w',MemAt 106 w' mb mg ws false (up n)->Chg mb mg w w'->Mid W G0 b z mb mg w' x v ws false (up n)):=fun w' k1 k2=>h.memb k2 k1
 have HP:Hid (∀ w',Mid W G0 b z mb mg w' x v ws false (up n)->Mid W G0 b z mb mg (w'.setCell ⟨b,14,none⟩ (.int .u64 y)) { x with stamp:=y } v ws false (up n)):=fun w' k=>k.put 14 _ { x with stamp:=y } v rfl ⟨rfl,rfl,rfl⟩ ⟨rfl,rfl,rfl,rfl,rfl,rfl,rfl⟩
 have HT:Hid (∀ w',Mid W G0 b z mb mg w' { x with stamp:=y } v ws false (up n)->Calls Tryz.prog 90 #[.pointer (some ⟨b,0,none⟩),.int .i64 4,.func (.func 126) #[] #[]] w' fun e w'=>e=.returned (.tuple #[])/\Mid W G0 b z mb mg w' { x with stamp:=y,part:=4 } { v with nx:=fnV 126 } ws false (up n)):=fun w' k=>ab4 k 4 rfl 126
 obtain⟨h0,h1,h2,h3,h4,h5⟩:=h.plan rfl rfl;have hb:=h.ltB;clear h f1 f2 f3 f4 hE hl hy
 generalize 3+x.b+3*x.a=p5 at *
 generalize 3+x.b=p4 at *
 go_enter Tryz.func115,Tryz.ntmps115
 go_wp2_with (first
  | (go_at_call 90;refine(HT.out _ (HP.out _ HQ.out)).mono ?_;rintro e w2 ⟨rfl,k⟩;have HR:=zH k;clear k HT)
  | (go_at_call 125;refine HD.out.mono ?_;rintro e w1 ⟨rfl,k1,k2⟩;have HQ:=zH (HM.out _ k1 k2);have e14:w1.cell? ⟨b,14,none⟩=some (.int .u64 x.stamp):=(HQ.out.cell 14).trans rfl;have f14:=HQ.out.free 14;have lb:=HQ.out.ltB;clear k1 k2 HD HM))
 go_end0
 exact⟨rfl,HR.out⟩
theorem publish_any (h:Mid W G0 b z mb mg w x v ws true n) (hl:2<(ws.length:Int)):Calls Tryz.prog 175 #[.pointer (some ⟨b,0,none⟩),.pointer (some ⟨mb,0,none⟩)] w fun e w'=>e=.returned (.tuple #[])/\Mid W G0 b z mb mg w' { x with part:=8 } { v with nx:=fnV 139,nb:=Md.Cv.passV x.stamp } (ws.set 2 (Md.Cv.passV x.stamp)) false (up n):=by
 have hE:errA ws true 2=0:=aa0 (by omega) hl;obtain⟨f1,f2,f3,f4,_⟩:=Md.Cv.ok_facts hE;have HN:Hid (Calls Tryz.prog 177 #[.pointer (some ⟨b,0,none⟩)] w fun e w'=>e=.returned (.int .u64 (Md.Cv.passV x.stamp))/\w'=w):=an7 h;obtain⟨y,hy⟩:∃ y,Md.Cv.passV x.stamp=y:=⟨_,rfl⟩
 rw[hy]at HN ⊢;clear hy;have H1:=h.put 19 (.int .u64 y) x { v with nb:=y } rfl ⟨rfl,rfl,rfl⟩ ⟨rfl,rfl,rfl,rfl,rfl,rfl,rfl⟩;have h19:w.cell? ⟨b,19,none⟩=some (.int .u64 v.nb):=(h.cell 19).trans rfl;have f19:=h.free 19;have hb:=h.ltB;obtain⟨w1,hw1⟩:∃ w1,w1=w.setCell ⟨b,19,none⟩ (.int .u64 y):=⟨_,rfl⟩
 rw[<- hw1]at H1;have HD:=zH (Md.Cv.publish_any H1.drew.mem 0 1 2 3 (3+x.b) (3+x.b+3*x.a) y);unfold Md.Cv.plnV at HD;obtain⟨ws',hws⟩:∃ ws',ws.set 2 y=ws':=⟨_,rfl⟩
 rw[hE,f1,f2,f3,show ws.set (Int.toNat 2) y=ws' from hws]at HD;rw[hws];have HM:Hid (∀ w',MemAt 106 w' mb mg ws' false (up n)->Chg mb mg w1.drew w'->Mid W G0 b z mb mg w' x { v with nb:=y } ws' false (up n)):=fun w' k1 k2=>H1.drew.memb k2 k1
 have HT:Hid (∀ w',Mid W G0 b z mb mg w' x { v with nb:=y } ws' false (up n)->Calls Tryz.prog 90 #[.pointer (some ⟨b,0,none⟩),.int .i64 8,.func (.func 139) #[] #[]] w' fun e w'=>e=.returned (.tuple #[])/\Mid W G0 b z mb mg w' { x with part:=8 } { v with nx:=fnV 139,nb:=y } ws' false (up n)):=fun w' k=>ab4 k 8 rfl 139
 obtain⟨h0,h1,h2,h3,h4,h5⟩:=H1.plan rfl rfl;have e19:w1.cell? ⟨b,19,none⟩=some (.int .u64 y):=(H1.cell 19).trans rfl;have hb1:=H1.ltB;have HPL:Hid (∀ w',Mid W G0 b z mb mg w' x { v with nb:=y } ws' false (up n)->(w'.cell? ⟨b,0,none⟩=some (.int .i64 0)/\w'.cell? ⟨b,1,none⟩=some (.int .i64 1)/\w'.cell? ⟨b,2,none⟩=some (.int .i64 2)/\w'.cell? ⟨b,3,none⟩=some (.int .i64 3)/\w'.cell? ⟨b,4,none⟩=some (.int .i64 (3+x.b))/\w'.cell? ⟨b,5,none⟩=some (.int .i64 (3+x.b+3*x.a)))/\w'.cell? ⟨b,19,none⟩=some (.int .u64 y)):=fun w' k=>⟨k.plan rfl rfl,(k.cell 19).trans rfl⟩
 have HW1:=zH hw1;clear h H1 f1 f2 f3 f4 hE hl hws hw1
 generalize 3+x.b+3*x.a=p5 at *
 generalize 3+x.b=p4 at *
 go_enter Tryz.func175,Tryz.ntmps175
 go_wp2_with (go_at_call 177;refine HN.out.mono ?_;rintro e u1 ⟨rfl,hw⟩;subst u1;clear HN)
 rw[<- HW1.out];clear HW1;refine a06 (fun u=>(u.cell? ⟨b,0,none⟩=some (.int .i64 0)/\u.cell? ⟨b,1,none⟩=some (.int .i64 1)/\u.cell? ⟨b,2,none⟩=some (.int .i64 2)/\u.cell? ⟨b,3,none⟩=some (.int .i64 3)/\u.cell? ⟨b,4,none⟩=some (.int .i64 p4)/\u.cell? ⟨b,5,none⟩=some (.int .i64 p5))/\u.cell? ⟨b,19,none⟩=some (.int .u64 y) )  ((0,true)::(1,true)::(2,true)::(3,true)::(4,true)::(5,true)::(6,true)::(7,true)::(8,true)::(9,false)::[])  Md.Cv.follows13 (by kernel_rfl) (fun _ _ _ _ _ h=>h)  ⟨⟨h0,h1,h2,h3,h4,h5⟩,e19⟩ ?_
 (repeat ((first | (refine a02 (v:=?_) rfl (by rfl) (fun wq hSq=>?_) ?_;rotate_left;(focus ((try dsimp only at hSq);go_simp;try with_reducible rfl))) | refine a03 rfl (by rfl) ?_);simp only[Act.put,zA,zB,zC]))
 (refine a04 rfl (by rfl) (fun KK hK=>?_);go_simp)
 refine HD.out.mono ?_;rintro e w2 ⟨rfl,k1,k2⟩;have HQ:=zH (HM.out _ k1 k2);have lb:=HQ.out.ltB;clear k1 k2 HD HM;refine hK.out _ _ (HPL.out _ HQ.out) ?_
 (clear hK KK;try simp only[Act.put,zA,zB,zC])
 refine a13 ?_
 go_wp2_with (go_at_call 90;refine(HT.out _ HQ.out).mono ?_;rintro e w3 ⟨rfl,k⟩;have HR:=zH k;clear k HT)
 go_end0
 exact⟨rfl,HR.out⟩
theorem pass_any (h:Mid W G0 b z mb mg w x v ws true n) (hl:1<(ws.length:Int)):Calls Tryz.prog 139 #[.pointer (some ⟨b,0,none⟩),.pointer (some ⟨mb,0,none⟩)] w fun e w'=>e=.returned (.tuple #[])/\Mid W G0 b z mb mg w' { x with part:=9 } { v with nx:=.nilFunc } (ws.set 1 (Md.Cv.passV x.tick)) false (up n):=by
 have hE:errA ws true 1=0:=aa0 (by omega) hl;obtain⟨f1,f2,f3,f4,_⟩:=Md.Cv.ok_facts hE;have HD:=zH (Md.Ct.pass_any h.drew.mem 0 1 2 3 (3+x.b) (3+x.b+3*x.a) x.tick);unfold Md.Ct.plnV at HD;obtain⟨ws',hws⟩:∃ ws',ws.set 1 (Md.Cv.passV x.tick)=ws':=⟨_,rfl⟩
 rw[hE,f1,f2,f3,show ws.set (Int.toNat 1) (Md.Ct.passV x.tick)=ws' from hws]at HD;rw[hws];have HM:Hid (∀ w',MemAt 106 w' mb mg ws' false (up n)->Chg mb mg w.drew w'->Mid W G0 b z mb mg w' x v ws' false (up n)):=fun w' k1 k2=>h.drew.memb k2 k1
 have HT:Hid (∀ w',Mid W G0 b z mb mg w' x v ws' false (up n)->Calls Tryz.prog 90 #[.pointer (some ⟨b,0,none⟩),.int .i64 9,.nilFunc] w' fun e w'=>e=.returned (.tuple #[])/\Mid W G0 b z mb mg w' { x with part:=9 } { v with nx:=.nilFunc } ws' false (up n)):=fun w' k=>aY1 k 9 rfl
 obtain⟨h0,h1,h2,h3,h4,h5⟩:=h.plan rfl rfl;have h13:w.cell? ⟨b,13,none⟩=some (.int .u64 x.tick):=(h.cell 13).trans rfl;have hb:=h.ltB;have HPL:Hid (∀ w',Mid W G0 b z mb mg w' x v ws' false (up n)->(w'.cell? ⟨b,0,none⟩=some (.int .i64 0)/\w'.cell? ⟨b,1,none⟩=some (.int .i64 1)/\w'.cell? ⟨b,2,none⟩=some (.int .i64 2)/\w'.cell? ⟨b,3,none⟩=some (.int .i64 3)/\w'.cell? ⟨b,4,none⟩=some (.int .i64 (3+x.b))/\w'.cell? ⟨b,5,none⟩=some (.int .i64 (3+x.b+3*x.a)))/\w'.cell? ⟨b,13,none⟩=some (.int .u64 x.tick)):=fun w' k=>⟨k.plan rfl rfl,(k.cell 13).trans rfl⟩
 clear h f1 f2 f3 f4 hE hl hws
 generalize 3+x.b+3*x.a=p5 at *
 generalize 3+x.b=p4 at *
 go_enter Tryz.func139,Tryz.ntmps139;go_wp2_with fail;refine a06 (fun u=>(u.cell? ⟨b,0,none⟩=some (.int .i64 0)/\u.cell? ⟨b,1,none⟩=some (.int .i64 1)/\u.cell? ⟨b,2,none⟩=some (.int .i64 2)/\u.cell? ⟨b,3,none⟩=some (.int .i64 3)/\u.cell? ⟨b,4,none⟩=some (.int .i64 p4)/\u.cell? ⟨b,5,none⟩=some (.int .i64 p5))/\u.cell? ⟨b,13,none⟩=some (.int .u64 x.tick) )  ((0,true)::(1,true)::(2,true)::(3,true)::(4,true)::(5,true)::(6,true)::(7,true)::(8,true)::(9,false)::[])  Md.Cv.follows13 (by kernel_rfl) (fun _ _ _ _ _ h=>h)  ⟨⟨h0,h1,h2,h3,h4,h5⟩,h13⟩ ?_
 (repeat ((first | (refine a02 (v:=?_) rfl (by rfl) (fun wq hSq=>?_) ?_;rotate_left;(focus ((try dsimp only at hSq);go_simp;try with_reducible rfl))) | refine a03 rfl (by rfl) ?_);simp only[Act.put,zA,zB,zC]))
 (refine a04 rfl (by rfl) (fun KK hK=>?_);go_simp)
 refine HD.out.mono ?_;rintro e w1 ⟨rfl,k1,k2⟩;have HQ:=zH (HM.out _ k1 k2);have lb:=HQ.out.ltB;clear k1 k2 HD HM;refine hK.out _ _ (HPL.out _ HQ.out) ?_
 (clear hK KK;try simp only[Act.put,zA,zB,zC])
 refine a13 ?_
 go_wp2_with (go_at_call 90;refine(HT.out _ HQ.out).mono ?_;rintro e w2 ⟨rfl,k⟩;have HR:=zH k;clear k HT)
 go_end0
 exact⟨rfl,HR.out⟩
end
attribute [local go_sem] a00 Md.Ce.run_store_func Md.Ce.run_store_nilFunc
theorem bu0 (a b c:Int) (w:World):(Instr.field 46 (.agg #[.int .i64 a,.int .i64 b,.int .i64 c]) 0).run Tryz.prog w=.ok (.int .i64 a) w:=by kernel_rfl
attribute [local go_sem] bu0
section
variable {W w:World} {G0:List Nat} {b mb mg:Nat} {x:Wx} {z:Wz} {v:Wv} {ws:List Int} {o:Bool} {n:Int}
theorem aa5 (h:Mid W G0 b z mb mg w x v ws true n) (ha:1<=x.a/\x.a<=256) (hb8:1<=x.b/\x.b<=8) (hl:plY x<=(ws.length:Int)) {c:Int} (h0:0<=c) (h1:c<x.a) {y:Nat} (hy:nowN x ws c=y):Calls Tryz.prog 130 #[.pointer (some ⟨b,0,none⟩),.pointer (some ⟨mb,0,none⟩),.int .i64 c] w fun e w'=>e=.returned (.float .f64 y)/\Mid W G0 b z mb mg w' x v ws false (up n)/\Chg mb mg w w':=by
 obtain⟨f1,f2,f3,f4⟩:=bw8 ha hb8 hl h0 h1 n;have HD:=zH (Md.Ce.cnow_any h.mem 0 1 2 3 (3+x.b) (3+x.b+3*x.a) c);unfold Md.Ce.planV at HD;rw[f2,f3,f4,f1,hy]at HD;have HM:Hid (∀ w',MemAt 106 w' mb mg ws false (up n)->Chg mb mg w w'->Mid W G0 b z mb mg w' x v ws false (up n)/\Chg mb mg w w'):=fun w' k1 k2=>⟨h.memb k2 k1,k2⟩
 obtain⟨h0,h1,h2,h3,h4,h5⟩:=h.plan rfl rfl;have hb:=h.ltB;clear h f1 f2 f3 f4 hl ha hb8 hy
 generalize 3+x.b+3*x.a=p5 at *
 generalize 3+x.b=p4 at *
 go_enter Tryz.func130,Tryz.ntmps130
 go_wp2_with (go_at_call 138;refine HD.out.mono ?_;rintro e w1 ⟨rfl,k1,k2⟩;have HQ:=zH (HM.out _ k1 k2);clear k1 k2 HD HM)
 go_ret;exact⟨rfl,HQ.out⟩
theorem bB6 (h:Mid W G0 b z mb mg w x v ws o n) (hh:(x.m.how != 1)=true):Calls Tryz.prog 131 #[.pointer (some ⟨b,0,none⟩)] w fun e w'=>e=.returned (.tuple #[])/\Mid W G0 b z mb mg w' { x with part:=8 } { v with nx:=fnV 139 } ws o n:=by
 have HE:Hid (Calls Tryz.prog 101 #[.pointer (some ⟨z.bm,0,none⟩)] w fun e w'=>e=.returned (.agg #[.int .i64 x.m.how,.int .i64 x.m.cod,.int .i64 x.m.err])/\Bl w w'):=Go.Proofs.YtipakfjpfjehmaaGreatDoor.end_any h.raw.mac.gm;have HT:Hid (∀ w',Bl w w'->Calls Tryz.prog 90 #[.pointer (some ⟨b,0,none⟩),.int .i64 8,.func (.func 139) #[] #[]] w' fun e w'=>e=.returned (.tuple #[])/\Mid W G0 b z mb mg w' { x with part:=8 } { v with nx:=fnV 139 } ws o n):=fun w' k=>ab4 (h.on k) 8 rfl 139
 have h9:w.cell? ⟨b,9,none⟩=some (.pointer (some ⟨z.bm,0,none⟩)):=(h.cell 9).trans rfl;have hb:=h.ltB;clear h
 generalize x.m.how=hw at HE hh
 generalize x.m.cod=cd at HE
 generalize x.m.err=er at HE
 go_enter Tryz.func131,Tryz.ntmps131
 go_wp2_with (first
  | (go_at_call 90;refine(HT.out _ HQ.out).mono ?_;rintro e w2 ⟨rfl,k⟩;have HR:=zH k;clear k HT)
  | (go_at_call 101;refine HE.out.mono ?_;rintro e w1 ⟨rfl,k⟩;have HQ:=zH k;clear k HE))
 refine bodyPost_ret (results_none rfl _ _ _) rfl ?_;exact⟨rfl,HR.out⟩
theorem bo7 (h:Mid W G0 b z mb mg w x v ws o n) (hh:(x.m.how != 1)=false):Calls Tryz.prog 131 #[.pointer (some ⟨b,0,none⟩)] w fun e w'=>e=.returned (.tuple #[])/\Hid (∃ i,Mid W G0 b z mb mg w' { x with part:=5 } { v with nx:=fnV 141,qs:=some i,s:=⟨3,x.b,x.stamp,0,0⟩ } ws o n):=by
 have HE:Hid (Calls Tryz.prog 101 #[.pointer (some ⟨z.bm,0,none⟩)] w fun e w'=>e=.returned (.agg #[.int .i64 x.m.how,.int .i64 x.m.cod,.int .i64 x.m.err])/\Bl w w'):=Go.Proofs.YtipakfjpfjehmaaGreatDoor.end_any h.raw.mac.gm;have HM:=zH h;have HL:Hid (∀ u,Calls Tryz.prog 140 #[.agg #[.int .i64 0,.int .i64 1,.int .i64 2,.int .i64 3,.int .i64 (3+x.b),.int .i64 (3+x.b+3*x.a)],.int .i64 x.b,.int .u64 x.stamp] u fun e w'=>∃ i,e=.returned (.pointer (some ⟨i,0,none⟩))/\u.heap.size<=i/\Md.Cv.ScAt w' i ⟨3,x.b,x.stamp,0,0⟩/\Bl u w'):=fun u=>Md.Cv.look_any 0 1 2 3 (3+x.b) (3+x.b+3*x.a) x.b x.stamp u
 have HT:Hid (∀ i w',Mid W G0 b z mb mg w' x { v with qs:=some i,s:=⟨3,x.b,x.stamp,0,0⟩ } ws o n->Calls Tryz.prog 90 #[.pointer (some ⟨b,0,none⟩),.int .i64 5,.func (.func 141) #[] #[]] w' fun e w'=>e=.returned (.tuple #[])/\Mid W G0 b z mb mg w' { x with part:=5 } { v with nx:=fnV 141,qs:=some i,s:=⟨3,x.b,x.stamp,0,0⟩ } ws o n):=fun i w' k=>ab4 k 5 rfl 141
 have h9:w.cell? ⟨b,9,none⟩=some (.pointer (some ⟨z.bm,0,none⟩)):=(h.cell 9).trans rfl;have hb:=h.ltB;have HPL:Hid (∀ w' v',Mid W G0 b z mb mg w' x v' ws o n->(w'.cell? ⟨b,0,none⟩=some (.int .i64 0)/\w'.cell? ⟨b,1,none⟩=some (.int .i64 1)/\w'.cell? ⟨b,2,none⟩=some (.int .i64 2)/\w'.cell? ⟨b,3,none⟩=some (.int .i64 3)/\w'.cell? ⟨b,4,none⟩=some (.int .i64 (3+x.b))/\w'.cell? ⟨b,5,none⟩=some (.int .i64 (3+x.b+3*x.a)))/\w'.cell? ⟨b,6,none⟩=some (.int .i64 x.b)/\w'.cell? ⟨b,14,none⟩=some (.int .u64 x.stamp)):=fun w' v' k=>⟨k.plan rfl rfl,(k.cell 6).trans rfl,(k.cell 14).trans rfl⟩
 clear h
 generalize x.m.how=hw at HE hh
 generalize x.m.cod=cd at HE
 generalize x.m.err=er at HE
 generalize 3+x.b+3*x.a=p5 at *
 generalize 3+x.b=p4 at *
 go_enter Tryz.func131,Tryz.ntmps131
 go_wp2_with (go_at_call 101;refine HE.out.mono ?_;rintro e w1 ⟨rfl,k⟩;have HQ:=zH (HM.out.on k);clear k HE)
 clear h9 hb HM;obtain⟨⟨h0,h1,h2,h3,h4,h5⟩,h6,h14⟩:=HPL.out _ _ HQ.out;have hb:=HQ.out.ltB;refine a06 (fun u=>(u.cell? ⟨b,0,none⟩=some (.int .i64 0)/\u.cell? ⟨b,1,none⟩=some (.int .i64 1)/\u.cell? ⟨b,2,none⟩=some (.int .i64 2)/\u.cell? ⟨b,3,none⟩=some (.int .i64 3)/\u.cell? ⟨b,4,none⟩=some (.int .i64 p4)/\u.cell? ⟨b,5,none⟩=some (.int .i64 p5))/\u.cell? ⟨b,6,none⟩=some (.int .i64 x.b)/\u.cell? ⟨b,14,none⟩=some (.int .u64 x.stamp) )  ((0,true)::(1,true)::(2,true)::(3,true)::(4,true)::(5,true)::(6,true)::(7,true)::(8,true)::(9,true)::(10,true)::(11,true)::(12,true)::(13,false)::(14,true)::(15,true)::(16,false)::[])  Md.Cv.follows13 (by kernel_rfl) (fun _ _ _ _ _ h=>h)  ⟨⟨h0,h1,h2,h3,h4,h5⟩,h6,h14⟩ ?_
 (repeat ((first | (refine a02 (v:=?_) rfl (by rfl) (fun wq hSq=>?_) ?_;rotate_left;(focus ((try dsimp only at hSq);go_simp;try with_reducible rfl))) | refine a03 rfl (by rfl) ?_);simp only[Act.put,zA,zB,zC]))
 (refine a04 rfl (by rfl) (fun KK hK=>?_);go_simp)
 refine(HL.out _).mono ?_;rintro e w2 ⟨i0,rfl,k1,k2,k3⟩;have HV:=zH (HQ.out.drew.on k3);have HN:=zH (HQ.out.drew.scanNew k3 k1 k2);have e16:w2.cell? ⟨b,16,none⟩=some (ptrV v.qs):=(HV.out.cell 16).trans rfl;have f16:=HV.out.free 16;have lb:=HV.out.ltB;clear k1 k2 k3;refine hK.out _ _ (HPL.out _ _ HV.out) ?_
 (clear hK KK;try simp only[Act.put,zA,zB,zC])
 (repeat ((first | (refine a02 (v:=?_) rfl (by rfl) (fun wq hSq=>?_) ?_;rotate_left;(focus ((try dsimp only at hSq);go_simp;try with_reducible rfl))) | refine a03 rfl (by rfl) ?_);simp only[Act.put,zA,zB,zC]))
 (refine a04 rfl (by rfl) (fun KK hK=>?_);go_simp)
 refine hK.out _ _ (HPL.out _ _ HN.out) ?_
 (clear hK KK;try simp only[Act.put,zA,zB,zC])
 refine a13 ?_
 go_wp2_with (go_at_call 90;refine(HT.out _ _ HN.out).mono ?_;rintro e w3 ⟨rfl,k⟩;have HR:=zH k;clear k HT)
 go_end0
 exact⟨rfl,i0,HR.out⟩
theorem by7 (h:Mid W G0 b z mb mg w x v ws o n) (hT:a87 W G0) (hI:Inv x.m) {M:Mac} {A:Ask} (hM:(a07 x.m).1=M) (hA:(a07 x.m).2=A) (hk:A.kind=4) {Q:World->Prop} (HE:Hid (∀ u F,Mid W G0 b z mb mg u { x with m:=M } { v with F:=F } ws o n->Calls Tryz.prog 131 #[.pointer (some ⟨b,0,none⟩)] u fun e w'=>e=.returned (.tuple #[])/\Q w')):Calls Tryz.prog 126 #[.pointer (some ⟨b,0,none⟩),.pointer (some ⟨mb,0,none⟩)] w fun e w'=>e=.returned (.tuple #[])/\Q w':=by
 have HS:=zH (h.step hT hI hM hA);rw[hk]at HS;have h9:w.cell? ⟨b,9,none⟩=some (.pointer (some ⟨z.bm,0,none⟩)):=(h.cell 9).trans rfl;have hb:=h.ltB;clear h hM hA hT hI hk;go_enter Tryz.func126,Tryz.ntmps126
 go_wp2_with (first
  | (go_at_call 131;refine(HE.out _ _ HU.out).mono ?_;rintro e w3 ⟨rfl,k⟩;have HR:=zH k;clear k)
  | (go_at_call 128;refine HS.out.mono ?_;rintro e w1 ⟨rfl,k⟩;obtain⟨F,k⟩:=k.out;have HU:=zH (k.alloc (.cells #[.int .i64 4,.int .i64 A.cell,.float .f64 A.x,.bool A.first] 211));have lb:=k.ltB;clear k HS))
 go_end0
 exact⟨rfl,HR.out⟩
theorem bG5 (h:Mid W G0 b z mb mg w x v ws o n) (hT:a87 W G0) (hI:Inv x.m) {M:Mac} {A:Ask} (hM:(a07 x.m).1=M) (hA:(a07 x.m).2=A) (h1:(A.kind == 1)=false) (h3:(A.kind == 3)=false∨((A.kind == 3)=true/\A.first=false)) (h4:(A.kind == 4)=false):Calls Tryz.prog 126 #[.pointer (some ⟨b,0,none⟩),.pointer (some ⟨mb,0,none⟩)] w fun e w'=>e=.returned (.tuple #[])/\Hid (∃ F,Mid W G0 b z mb mg w' { x with m:=M } { v with F:=F } ws o n):=by
 have HS:=zH (h.step hT hI hM hA);have h9:w.cell? ⟨b,9,none⟩=some (.pointer (some ⟨z.bm,0,none⟩)):=(h.cell 9).trans rfl;have hb:=h.ltB;clear h hM hA hT hI;obtain⟨ak,ac,ax,af⟩:=A;dsimp only at *
 rcases h3 with h3 | ⟨h3,rfl⟩
 ·go_enter Tryz.func126,Tryz.ntmps126
  go_wp2_with (go_at_call 128;refine HS.out.mono ?_;rintro e w1 ⟨rfl,k⟩;obtain⟨F,k⟩:=k.out;have HU:=zH (k.alloc (.cells #[.int .i64 ak,.int .i64 ac,.float .f64 ax,.bool af] 211));have lb:=k.ltB;clear k HS)
  go_end0
  exact⟨rfl,F,HU.out⟩
 ·go_enter Tryz.func126,Tryz.ntmps126
  go_wp2_with (go_at_call 128;refine HS.out.mono ?_;rintro e w1 ⟨rfl,k⟩;obtain⟨F,k⟩:=k.out;have HU:=zH (k.alloc (.cells #[.int .i64 ak,.int .i64 ac,.float .f64 ax,.bool false] 211));have lb:=k.ltB;clear k HS)
  go_end0
  exact⟨rfl,F,HU.out⟩
theorem bm3 (h:Mid W G0 b z mb mg w x v ws true n) (hT:a87 W G0) (hI:Inv x.m) (hI2:Inv (a07 x.m).1) (ha:1<=x.a/\x.a<=256) (hb8:1<=x.b/\x.b<=8) (hl:plY x<=(ws.length:Int)) {M:Mac} {A:Ask} (hM:(a07 x.m).1=M) (hA:(a07 x.m).2=A) (hk:A.kind=1) (h0:0<=A.cell) (h1:A.cell<x.a) {y:Nat} (hy:nowN x ws A.cell=y):Calls Tryz.prog 126 #[.pointer (some ⟨b,0,none⟩),.pointer (some ⟨mb,0,none⟩)] w fun e w'=>e=.returned (.tuple #[])/\Hid (∃ F,Mid W G0 b z mb mg w' { x with m:=a65 M y } { v with F:=F } ws false (up n)):=by
 have HS:=zH (h.step hT hI hM hA);rw[hk]at HS;have h9:w.cell? ⟨b,9,none⟩=some (.pointer (some ⟨z.bm,0,none⟩)):=(h.cell 9).trans rfl;have hb:=h.ltB;have HLD:Hid (∀ u F,Mid W G0 b z mb mg u { x with m:=M } { v with F:=F } ws true n->Calls Tryz.prog 130 #[.pointer (some ⟨b,0,none⟩),.pointer (some ⟨mb,0,none⟩),.int .i64 A.cell] u fun e w'=>e=.returned (.float .f64 y)/\Mid W G0 b z mb mg w' { x with m:=M } { v with F:=F } ws false (up n)/\Chg mb mg u w'):=fun u F k=>aa5 k ha hb8 hl h0 h1 hy
 have HGV:Hid (∀ u F,Mid W G0 b z mb mg u { x with m:=M } { v with F:=F } ws false (up n)->Calls Tryz.prog 129 #[.pointer (some ⟨z.bm,0,none⟩),.float .f64 y] u fun e w'=>e=.returned (.int .i64 (giveE M))/\Hid (∃ F,Mid W G0 b z mb mg w' { x with m:=a65 M y } { v with F:=F } ws false (up n))):=fun u F k=>k.give (hM ▸ hI2) y rfl
 generalize giveE M=gE at HGV
 clear h hM hA hT hI hk hl ha hb8 h0 h1 hy hI2;go_enter Tryz.func126,Tryz.ntmps126
 go_wp2_with (go_at_call 128;refine HS.out.mono ?_;rintro e w1 ⟨rfl,k⟩;obtain⟨F,k⟩:=k.out;have HQ:=zH k;have lb:=k.ltB;clear k HS)
 obtain⟨w2,hw2⟩:∃ w2,w2=w1.alloc (.cells #[.int .i64 1,.int .i64 A.cell,.float .f64 A.x,.bool A.first] 211):=⟨_,rfl⟩
 rw[<- hw2];have HU:=zH ((HQ.out.alloc (.cells #[.int .i64 1,.int .i64 A.cell,.float .f64 A.x,.bool A.first] 211)).drew);rw[<- hw2]at HU;have eA:w2.cell? ⟨w1.heap.size,1,none⟩=some (.int .i64 A.cell):=by rw[hw2];simp[go_sem]
 have lA:w1.heap.size<w2.heap.size:=by rw[hw2];simp
 have HNE:Hid (w1.heap.size≠mb/\w1.heap.size≠mg):=⟨(HQ.out.new (zE _)).2.2.1,(HQ.out.new (zE _)).2.2.2⟩;clear hw2 HQ;have e9:w2.cell? ⟨b,9,none⟩=some (.pointer (some ⟨z.bm,0,none⟩)):=(HU.out.cell 9).trans rfl;have eb:b<w2.heap.size:=HU.out.ltB;refine a47 (fun u=>u.cell? ⟨b,9,none⟩=some (.pointer (some ⟨z.bm,0,none⟩))/\u.cell? ⟨w1.heap.size,1,none⟩=some (.int .i64 A.cell) )  ((0,true)::(1,true)::(2,true)::(3,true)::(4,true)::(5,true)::(6,true)::(7,true)::(8,false)::(9,false)::[])  Md.Cv.follows13 (by kernel_rfl) (fun _ _ _ _ _ h=>h)  ⟨e9,eA⟩ ?_
 (repeat (refine a33 (v:=?_) rfl (by rfl) (fun wq hSq=>?_) ?_;rotate_left;(focus ((try dsimp only at hSq);go_simp;try with_reducible rfl));simp only[Act.put,zA,zB,zC]))
 (refine a29 rfl (by rfl) (fun KK hK=>?_);go_simp)
 refine(HLD.out _ _ HU.out).mono ?_;rintro e w3 ⟨rfl,k1,k2⟩;have HV:=zH k1;have g9:w3.cell? ⟨b,9,none⟩=some (.pointer (some ⟨z.bm,0,none⟩)):=(k1.cell 9).trans rfl;have gA:w3.cell? ⟨w1.heap.size,1,none⟩=some (.int .i64 A.cell):=(Md.Cv.cell_kept (k2.block _ lA HNE.out.1 HNE.out.2) 1).trans eA;clear k1 k2;refine hK.out _ _ (fun _=>⟨g9,gA⟩) ?_
 (clear hK KK;try simp only[Act.put,zA,zB,zC])
 (refine a29 rfl (by rfl) (fun KK hK=>?_);go_simp)
 refine(HGV.out _ _ HV.out).mono ?_;rintro e w4 ⟨rfl,k⟩;refine hK.out _ _ (fun hn=>absurd rfl hn) ?_
 (clear hK KK;try simp only[Act.put,zA,zB,zC])
 refine a78 ?_;go_wp2_with fail
 go_end0
 exact⟨rfl,k.out⟩
theorem Mid.hads2 (h:Mid W G0 b z mb mg w x v ws o n) {k:Nat} (hk:x.was.length=k) {ob:Obj} {w3:World} {u:Value} {y:Nat} (hown:w3.ownsRow 0 49 1 u (k+1) (fls x.was ++ [.float .f64 y])) (hg:(w.alloc ob).grownBy w3 (Value.slice v.ph k v.ch).ownBlock) (hat:u.ownBlock=(Value.slice v.ph k v.ch).ownBlock∨u.ownBlock=some (w.alloc ob).heap.size) :
  ∃ p' c',u=.slice p' (k+1) c'/\w3.heap[b]?=some (.cells (boxY x z v) 159 (0,0))/\Mid W G0 b z mb mg (w3.setCell ⟨b,15,none⟩ (.slice p' (k+1) c')) { x with was:=x.was ++ [y] } { v with ph:=p',ch:=c' } ws o n:=by
 subst hk;obtain⟨p',c',e,k1,k2⟩:=h.hads hown ((World.grownBy_alloc w ob _).trans hg) (hat.imp id fun q=>⟨_,q,by simp⟩);exact⟨p',c',e,k1,e ▸ k2⟩
theorem b98 (h:Mid W G0 b z mb mg w x v ws true n) (hT:a87 W G0) (hI:Inv x.m) (ha:1<=x.a/\x.a<=256) (hb8:1<=x.b/\x.b<=8) (hl:plY x<=(ws.length:Int)) (hfew:x.was.length<=1000) {M:Mac} {A:Ask} (hM:(a07 x.m).1=M) (hA:(a07 x.m).2=A) (hk:A.kind=3) (hf:A.first=true) (h0:0<=A.cell) (h1:A.cell<x.a) {y:Nat} (hy:nowN x ws A.cell=y):Calls Tryz.prog 126 #[.pointer (some ⟨b,0,none⟩),.pointer (some ⟨mb,0,none⟩)] w fun e w'=>e=.returned (.tuple #[])/\Hid (∃ F p' c',Mid W G0 b z mb mg w' { x with m:=M,was:=x.was ++ [y] } { v with F:=F,ph:=p',ch:=c' } ws false (up n)):=by
 have HS:=zH (h.step hT hI hM hA);rw[hk,hf]at HS;have h9:w.cell? ⟨b,9,none⟩=some (.pointer (some ⟨z.bm,0,none⟩)):=(h.cell 9).trans rfl;have hb:=h.ltB;have HLD:Hid (∀ u F,Mid W G0 b z mb mg u { x with m:=M } { v with F:=F } ws true n->Calls Tryz.prog 130 #[.pointer (some ⟨b,0,none⟩),.pointer (some ⟨mb,0,none⟩),.int .i64 A.cell] u fun e w'=>e=.returned (.float .f64 y)/\Mid W G0 b z mb mg w' { x with m:=M } { v with F:=F } ws false (up n)/\Chg mb mg u w'):=fun u F k=>aa5 k ha hb8 hl h0 h1 hy
 obtain⟨j,hj⟩:∃ j,x.was.length=j:=⟨_,rfl⟩
 have HJ:=zH hj;rw[hj]at hfew;have HC15:Hid (∀ u F ws o n,Mid W G0 b z mb mg u { x with m:=M } { v with F:=F } ws o n->u.cell? ⟨b,15,none⟩=some (.slice v.ph j v.ch)/\u.ownsRow 0 49 1 (.slice v.ph j v.ch) j (fls x.was)):=fun u F ws o n k=>⟨(k.cell 15).trans (by show some (Value.slice v.ph x.was.length v.ch)=_;rw[hj]),by
  have:=k.raw.had.own;dsimp only at this;rw[a32,hj]at this;exact this⟩
 obtain⟨i0,hi,hz0,hz1,hz2⟩:=info_parts aH2;have HZI:=zH (And.intro hi (And.intro hz0 (And.intro hz1 hz2)));clear h hM hA hT hI hk hl ha hb8 h0 h1 hy hf hi hz0 hz1 hz2 hj;go_enter Tryz.func126,Tryz.ntmps126
 go_wp2_with (go_at_call 128;refine HS.out.mono ?_;rintro e w1 ⟨rfl,k⟩;obtain⟨F,k⟩:=k.out;have HQ:=zH k;have lb:=k.ltB;clear k HS)
 obtain⟨w2,hw2⟩:∃ w2,w2=w1.alloc (.cells #[.int .i64 3,.int .i64 A.cell,.float .f64 A.x,.bool true] 211):=⟨_,rfl⟩
 rw[<- hw2];have HU:=zH ((HQ.out.alloc (.cells #[.int .i64 3,.int .i64 A.cell,.float .f64 A.x,.bool true] 211)).drew);rw[<- hw2]at HU;have eA:w2.cell? ⟨w1.heap.size,1,none⟩=some (.int .i64 A.cell):=by rw[hw2];simp[go_sem]
 have lA:w1.heap.size<w2.heap.size:=by rw[hw2];simp
 have HNE:Hid (w1.heap.size≠mb/\w1.heap.size≠mg):=⟨(HQ.out.new (zE _)).2.2.1,(HQ.out.new (zE _)).2.2.2⟩;have HNF:Hid (w1.heap.size∉fpR v.ph):=fun q=>(HQ.out.new (zE _)).1 (in_h q)
 clear hw2 HQ;have e15:w2.cell? ⟨b,15,none⟩=some (.slice v.ph j v.ch):=(HC15.out _ _ _ _ _ HU.out).1;have eb:b<w2.heap.size:=HU.out.ltB;refine a47 (fun u=>u.cell? ⟨b,15,none⟩=some (.slice v.ph j v.ch)/\u.cell? ⟨w1.heap.size,1,none⟩=some (.int .i64 A.cell) )  ((0,true)::(1,true)::(2,true)::(3,true)::(4,true)::(5,true)::(6,true)::(7,true)::(8,true)::(9,false)::(10,false)::(11,false)::(12,true)::(13,true)::(14,false)::[])  Md.Cv.follows13 (by kernel_rfl) (fun _ _ _ _ _ h=>h)  ⟨e15,eA⟩ ?_
 (repeat (refine a33 (v:=?_) rfl (by rfl) (fun wq hSq=>?_) ?_;rotate_left;(focus ((try dsimp only at hSq);go_simp;try with_reducible rfl));simp only[Act.put,zA,zB,zC]))
 (refine a29 rfl (by rfl) (fun KK hK=>?_);go_simp)
 refine(HLD.out _ _ HU.out).mono ?_;rintro e w3 ⟨rfl,k1,k2⟩;have HV:=zH k1;obtain⟨g15,OD⟩:=HC15.out _ _ _ _ _ k1;have HOD:=zH OD;have gA:w3.cell? ⟨w1.heap.size,1,none⟩=some (.int .i64 A.cell):=(Md.Cv.cell_kept (k2.block _ lA HNE.out.1 HNE.out.2) 1).trans eA;have l3:w1.heap.size<w3.heap.size:=zL lA k2.size;have b3:b<w3.heap.size:=k1.ltB;have HMR:Hid (∀ w4 v4 ob,w4.ownsRow 0 49 1 v4 (j+1) (fls x.was ++ [.float .f64 y])->(w3.alloc ob).grownBy w4 (Value.slice v.ph j v.ch).ownBlock->(v4.ownBlock=(Value.slice v.ph j v.ch).ownBlock∨v4.ownBlock=some (w3.alloc ob).heap.size)->∃ p' c',v4=.slice p' (j+1) c'/\w4.heap[b]?=some (.cells (boxY { x with m:=M } z { v with F:=F }) 159 (0,0))/\Mid W G0 b z mb mg (w4.setCell ⟨b,15,none⟩ (.slice p' (j+1) c')) { x with m:=M,was:=x.was ++ [y] } { v with F:=F,ph:=p',ch:=c' } ws false (up n)):=fun w4 v4 ob q1 q2 q3=>HV.out.hads2 HJ.out q1 q2 q3
 clear k1 k2 OD HC15;refine hK.out _ _ (fun _=>⟨g15,gA⟩) ?_
 (clear hK KK;try simp only[Act.put,zA,zB,zC])
 (refine a29 rfl (by rfl) (fun KK hK=>?_);go_simp)
 have g15a:(w3.alloc (.cells #[.float .f64 y] 49)).cell? ⟨b,15,none⟩=some (.slice v.ph j v.ch):=(World.cell?_alloc_old _ _ _ (Nat.ne_of_lt b3)).trans g15;have gAa:(w3.alloc (.cells #[.float .f64 y] 49)).cell? ⟨w1.heap.size,1,none⟩=some (.int .i64 A.cell):=(World.cell?_alloc_old _ _ _ (Nat.ne_of_lt l3)).trans gA;refine hK.out _ _ (fun _=>⟨g15a,gAa⟩) ?_
 (clear hK KK;try simp only[Act.put,zA,zB,zC])
 refine a29 rfl (by rfl) (fun KK hK=>?_);refine ar9 _ _ 24 24 rfl (.slice v.ph j v.ch) (.slice (some ⟨w3.heap.size,0,none⟩) 1 1) rfl rfl (run_append_own_at (P:=Tryz.prog) (w3.alloc (.cells #[.float .f64 y] 49)) 0 24 24 49 i0 (.float .f64 0) 1 8 Tryz.underlying24 HZI.out.1 HZI.out.2.1 HZI.out.2.2.1 HZI.out.2.2.2 rfl (by decide) _ j (fls x.was) (World.ownsRow.alloc (HOD.out) _) ⟨w3.heap.size,0,none⟩ 1 1 [.float .f64 y] rfl (cell_one_new w3 _ _) (fun u hu=>by simp at hu;subst hu;rfl) (by unfold maxLen;omega) (by omega) (zV _)) ?_;rintro v4 w4 ⟨hown4,hgrow4,hnil4,hat4⟩;have gB:w4.cell? ⟨w1.heap.size,1,none⟩=some (.int .i64 A.cell):=(Md.Cv.cell_kept (hgrow4.block _ (by simp;omega) (fun q=>HNF.out (a42.2 q.symm))) 1).trans gAa;obtain⟨p',c',hv4,k1,k2⟩:=HMR.out _ _ _ hown4 hgrow4 hat4;subst hv4;have c15:w4.cell? ⟨b,15,none⟩=some (.slice v.ph j v.ch):=by
  rw[zR w4 _ 15 _ _ _ k1]
  show some (Value.slice v.ph x.was.length v.ch)=_
  rw[HJ.out]
 have f15:=zZ w4 _ 15 _ _ k1;have b4:=lt_of_block k1;have HKK:=zH k2;clear hown4 hgrow4 hnil4 hat4 k1 k2 HMR;refine hK.out _ _ (fun _=>⟨c15,gB⟩) ?_
 (clear hK KK;try simp only[Act.put,zA,zB,zC])
 (repeat (refine a33 (v:=?_) rfl (by rfl) (fun wq hSq=>?_) ?_;rotate_left;(focus ((try dsimp only at hSq);go_simp;try with_reducible rfl));simp only[Act.put,zA,zB,zC]))
 (refine a29 rfl (by rfl) (fun KK hK=>?_);go_simp)
 refine hK.out _ _ (fun hn=>absurd rfl hn) ?_
 (clear hK KK;try simp only[Act.put])
 refine a78 ?_;go_wp2_with fail
 go_end0
 exact⟨rfl,F,p',c',HKK.out⟩
end
attribute [local go_sem] a00 Md.Ce.run_store_func Md.Ce.run_store_nilFunc
section
variable {W w:World} {G0:List Nat} {b mb mg:Nat} {x:Wx} {z:Wz} {v:Wv} {ws:List Int} {o:Bool} {n:Int}
theorem bc5 (h:Mid W G0 b z mb mg w x v ws o n) (hbg:v.bg=(x.m.buf.length:Int)):Calls Tryz.prog 153 #[.pointer (some ⟨b,0,none⟩)] w fun e w'=>e=.returned (.tuple #[])/\Mid W G0 b z mb mg w' { x with part:=7 } { v with nx:=fnV 175 } ws o n:=by
 have HW:Hid (Calls Tryz.prog 98 #[.pointer (some ⟨z.bm,0,none⟩)] w fun e w'=>e=.returned (.slice (some ⟨w.heap.size,0,none⟩) x.m.buf.length x.m.buf.length)/\TRow w' (some ⟨w.heap.size,0,none⟩) x.m.buf.length x.m.buf/\Bl w w'):=ak3 h.raw.mac.gm;have HT:Hid (∀ w',Bl w w'->Calls Tryz.prog 90 #[.pointer (some ⟨b,0,none⟩),.int .i64 7,.func (.func 175) #[] #[]] w' fun e w'=>e=.returned (.tuple #[])/\Mid W G0 b z mb mg w' { x with part:=7 } { v with nx:=fnV 175 } ws o n):=fun w' k=>ab4 (h.on k) 7 rfl 175
 have h9:w.cell? ⟨b,9,none⟩=some (.pointer (some ⟨z.bm,0,none⟩)):=(h.cell 9).trans rfl;have HC:Hid (∀ u,Bl w u->u.cell? ⟨b,17,none⟩=some (.int .i64 (x.m.buf.length:Int))/\b<u.heap.size):=fun u k=>⟨((h.on k).cell 17).trans (by show some (Value.int .i64 v.bg)=_;rw[hbg]),(h.on k).ltB⟩
 have hb:=h.ltB;clear h
 generalize x.m.buf.length=bl at *
 go_enter Tryz.func153,Tryz.ntmps153
 go_wp2_with (first
  | (go_at_call 90;refine(HT.out _ HQ.out).mono ?_;rintro e w2 ⟨rfl,k⟩;have HR:=zH k;clear k HT)
  | (go_at_call 98;refine HW.out.mono ?_;rintro e w1 ⟨rfl,k1,k2⟩;have HQ:=zH k2;obtain⟨e17,lb⟩:=HC.out _ k2;clear k1 k2 HW))
 refine bodyPost_ret (results_none rfl _ _ _) rfl ?_;exact⟨rfl,HR.out⟩
theorem aY5 (h:Mid W G0 b z mb mg w x v ws o n) (hI:InY x) {k:Nat} (hk:k<x.m.buf.length) (hbg:v.bg=(k:Int)):Calls Tryz.prog 153 #[.pointer (some ⟨b,0,none⟩)] w fun e w'=>e=.returned (.tuple #[])/\Hid (∃ i,Mid W G0 b z mb mg w' { x with part:=6 } { v with nx:=fnV 178,bg:=(k:Int)+1,qw:=some i,t:=wtK x k 0 } ws o n):=by
 have hfew:(x.m.buf.length:Int)<=32:=by have h1:=hI.rest.inv.few;have h2:=hI.rest.inv.wmax;omega
 have hwl:k<x.was.length:=by rw[hI.wlen];exact hk
 have HW:Hid (Calls Tryz.prog 98 #[.pointer (some ⟨z.bm,0,none⟩)] w fun e w'=>e=.returned (.slice (some ⟨w.heap.size,0,none⟩) x.m.buf.length x.m.buf.length)/\TRow w' (some ⟨w.heap.size,0,none⟩) x.m.buf.length x.m.buf/\Bl w w'):=ak3 h.raw.mac.gm;have HTC:Hid (∀ u,TRow u (some ⟨w.heap.size,0,none⟩) x.m.buf.length x.m.buf->w.heap.size<u.heap.size/\u.cell? ⟨w.heap.size,k*2,none⟩=some (.int .i64 (bufC x k))/\u.cell? ⟨w.heap.size,k*2+1,none⟩=some (.float .f64 (bufX x k))):=fun u q=>by
  obtain⟨g,e,l,c1,c2⟩:=bA9 q rfl k hk
  cases e
  exact⟨l,c1,c2⟩
 have h9:w.cell? ⟨b,9,none⟩=some (.pointer (some ⟨z.bm,0,none⟩)):=(h.cell 9).trans rfl;obtain⟨g,hph,_⟩:=Sx.row_getD h.raw.had k hwl;have HC:Hid (∀ u,Bl w u->Mid W G0 b z mb mg u x v ws o n/\(u.cell? ⟨b,0,none⟩=some (.int .i64 0)/\u.cell? ⟨b,1,none⟩=some (.int .i64 1)/\u.cell? ⟨b,2,none⟩=some (.int .i64 2)/\u.cell? ⟨b,3,none⟩=some (.int .i64 3)/\u.cell? ⟨b,4,none⟩=some (.int .i64 (3+x.b))/\u.cell? ⟨b,5,none⟩=some (.int .i64 (3+x.b+3*x.a)))/\u.cell? ⟨b,15,none⟩=some (.slice (some ⟨g,0,none⟩) x.was.length v.ch)/\u.cell? ⟨b,17,none⟩=some (.int .i64 (k:Int))/\u.cell? ⟨g,k,none⟩=some (.float .f64 (x.was.getD k 0))/\g<u.heap.size/\b<u.heap.size):=fun u q=>by
  have hu:=h.on q;obtain⟨g',e,l,c,_⟩:=Sx.row_getD hu.raw.had k hwl;rw[hph]at e
  cases e
  exact⟨hu,hu.plan rfl rfl,(hu.cell 15).trans (by show some (Value.slice v.ph x.was.length v.ch)=_;rw[hph]),(hu.cell 17).trans (by show some (Value.int .i64 v.bg)=_;rw[hbg]),c,l,hu.ltB⟩
 have HNS:Hid (∀ u,Bl w u->Calls Tryz.prog 177 #[.pointer (some ⟨b,0,none⟩)] u fun e w'=>e=.returned (.int .u64 (Md.Cv.passV x.stamp))/\w'=u):=fun u q=>an7 (h.on q)
 have HWR:Hid (∀ u,Calls Tryz.prog 176 #[.agg #[.int .i64 0,.int .i64 1,.int .i64 2,.int .i64 3,.int .i64 (3+x.b),.int .i64 (3+x.b+3*x.a)],.int .i64 (bufC x k),.int .u64 (Md.Cv.passV x.stamp),.float .f64 (x.was.getD k 0),.float .f64 (bufX x k)] u fun e w'=>∃ i,e=.returned (.pointer (some ⟨i,0,none⟩))/\u.heap.size<=i/\Md.Ce.WtAt w' i (wtK x k 0)/\Bl u w'):=fun u=>by
  have:=Md.Ce.write_any u 0 1 2 3 (3+x.b) (3+x.b+3*x.a) (bufC x k) (Md.Cv.passV x.stamp) (x.was.getD k 0) (bufX x k);rw[bw4 hI hk]at this;exact this
 have HT:Hid (∀ i w',Mid W G0 b z mb mg w' x { v with bg:=(k:Int)+1,qw:=some i,t:=wtK x k 0 } ws o n->Calls Tryz.prog 90 #[.pointer (some ⟨b,0,none⟩),.int .i64 6,.func (.func 178) #[] #[]] w' fun e w'=>e=.returned (.tuple #[])/\Mid W G0 b z mb mg w' { x with part:=6 } { v with nx:=fnV 178,bg:=(k:Int)+1,qw:=some i,t:=wtK x k 0 } ws o n):=fun i w' q=>ab4 q 6 rfl 178
 have HP:Hid (∀ i w',Mid W G0 b z mb mg w' x { v with qw:=some i,t:=wtK x k 0 } ws o n->Mid W G0 b z mb mg (w'.setCell ⟨b,17,none⟩ (.int .i64 ((k:Int)+1))) x { v with bg:=(k:Int)+1,qw:=some i,t:=wtK x k 0 } ws o n/\w'.cell? ⟨b,17,none⟩=some (.int .i64 (k:Int))/\w'.frozen? ⟨b,17,none⟩=false/\b<w'.heap.size):=fun i w' q=>⟨q.put 17 _ x _ rfl ⟨rfl,rfl,rfl⟩ ⟨rfl,rfl,rfl,rfl,rfl,rfl,rfl⟩,(q.cell 17).trans (by show some (Value.int .i64 v.bg)=_;rw[hbg]),q.free 17,q.ltB⟩
 have hb:=h.ltB;have hwl2:(k:Int)<(x.was.length:Int):=by omega
 have hk2:(k:Int)<(x.m.buf.length:Int):=by omega
 have hne:((k:Int) == (x.m.buf.length:Int))=false:=by simp;omega
 have hk32:(k:Int)<1000:=by omega
 clear h hI hbg hk hwl hph
 generalize x.m.buf.length=bl at *
 generalize x.was.length=wl at *
 generalize x.was.getD k 0=u0 at *
 generalize bufC x k=c0 at *
 generalize bufX x k=y0 at *
 generalize wtK x k 0=t0 at *
 generalize Md.Cv.passV x.stamp=s0 at *
 generalize 3+x.b+3*x.a=p5 at *
 generalize 3+x.b=p4 at *
 go_enter Tryz.func153,Tryz.ntmps153
 go_upto_region 4 with(go_at_call 98;refine HW.out.mono ?_;rintro e w1 ⟨rfl,k1,k2⟩;have HQ:=zH k2;obtain⟨lg,d0,d1⟩:=HTC.out _ k1;obtain⟨_,⟨h0,h1,h2,h3,h4,h5⟩,h15,h17,hg,lg2,lb⟩:=HC.out _ k2;clear k1 k2 HW HTC)
 clear h0 h1 h2 h3 h4 h5 h15 h17 hg lg2 lb h9;obtain⟨w2,hw2⟩:∃ w2,w2=w1.alloc (.cells #[.int .i64 c0,.float .f64 y0] 51):=⟨_,rfl⟩
 rw[<- hw2];have HB2:Hid (Bl w w2.drew):=by rw[hw2];exact(HQ.out.alloc HQ.out.size _).trans ((Same.drew _).below _)
 have a0:w2.cell? ⟨w1.heap.size,0,none⟩=some (.int .i64 c0):=by rw[hw2];simp[go_sem]
 have a1:w2.cell? ⟨w1.heap.size,1,none⟩=some (.float .f64 y0):=by rw[hw2];simp[go_sem]
 have la:w1.heap.size<w2.heap.size:=by rw[hw2];simp
 clear hw2 lg d0 d1 HQ;obtain⟨hm,⟨h0,h1,h2,h3,h4,h5⟩,h15,h17,hg,lg2,lb⟩:=HC.out _ HB2.out;have HM:=zH hm;clear hm;have lg3:g<w2.heap.size:=lg2;have lb3:b<w2.heap.size:=lb;refine a47 (fun u=>(u.cell? ⟨b,0,none⟩=some (.int .i64 0)/\u.cell? ⟨b,1,none⟩=some (.int .i64 1)/\u.cell? ⟨b,2,none⟩=some (.int .i64 2)/\u.cell? ⟨b,3,none⟩=some (.int .i64 3)/\u.cell? ⟨b,4,none⟩=some (.int .i64 p4)/\u.cell? ⟨b,5,none⟩=some (.int .i64 p5))/\u.cell? ⟨b,15,none⟩=some (.slice (some ⟨g,0,none⟩) wl v.ch)/\u.cell? ⟨b,17,none⟩=some (.int .i64 (k:Int))/\u.cell? ⟨g,k,none⟩=some (.float .f64 u0)/\u.cell? ⟨w1.heap.size,0,none⟩=some (.int .i64 c0)/\u.cell? ⟨w1.heap.size,1,none⟩=some (.float .f64 y0) )  ((0,true)::(1,true)::(2,true)::(3,true)::(4,true)::(5,true)::(6,true)::(7,true)::(9,true)::(10,true)::(11,true)::(12,true)::(13,true)::(14,true)::(15,true)::(16,true)::(17,true)::(18,true)::(19,true)::(20,true)::(8,false)::(21,false)::(22,true)::(23,true)::(24,false)::[])  Md.Cv.follows13 (by kernel_rfl) (fun _ _ _ _ _ h=>h)  ⟨⟨h0,h1,h2,h3,h4,h5⟩,h15,h17,hg,a0,a1⟩ ?_
 (repeat (refine a33 (v:=?_) rfl (by rfl) (fun wq hSq=>?_) ?_;rotate_left;(focus ((try dsimp only at hSq);go_simp;try with_reducible rfl));simp only[Act.put,zA,zB,zC]))
 (refine a29 rfl (by rfl) (fun KK hK=>?_);go_simp)
 refine(HNS.out _ HB2.out).mono ?_;rintro e u1 ⟨rfl,hw⟩;subst u1;refine hK.out _ _ (fun _=>⟨⟨h0,h1,h2,h3,h4,h5⟩,h15,h17,hg,a0,a1⟩) ?_
 (clear hK KK;try simp only[Act.put,zA,zB,zC])
 (refine a29 rfl (by rfl) (fun KK hK=>?_);go_simp)
 refine(HWR.out _).mono ?_;rintro e w3 ⟨i0,rfl,k1,k2,k3⟩;have HN:=zH (HM.out.writeNew k3 k1 k2);have HV:=zH (HM.out.on k3);obtain⟨q1,q2,q3,q4⟩:=HP.out _ _ HN.out;have HN2:=zH q1;have e18:w3.cell? ⟨b,18,none⟩=some (ptrV v.qw):=(HV.out.cell 18).trans rfl;have f18:=HV.out.free 18;have l18:=HV.out.ltB;have ck:∀ (g j:Nat) (y:Value),g<w2.heap.size->w2.cell? ⟨g,j,none⟩=some y->w3.cell? ⟨g,j,none⟩=some y:=fun g j y hg hv=>(k3.cell (p:=⟨g,j,none⟩) hg).trans hv
 refine hK.out _ _ (fun _=>⟨⟨ck _ _ _ lb3 h0,ck _ _ _ lb3 h1,ck _ _ _ lb3 h2,ck _ _ _ lb3 h3,ck _ _ _ lb3 h4,ck _ _ _ lb3 h5⟩,ck _ _ _ lb3 h15,ck _ _ _ lb3 h17,ck _ _ _ lg3 hg,ck _ _ _ la a0,ck _ _ _ la a1⟩) ?_;clear k1 k2 k3 ck q1
 (clear hK KK;try simp only[Act.put,zA,zB,zC])
 (repeat (refine a33 (v:=?_) rfl (by rfl) (fun wq hSq=>?_) ?_;rotate_left;(focus ((try dsimp only at hSq);go_simp;try with_reducible rfl));simp only[Act.put,zA,zB,zC]))
 (refine a29 rfl (by rfl) (fun KK hK=>?_);go_simp)
 refine hK.out _ _ (fun hn=>absurd rfl hn) ?_
 (clear hK KK;try simp only[Act.put])
 refine a78 ?_;clear h0 h1 h2 h3 h4 h5 h15 h17 hg lg2 lb a0 a1 la lg3 lb3 e18 f18 l18
 go_wp2_with (go_at_call 90;refine(HT.out _ _ HN2.out).mono ?_;rintro e w4 ⟨rfl,k⟩;have HR:=zH k;clear k HT)
 go_end0
 exact⟨rfl,i0,HR.out⟩
theorem aF3 (h:Mid W G0 b z mb mg w x v ws true n) {i0:Nat} (hq:v.qs=some i0) (hok:Md.Cv.SOk v.s) (hE:Md.Cv.sE v.s ws true=0) (hP:Md.Cv.sP v.s ws true=false) (hQ:Md.Cv.sQ v.s ws true n=up n) {s':Md.Cv.Ss} (hC:Md.Cv.sC v.s ws true=s') {dn:Bool} (hO:Md.Cv.sO v.s ws true=dn) {Q:World->Prop} (HQ:Hid (∀ u,Mid W G0 b z mb mg u x { v with s:=s' } ws false (up n)->dn=false->Q u)) (HN:Hid (∀ u,Mid W G0 b z mb mg u x { v with s:=s' } ws false (up n)->dn=true->Calls Tryz.prog 153 #[.pointer (some ⟨b,0,none⟩)] u fun e w'=>e=.returned (.tuple #[])/\Q w')):Calls Tryz.prog 141 #[.pointer (some ⟨b,0,none⟩),.pointer (some ⟨mb,0,none⟩)] w fun e w'=>e=.returned (.tuple #[])/\Q w':=by
 have HS:=zH (Md.Cv.sstep_any h.mem (h.raw.sc i0 hq) hok);rw[hE,hP,hQ,hC,hO]at HS;have HM:Hid (∀ w',MemAt 106 w' mb mg ws false (up n)->Md.Cv.ScAt w' i0 s'->Md.Cv.Ch3 mb mg i0 w w'->Mid W G0 b z mb mg w' x { v with s:=s' } ws false (up n)):=fun w' k1 k2 k3=>h.scans hq k3 k1 k2
 have h16:w.cell? ⟨b,16,none⟩=some (.pointer (some ⟨i0,0,none⟩)):=(h.cell 16).trans (by show some (ptrV v.qs)=_;rw[hq];rfl);have hb:=h.ltB;clear h hok hE hP hQ hC hO hq
 cases dn
 ·have HQ2:=zH (fun u k=>HQ.out u k rfl)
  clear HN HQ;go_enter Tryz.func141,Tryz.ntmps141
  go_wp2_with (go_at_call 152;refine HS.out.mono ?_;rintro e w1 ⟨rfl,k1,k2,k3⟩;have HR:=zH (HQ2.out _ (HM.out _ k1 k2 k3));clear k1 k2 k3 HS HM)
  go_end0
  exact⟨rfl,HR.out⟩
 ·have HN2:=zH (fun u k=>HN.out u k rfl)
  clear HN HQ;go_enter Tryz.func141,Tryz.ntmps141
  go_wp2_with (first
   | (go_at_call 153;refine(HN2.out _ HR.out).mono ?_;rintro e w2 ⟨rfl,k⟩;have HZ:=zH k;clear k HN2)
   | (go_at_call 152;refine HS.out.mono ?_;rintro e w1 ⟨rfl,k1,k2,k3⟩;have HR:=zH (HM.out _ k1 k2 k3);clear k1 k2 k3 HS HM))
  go_end0
  exact⟨rfl,HZ.out⟩
theorem write_any (h:Mid W G0 b z mb mg w x v ws true n) {i0:Nat} (hq:v.qw=some i0) (hE:Md.Ce.errW v.t ws true=0) {ws':List Int} (hL:Md.Ce.laidW v.t ws true=ws') (hO:Md.Ce.aftO (Md.Ce.errW v.t ws true) true=false) (hN:Md.Ce.aftN (Md.Ce.errW v.t ws true) n=up n) {t':Md.Ce.Wt} (hC:Md.Ce.stepW v.t ws true=t') {dn:Bool} (hD:Md.Ce.endW v.t ws true=dn) {Q:World->Prop} (HQ:Hid (∀ u,Mid W G0 b z mb mg u x { v with t:=t' } ws' false (up n)->dn=false->Q u)) (HN:Hid (∀ u,Mid W G0 b z mb mg u x { v with t:=t' } ws' false (up n)->dn=true->Calls Tryz.prog 153 #[.pointer (some ⟨b,0,none⟩)] u fun e w'=>e=.returned (.tuple #[])/\Q w')):Calls Tryz.prog 178 #[.pointer (some ⟨b,0,none⟩),.pointer (some ⟨mb,0,none⟩)] w fun e w'=>e=.returned (.tuple #[])/\Q w':=by
 have hne:i0≠mb/\i0≠mg:=by
  obtain⟨_,_,h3,_⟩:=h;exact⟨fun e=>h3 mb (by simp) (e ▸ in_w hq),fun e=>h3 mg (by simp) (e ▸ in_w hq)⟩
 have HS:=zH (Md.Ce.wstep_any h.mem (h.raw.wr i0 hq) hne.1 hne.2);rw[hO,hN,hL,hC,hD,hE]at HS;have HM:Hid (∀ w',MemAt 106 w' mb mg ws' false (up n)->Md.Ce.WtAt w' i0 t'->Md.Ce.Ch [mb,mg,i0] w w'->Mid W G0 b z mb mg w' x { v with t:=t' } ws' false (up n)):=fun w' k1 k2 k3=>h.writes hq k3 k1 k2
 have h18:w.cell? ⟨b,18,none⟩=some (.pointer (some ⟨i0,0,none⟩)):=(h.cell 18).trans (by show some (ptrV v.qw)=_;rw[hq];rfl);have hb:=h.ltB;clear h hE hL hO hN hC hD hq hne
 cases dn
 ·have HQ2:=zH (fun u k=>HQ.out u k rfl)
  clear HN HQ;go_enter Tryz.func178,Tryz.ntmps178
  go_wp2_with (go_at_call 189;refine HS.out.mono ?_;rintro e w1 ⟨rfl,k1,k2,k3⟩;have HR:=zH (HQ2.out _ (HM.out _ k1 k2 k3));clear k1 k2 k3 HS HM)
  go_end0
  exact⟨rfl,HR.out⟩
 ·have HN2:=zH (fun u k=>HN.out u k rfl)
  clear HN HQ;go_enter Tryz.func178,Tryz.ntmps178
  go_wp2_with (first
   | (go_at_call 153;refine(HN2.out _ HR.out).mono ?_;rintro e w2 ⟨rfl,k⟩;have HZ:=zH k;clear k HN2)
   | (go_at_call 189;refine HS.out.mono ?_;rintro e w1 ⟨rfl,k1,k2,k3⟩;have HR:=zH (HM.out _ k1 k2 k3);clear k1 k2 k3 HS HM))
  go_end0
  exact⟨rfl,HZ.out⟩
end
attribute [local go_sem] a00 Md.Ce.run_store_func Md.Ce.run_store_nilFunc
def Full (W:World) (G0:List Nat) (b:Nat) (z:Wz) (mb mg:Nat) (w:World) (x:Wx) (ws:List Int) (o:Bool) (n:Int):Prop:=∃ v,Mid W G0 b z mb mg w x v ws o n/\VOk x v
section
variable {W w w':World} {G0:List Nat} {b mb mg:Nat} {x:Wx} {z:Wz} {ws:List Int} {o:Bool} {n:Int}
theorem Full.raw (h:Full W G0 b z mb mg w x ws o n):∃ v,RawAt w b x z v/\VOk x v:=by
 obtain⟨v,h,h2⟩:=h;exact⟨v,h.1,h2⟩
theorem aL0 {v:Wv} (h:Mid W G0 b z mb mg w x v ws o n) (hI:InY x) {k:Nat} (hk:k<=x.m.buf.length) (hbg:v.bg=(k:Int)) (hnb:wrap64 v.nb=x.num):Calls Tryz.prog 153 #[.pointer (some ⟨b,0,none⟩)] w fun e w'=>e=.returned (.tuple #[])/\Full W G0 b z mb mg w' { x with at_:=3*k,part:=if k=x.m.buf.length then 7 else 6 } ws o n:=by
 by_cases e:k=x.m.buf.length
 ·rw[if_pos e]
  refine(bc5 h (by rw[hbg,e])).mono ?_;rintro r w' ⟨rfl,q⟩;exact⟨rfl,_,q.like rfl rfl rfl rfl,⟨rfl,(fun y=>by dsimp only at y;omega),(fun y=>by dsimp only at y;omega),(fun y=>by dsimp only at y;omega),hnb⟩⟩
 ·rw[if_neg e]
  refine(aY5 h hI (by omega) hbg).mono ?_;rintro r w' ⟨rfl,q⟩;obtain⟨i,q⟩:=q.out;refine⟨rfl,_,q.like rfl rfl rfl rfl,⟨rfl,(fun y=>by dsimp only at y;omega),(fun y=>by dsimp only at y;omega),fun _=>⟨⟨i,rfl⟩,?_,?_⟩,hnb⟩⟩
  ·dsimp only
   rw[show 3*k / 3=k by omega]
   rfl
  ·dsimp only
   rw[show 3*k / 3=k by omega,show 3*k % 3=0 by omega]
   rfl
theorem VOk.of {v v':Wv} {x x':Wx} (h:VOk x v) (h4:x.part<=4) (h4':x'.part<=4) (hn:v'.nx=al3 x'.part) (hb:v'.bg=v.bg) (hnb:v'.nb=v.nb) (hnum:x'.num=x.num):VOk x' v' :=
 ⟨hn,(fun y=>by omega),(fun _=>by rw[hb];exact h.b5 (by omega)),(fun y=>by omega),by rw[hnb,hnum];exact h.nb⟩
theorem b71 (h:Full W G0 b z mb mg w x ws true n) (hI:InY x) (hp:x.part=1) (hl:plY x<=(ws.length:Int)):Calls Tryz.prog 91 #[.pointer (some ⟨b,0,none⟩),.pointer (some ⟨mb,0,none⟩)] w fun e w'=>e=.returned (.tuple #[])/\Full W G0 b z mb mg w' { x with tick:=wordAt ws 0,part:=2 } (ws.set 0 (Md.Cv.passV (wordAt ws 0))) false (up n):=by
 obtain⟨v,h,hv⟩:=h;have hb:=hI.cb;have ha:=hI.ca;unfold plY at hl;refine(draw_any h (by omega)).mono ?_;rintro r w' ⟨rfl,q⟩;exact⟨rfl,_,q,hv.of (by omega) (by show 2<=4;omega) rfl rfl rfl rfl⟩
theorem b72 (h:Full W G0 b z mb mg w x ws true n) (hI:InY x) (hp:x.part=2) (hl:plY x<=(ws.length:Int)):Calls Tryz.prog 107 #[.pointer (some ⟨b,0,none⟩),.pointer (some ⟨mb,0,none⟩)] w fun e w'=>e=.returned (.tuple #[])/\Full W G0 b z mb mg w' (if wordAt ws 1=x.tick then { x with part:=3 } else x) ws false (up n):=by
 obtain⟨v,h,hv⟩:=h;have hb:=hI.cb;have ha:=hI.ca;unfold plY at hl
 by_cases e:wordAt ws 1=x.tick
 ·rw[if_pos e]
  refine(aT8 h (by omega) (zT e)).mono ?_;rintro r w' ⟨rfl,q⟩;exact⟨rfl,_,q,hv.of (by omega) (by show 3<=4;omega) rfl rfl rfl rfl⟩
 ·rw[if_neg e]
  refine(aT8 h (by omega) (zU e)).mono ?_;rintro r w' ⟨rfl,q⟩;exact⟨rfl,_,q,hv⟩
theorem b73 (h:Full W G0 b z mb mg w x ws true n) (hI:InY x) (hp:x.part=3) (hl:plY x<=(ws.length:Int)):Calls Tryz.prog 115 #[.pointer (some ⟨b,0,none⟩),.pointer (some ⟨mb,0,none⟩)] w fun e w'=>e=.returned (.tuple #[])/\Full W G0 b z mb mg w' { x with stamp:=wordAt ws 2,part:=4 } ws false (up n):=by
 obtain⟨v,h,hv⟩:=h;have hb:=hI.cb;have ha:=hI.ca;unfold plY at hl;refine(aD7 h (by omega)).mono ?_;rintro r w' ⟨rfl,q⟩;exact⟨rfl,_,q,hv.of (by omega) (by show 4<=4;omega) rfl rfl rfl rfl⟩
theorem aP5 (hI:InY x) (hp:x.part=4) (hk:(a07 x.m).2.kind=1∨(a07 x.m).2.kind=3):0<=(a07 x.m).2.cell/\(a07 x.m).2.cell<x.a:=by
 have h0:=hI.run (by omega);have hR:=hI.rest;obtain⟨lk,tr⟩:=a77 hR.inv hR.nw h0;have hb:=ai9 hR.inv hR.nw h0;have hc:=hI.cel
 rcases hk with hk | hk
 ·rcases tr with⟨k4,_⟩ | ⟨_,e1,e2,e3,e4⟩ | ⟨k0,_⟩
  ·omega
  ·have hw:=(ag5 hR.inv).wait
   have:=lk.cells;omega
  ·omega
 ·have:=aJ9 hR (by omega)
  rcases hb with⟨q,_⟩ | ⟨q,_⟩ | ⟨q,_⟩ | ⟨q,_⟩ | ⟨_,e,f,_⟩
  ·omega
  ·omega
  ·omega
  ·omega
  ·have m:(a07 x.m).2.cell∈a05 (a07 x.m).1.buf:=by
    rw[e];exact aj6.1 (by rw[aD4];simp)
   obtain⟨t,ht,et⟩:=List.mem_map.1 m;have:=this.cel t ht;have:=lk.cells;omega
theorem b74 (h:Full W G0 b z mb mg w x ws true n) (hT:a87 W G0) (hI:InY x) (hp:x.part=4) (hl:plY x<=(ws.length:Int)):Calls Tryz.prog 126 #[.pointer (some ⟨b,0,none⟩),.pointer (some ⟨mb,0,none⟩)] w fun e w'=>e=.returned (.tuple #[])/\Full W G0 b z mb mg w' (runY x ws).1 ws (!(runY x ws).2) (if (runY x ws).2 then up n else n):=by
 obtain⟨v,h,hv⟩:=h;have hR:=hI.rest;have hfew:x.was.length<=1000:=by rw[hI.wlen];have h1:=hR.inv.few;have h2:=hR.inv.wmax;omega
 unfold runY
 by_cases k1:(a07 x.m).2.kind=1
 ·rw[if_pos k1]
  have hc:=aP5 hI hp (.inl k1);refine(bm3 h hT hR.inv (ag5 hR.inv) hI.ca hI.cb hl rfl rfl k1 hc.1 hc.2 rfl).mono ?_;rintro r w' ⟨rfl,q⟩;obtain⟨F,q⟩:=q.out;exact⟨rfl,_,q,hv.of (by omega) (by show x.part<=4;omega) hv.nx rfl rfl rfl⟩
 ·rw[if_neg k1]
  by_cases k3:(a07 x.m).2.kind=3/\(a07 x.m).2.first=true
  ·rw[if_pos k3]
   have hc:=aP5 hI hp (.inr k3.1);refine(b98 h hT hR.inv hI.ca hI.cb hl hfew rfl rfl k3.1 k3.2 hc.1 hc.2 rfl).mono ?_;rintro r w' ⟨rfl,q⟩;obtain⟨F,p',c',q⟩:=q.out;exact⟨rfl,_,q,hv.of (by omega) (by show x.part<=4;omega) hv.nx rfl rfl rfl⟩
  ·rw[if_neg k3]
   by_cases k4:(a07 x.m).2.kind=4
   ·rw[if_pos k4]
    refine by7 h hT hR.inv rfl rfl k4 (Q:=fun w'=>Full W G0 b z mb mg w' _ ws true n) (zH fun u F hu=>?_)
    by_cases hh:(a07 x.m).1.how=1
    ·rw[if_pos hh]
     refine(bo7 hu (by simp[hh])).mono ?_;rintro r w' ⟨rfl,q⟩;obtain⟨i,q⟩:=q.out;refine⟨rfl,_,q,⟨rfl,fun _=>⟨⟨i,rfl⟩,rfl,rfl,rfl,?_⟩,fun _=>hv.b5 (by omega),(fun y=>by dsimp only at y;omega),hv.nb⟩⟩
     show (0:Int)=(x.at_:Int)
     rw[hI.at4 (by omega)]
     rfl
    ·rw[if_neg hh]
     refine(bB6 hu (by simp[hh])).mono ?_;rintro r w' ⟨rfl,q⟩;exact⟨rfl,_,q,⟨rfl,(fun y=>by dsimp only at y;omega),(fun y=>by dsimp only at y;omega),(fun y=>by dsimp only at y;omega),hv.nb⟩⟩
   ·rw[if_neg k4]
    refine(bG5 h hT hR.inv rfl rfl (by simpa using k1) ?_ (by simpa using k4)).mono ?_
    ·by_cases q3:(a07 x.m).2.kind=3
     ·refine .inr ⟨by simpa using q3,?_⟩
      cases hf:(a07 x.m).2.first with
      | false=>rfl
      | true=>exact absurd ⟨q3,hf⟩ k3
     ·exact .inl (by simpa using q3)
    ·rintro r w' ⟨rfl,q⟩
     obtain⟨F,q⟩:=q.out;exact⟨rfl,_,q,hv.of (by omega) (by show x.part<=4;omega) hv.nx rfl rfl rfl⟩
theorem b75 (h:Full W G0 b z mb mg w x ws true n) (hI:InY x) (hp:x.part=5) (hl:plY x<=(ws.length:Int)):Calls Tryz.prog 141 #[.pointer (some ⟨b,0,none⟩),.pointer (some ⟨mb,0,none⟩)] w fun e w'=>e=.returned (.tuple #[])/\Full W G0 b z mb mg w' (a97 x ws) ws false (up n):=by
 obtain⟨v,h,hv⟩:=h;obtain⟨⟨i0,hq⟩,e1,e2,e3,e4⟩:=hv.s5 hp;obtain⟨g1,g2,g3,g4,g5,g6,g7⟩:=bm9 (ws:=ws) hI hp hl e1 e2 e3 e4 n
 cases hL:letsY x ws with
 | false =>
  refine aF3 h hq g4 g1 g2 g3 (g7 hL) (dn:=false) (by rw[g5,hL];rfl) (zH fun u k _=>?_) (zH fun u k y=>by cases y);rw[bm6 hL];exact⟨_,k,⟨hv.nx,fun _=>⟨⟨i0,hq⟩,rfl,rfl,rfl,rfl⟩,hv.b5,(fun y=>by omega),hv.nb⟩⟩
 | true =>
  by_cases hb:((x.at_+1:Nat):Int)=x.b
  ·refine aF3 h hq g4 g1 g2 g3 (g6 hL) (dn:=true) (by rw[g5,hL];exact zT hb) (zH fun u k y=>by cases y) (zH fun u k _=>?_)
   rw[ba0 hL hb];have:=aL0 k hI (k:=0) (zV _) (hv.b5 (by omega)) hv.nb;have e:(if x.m.buf.length=0 then 7 else 6)=(if 0=x.m.buf.length then 7 else 6):=by
    by_cases q:x.m.buf.length=0
    ·rw[if_pos q,if_pos q.symm]
    ·rw[if_neg q,if_neg (fun y=>q y.symm)]
   rw[e];exact this
  ·refine aF3 h hq g4 g1 g2 g3 (g6 hL) (dn:=false) (by rw[g5,hL];exact zU hb) (zH fun u k _=>?_) (zH fun u k y=>by cases y)
   rw[bm7 hL hb];exact⟨_,k.like rfl rfl rfl rfl,⟨hv.nx,fun _=>⟨⟨i0,hq⟩,rfl,rfl,rfl,rfl⟩,hv.b5,(fun y=>by dsimp only at y;omega),hv.nb⟩⟩
theorem b76 (h:Full W G0 b z mb mg w x ws true n) (hI:InY x) (hp:x.part=6) (hl:plY x<=(ws.length:Int)):Calls Tryz.prog 178 #[.pointer (some ⟨b,0,none⟩),.pointer (some ⟨mb,0,none⟩)] w fun e w'=>e=.returned (.tuple #[])/\Full W G0 b z mb mg w' (ae1 x) (ah7 x ws) false (up n):=by
 obtain⟨v,h,hv⟩:=h;obtain⟨⟨i0,hq⟩,e1,e2⟩:=hv.w6 hp;have h6:=hI.at6 hp;obtain⟨g1,g2,g3,g4,g5,g6⟩:=bc8 (ws:=ws) hI hp hl n;rw[<- e2]at g1 g2 g3 g4 g5 g6;unfold ae1
 by_cases d:x.at_ % 3=2
 ·refine write_any h hq g1 g2 g5 g6 g3 (dn:=true) (by rw[g4];exact zT d) (zH fun u k y=>by cases y) (zH fun u k _=>?_)
  have:=aL0 k hI (k:=x.at_ / 3+1) (by omega) e1 hv.nb;rw[show 3*(x.at_ / 3+1)=x.at_+1 by omega]at this;have e:(if x.at_+1=3*x.m.buf.length then 7 else 6)=(if x.at_ / 3+1=x.m.buf.length then 7 else 6):=by
   by_cases q:x.at_+1=3*x.m.buf.length
   ·rw[if_pos q,if_pos (by omega)]
   ·rw[if_neg q,if_neg (by omega)]
  rw[e];exact this
 ·refine write_any h hq g1 g2 g5 g6 g3 (dn:=false) (by rw[g4];exact zU d) (zH fun u k _=>?_) (zH fun u k y=>by cases y)
  rw[if_neg (by omega)];have a1:(x.at_+1) / 3=x.at_ / 3:=by omega
  have a2:(x.at_+1) % 3=x.at_ % 3+1:=by omega
  refine⟨_,k.like (by unfold boxY;dsimp only;rw[hp]) rfl rfl rfl,⟨by rw[hv.nx,hp],(fun y=>by dsimp only at y;omega),(fun y=>by dsimp only at y;omega),fun _=>⟨⟨i0,hq⟩,?_,?_⟩,hv.nb⟩⟩
  ·dsimp only
   rw[a1];exact e1
  ·dsimp only
   rw[a1,a2]
   rfl
theorem b77 (h:Full W G0 b z mb mg w x ws true n) (hI:InY x) (hl:plY x<=(ws.length:Int)):Calls Tryz.prog 175 #[.pointer (some ⟨b,0,none⟩),.pointer (some ⟨mb,0,none⟩)] w fun e w'=>e=.returned (.tuple #[])/\Full W G0 b z mb mg w' { x with num:=wrap64 (Md.Cv.passV x.stamp),part:=8 } (ws.set 2 (Md.Cv.passV x.stamp)) false (up n):=by
 obtain⟨v,h,hv⟩:=h;have hb:=hI.cb;have ha:=hI.ca;unfold plY at hl;refine(publish_any h (by omega)).mono ?_;rintro r w' ⟨rfl,q⟩;exact⟨rfl,_,q.like rfl rfl rfl rfl,⟨rfl,(fun y=>by dsimp only at y;omega),(fun y=>by dsimp only at y;omega),(fun y=>by dsimp only at y;omega),rfl⟩⟩
theorem b78 (h:Full W G0 b z mb mg w x ws true n) (hI:InY x) (hl:plY x<=(ws.length:Int)):Calls Tryz.prog 139 #[.pointer (some ⟨b,0,none⟩),.pointer (some ⟨mb,0,none⟩)] w fun e w'=>e=.returned (.tuple #[])/\Full W G0 b z mb mg w' { x with part:=9 } (ws.set 1 (Md.Cv.passV x.tick)) false (up n):=by
 obtain⟨v,h,hv⟩:=h;have hb:=hI.cb;have ha:=hI.ca;unfold plY at hl;refine(pass_any h (by omega)).mono ?_;rintro r w' ⟨rfl,q⟩;exact⟨rfl,_,q,⟨rfl,(fun y=>by dsimp only at y;omega),(fun y=>by dsimp only at y;omega),(fun y=>by dsimp only at y;omega),hv.nb⟩⟩
theorem bj2 (h:Full W G0 b z mb mg w x ws true n) (hT:a87 W G0) (hI:InY x) (hp:x.part≠9) (hl:plY x<=(ws.length:Int)) {y:Wx} {ws':List Int} {ac:Bool} (hy:a62 x ws=(y,ws',ac)):Calls Tryz.prog (partF x.part) #[.pointer (some ⟨b,0,none⟩),.pointer (some ⟨mb,0,none⟩)] w fun e w'=>e=.returned (.tuple #[])/\Full W G0 b z mb mg w' y ws' (!ac) (if ac then up n else n):=by
 have hP:=hI.part;unfold a62 at hy
 rcases(by omega:x.part=1∨x.part=2∨x.part=3∨x.part=4∨x.part=5∨x.part=6∨x.part=7∨x.part=8) with e | e | e | e | e | e | e | e
 ·rw[if_pos e]at hy
  cases hy
  rw[e];exact b71 h hI e hl
 ·rw[if_neg (by omega),if_pos e]at hy
  cases hy
  rw[e];exact b72 h hI e hl
 ·rw[if_neg (by omega),if_neg (by omega),if_pos e]at hy
  cases hy
  rw[e];exact b73 h hI e hl
 ·rw[if_neg (by omega),if_neg (by omega),if_neg (by omega),if_pos e]at hy
  cases hy
  rw[e];exact b74 h hT hI e hl
 ·rw[if_neg (by omega),if_neg (by omega),if_neg (by omega),if_neg (by omega),if_pos e]at hy
  cases hy
  rw[e];exact b75 h hI e hl
 ·rw[if_neg (by omega),if_neg (by omega),if_neg (by omega),if_neg (by omega),if_neg (by omega),if_pos e]at hy
  cases hy
  rw[e];exact b76 h hI e hl
 ·rw[if_neg (by omega),if_neg (by omega),if_neg (by omega),if_neg (by omega),if_neg (by omega),if_neg (by omega),if_pos e]at hy
  cases hy
  rw[e];exact b77 h hI hl
 ·rw[if_neg (by omega),if_neg (by omega),if_neg (by omega),if_neg (by omega),if_neg (by omega),if_neg (by omega),if_neg (by omega)]at hy
  cases hy
  rw[e];exact b78 h hI hl
end
section
variable {W w:World} {G0:List Nat} {b mb mg:Nat} {x:Wx} {z:Wz} {v:Wv} {ws:List Int} {o:Bool} {n:Int}
theorem Mid.lens (h:Mid W G0 b z mb mg w x v ws o n):w.cell? ⟨b,5,none⟩=some (.int .i64 (plY x)):=(h.cell 5).trans rfl
theorem step_any (h:Full W G0 b z mb mg w x ws o n) (hT:a87 W G0) (hI:InY x) (hp:x.part≠9) (hl:plY x<=(ws.length:Int)) (h0:0<=x.steps) (h1:x.steps<9223372036854775807) {y:Wx} {ws':List Int} {ac:Bool} (hy:a09 x ws=(y,ws',ac)) :
  Calls Tryz.prog 246 #[.pointer (some ⟨b,0,none⟩),.pointer (some ⟨mb,0,none⟩)] w fun e w'=>e=.returned (.tuple #[.bool (decide ((y.part:Int)=9)),.int .i64 0])/\Full W G0 b z mb mg w' y ws' (!ac) (if ac then up n else n):=by
 obtain⟨v,h,hv⟩:=h;have h5:=h.lens;have hb:=h.ltB;have HL:=zH (Md.len_any h.drew.mem);have HO:=zH (ao0 h.drew.raw hv.nx);rw[zU (by omega)]at HO;have HOP:Hid (Calls Tryz.prog 245 #[.pointer (some ⟨mb,0,none⟩)] w.drew fun e w'=>e=.returned (.tuple #[])/\MemAt 106 w' mb mg ws true n/\Chg mb mg w.drew w'):=Md.open_any h.drew.mem;have HM:Hid (∀ w',MemAt 106 w' mb mg ws true n->Chg mb mg w.drew w'->Mid W G0 b z mb mg w' x v ws true n):=fun w' k1 k2=>h.drew.memb k2 k1
 have HP:Hid (∀ w',Mid W G0 b z mb mg w' x v ws true n->Full W G0 b z mb mg (w'.setCell ⟨b,10,none⟩ (.int .i64 (x.steps+1))) (a16 x) ws true n):=fun w' k=>⟨v,k.put 10 _ (a16 x) v rfl ⟨rfl,rfl,rfl⟩ ⟨rfl,rfl,rfl,rfl,rfl,rfl,rfl⟩,hv.tick⟩
 obtain⟨ff,hff⟩:∃ ff,partF x.part=ff:=⟨_,rfl⟩
 have hcall:=aW6 x.part;have h12:Hid (∀ w',Mid W G0 b z mb mg w' x v ws true n->(w'.setCell ⟨b,10,none⟩ (.int .i64 (x.steps+1))).cell? ⟨b,12,none⟩=some (.func (.func ff) #[] #[])/\w'.cell? ⟨b,10,none⟩=some (.int .i64 x.steps)/\w'.frozen? ⟨b,10,none⟩=false/\b<w'.heap.size):=fun w' k=>by
  have q:=k.put 10 (.int .i64 (x.steps+1)) (a16 x) v rfl ⟨rfl,rfl,rfl⟩ ⟨rfl,rfl,rfl,rfl,rfl,rfl,rfl⟩;refine⟨(q.cell 12).trans ?_,(k.cell 10).trans rfl,k.free 10,k.ltB⟩
  show some v.nx=_
  rw[hv.nx,bi6 hp,hff]
  rfl
 have HF:Hid (∀ w',Full W G0 b z mb mg w' (a16 x) ws true n->Calls Tryz.prog ff #[.pointer (some ⟨b,0,none⟩),.pointer (some ⟨mb,0,none⟩)] w' fun e w2=>e=.returned (.tuple #[])/\Full W G0 b z mb mg w2 y ws' (!ac) (if ac then up n else n)):=fun w' k=>by
  have:=bj2 k hT hI.tick hp hl hy;rw[show partF (a16 x).part=ff from hff]at this;exact this
 have HZ:Hid (∀ w',Full W G0 b z mb mg w' y ws' (!ac) (if ac then up n else n)->Calls Tryz.prog 100 #[.pointer (some ⟨b,0,none⟩)] w' fun e w2=>e=.returned (.bool (decide ((y.part:Int)=9)))/\w2=w'):=fun w' k=>by
  obtain⟨v',k,kv⟩:=k.raw;exact ao0 k kv.nx
 obtain⟨o',ho⟩:∃ o',o'=!ac:=⟨_,rfl⟩
 obtain⟨n',hn⟩:∃ n',n'=if ac then up n else n:=⟨_,rfl⟩
 rw[<- ho,<- hn]at HF HZ ⊢;rw[hff]at hcall
 generalize plY x=pl at h5 hl
 have hlt:¬ (ws.length:Int)<pl:=by omega
 clear h hl hv hp hy hT hI hff ho hn;go_enter Tryz.func246,Tryz.ntmps246;go_wp2_with fail;refine a06 (fun u=>u.cell? ⟨b,5,none⟩=some (.int .i64 pl) )  ((0,true)::(2,true)::(3,true)::(4,true)::(5,true)::(6,true)::(1,false)::(7,true)::[])  Md.Cv.follows13 (by kernel_rfl) (fun _ _ _ _ _ h=>h)  h5 ?_
 (repeat ((first | (refine a02 (v:=?_) rfl (by rfl) (fun wq hSq=>?_) ?_;rotate_left;(focus ((try dsimp only at hSq);go_simp;try with_reducible rfl))) | refine a03 rfl (by rfl) ?_);simp only[Act.put,zA,zB,zC]))
 (refine a04 rfl (by rfl) (fun KK hK=>?_);go_simp)
 refine HL.out.mono ?_;rintro e w1 ⟨rfl,hw⟩;subst w1;refine hK.out _ _ h5 ?_
 (clear hK KK;try simp only[Act.put,zA,zB,zC])
 (repeat ((first | (refine a02 (v:=?_) rfl (by rfl) (fun wq hSq=>?_) ?_;rotate_left;(focus ((try dsimp only at hSq);go_simp;try with_reducible rfl))) | refine a03 rfl (by rfl) ?_);simp only[Act.put,zA,zB,zC]))
 refine a13 ?_
 go_wp2_with (first
  | (go_at_call 100;refine(HZ.out _ H4.out).mono ?_;rintro e w5 ⟨rfl,hw⟩;subst w5;clear HZ)
  | (go_at_call 100;refine HO.out.mono ?_;rintro e w2 ⟨rfl,hw⟩;subst w2;clear HO)
  | (go_at_call 245;refine HOP.out.mono ?_;rintro e w3 ⟨rfl,k1,k2⟩;have H3:=zH (HM.out _ k1 k2);obtain⟨e12,e10,f10,l10⟩:=h12.out _ H3.out;clear k1 k2 HOP HM h12)
  | (refine(HF.out _ (HP.out _ H3.out)).mono ?_;rintro e w4 ⟨rfl,k⟩;have H4:=zH k;clear k HF HP H3))
 go_ret2;exact⟨rfl,H4.out⟩
end
attribute [local go_sem] a00 frombits_run bits_run Md.Ce.run_store_func Md.Ce.run_store_nilFunc
def rowL (l:List Nat) (k n:Nat):List Nat:=(List.range n).map fun i=>if i<k then fixB (l.getD i 0) else 0
theorem ah0 (l:List Nat) (k n:Nat):(rowL l k n).length=n:=by simp[rowL]
theorem ax7 (l:List Nat) (n:Nat):rowL l 0 n=List.replicate n 0:=by
 apply List.ext_getElem
 ·simp[rowL]
 ·intro i h1 h2
  simp[rowL]
theorem aF1 {l:List Nat} {n:Nat} (h:l.length=n):rowL l n n=l.map fixB:=by
 apply List.ext_getElem
 ·simp[rowL,h]
 ·intro i h1 h2
  have hi:i<n:=by simpa[rowL]using h1
  simp[rowL,hi,h]
theorem aF2 (l:List Nat) (k n:Nat):(rowL l k n).set k (fixB (l.getD k 0))=rowL l (k+1) n:=by
 apply List.ext_getElem
 ·simp[rowL]
 ·intro i h1 h2
  rw[List.getElem_set]
  by_cases e:k=i
  ·subst e
   simp[rowL]
  ·rw[if_neg e]
   simp only[rowL,List.getElem_map,List.getElem_range]
   by_cases q:i<k
   ·rw[if_pos q,if_pos (by omega)]
   ·rw[if_neg q,if_neg (by omega)]
theorem fMk (n:Nat) (hn:n<=256) (w:World):(Instr.makeSlice 24 (.int .i64 (n:Int)) (.int .i64 (n:Int))).run Tryz.prog w=.ok (.slice (some ⟨w.heap.size,0,none⟩) n n) (w.alloc (.cells (fls (List.replicate n 0)).toArray 49)):=by
 obtain⟨i,hi,hz0,hz1,hz2⟩:=info_parts aH2;rw[run_make w 24 49 i (.float .f64 0) Tryz.underlying24 hi hz0 .i64 .i64 n n (by omega) (zW _) (by rw[hz2];omega) (by omega)];have e:(madeCells (.float .f64 0:Value).cells (((n:Int)).toNat*i.size))=(fls (List.replicate n 0)).toArray:=by
  rw[hz1,Nat.mul_one,Int.toNat_natCast]
  apply Array.toList_inj.1
  rw[show (.float .f64 0:Value).cells=#[.float .f64 0] from rfl,toList_madeCells_one]
  simp[fls]
 rw[e,Int.toNat_natCast]
theorem row_made {w:World} {l:List Nat} {n:Nat} (hl:l.length=n) (hn:n<=256):RowAt 49 (w.alloc (.cells (fls l).toArray 49)) (some ⟨w.heap.size,0,none⟩) n (fls l):=⟨by
 rw[a32,hl];exact World.ownsRow_lit w _ n (zV _) (by unfold maxLen;omega) (by rw[List.size_toArray,a32,hl,Nat.mul_one])⟩
theorem av7 {w:World} {po:Option Addr} {l:List Nat} {k co:Nat} (hk:l.length=k) (hL:FlAt w po l) (hk8:k<=8):Calls Tryz.prog 89 #[.slice po k co] w fun e w'=>e=.returned (.slice (some ⟨w.heap.size,0,none⟩) k k)/\RowAt 49 w' (some ⟨w.heap.size,0,none⟩) k (fls (l.map fixB))/\Bl w w':=by
 have hmk:=fMk k (by omega) w;have HL0:Hid (∀ wr,Bl w wr->FlAt wr po l):=fun wr h=>hL.on h
 have HE:Hid (rowL l k k=l.map fixB):=aF1 hk;have HS0:Hid (RowAt 49 (w.alloc (.cells (fls (List.replicate k 0)).toArray 49)) (some ⟨w.heap.size,0,none⟩) k (fls (rowL l 0 k))):=by
  have:=row_made (w:=w) (ah0 l 0 k) (by omega);rw[ax7]at this ⊢;exact this
 have HAT:Hid (∀ (v x y s:Int) (w:World),Calls Tryz.prog 68 #[.agg #[.int .u64 v,.int .u64 x,.int .u64 y],.int .u64 s] w fun e w'=>e=.returned (.float .f64 (Md.Ce.atV v x y s))/\Bl w w'):=Md.Ce.cat_any;have HK:Hid (l.length=k):=hk;clear hL hk;go_enter Tryz.func89,Tryz.ntmps89
 go_wp2
 go_loopw [11] (fun vi wr=>∃ i:Nat,vi=.int .i64 i/\i<=k/\Hid (RowAt 49 wr (some ⟨w.heap.size,0,none⟩) k (fls (rowL l i k)))/\Hid (Bl w wr)) (fun vi _=>k - (intOf vi).toNat)
 case atStart=>exact⟨0,rfl,zV _,HS0.out,below_alloc w _⟩
 case round =>
  obtain⟨i,rfl,hi,HR,HB⟩:=hrel
  by_cases hlt:i<k
  ·have hlt':(i:Int)<(k:Int):=by omega
   obtain⟨g,o,rfl,hg,hx⟩:=HL0.out _ HB.out i (by rw[HK.out];exact hlt);have hAt:Hid (∀ y:Nat,Md.Ce.atV 0 (y:Int) 0 0=fixB y):=fun y=>by unfold Md.Ce.atV;rw[if_neg (by omega)];rfl
   have HS1:=zH (aF2 l i k)
   generalize l.getD i 0=y at hx HS1
   obtain⟨r0,r1,r2⟩:=row_get HR.out (j:=i) (v:=.float .f64 ((rowL l i k).getD i 0)) (by rw[aD0 (by rw[ah0];exact hlt)]);have HD:Hid (∀ u,Bl wr u->u.cell? ⟨w.heap.size,i,none⟩=some (.float .f64 ((rowL l i k).getD i 0))/\u.frozen? ⟨w.heap.size,i,none⟩=false/\w.heap.size<u.heap.size/\RowAt 49 (u.setCell ⟨w.heap.size,i,none⟩ (.float .f64 (fixB y))) (some ⟨w.heap.size,0,none⟩) k (fls (rowL l (i+1) k))/\Bl w (u.setCell ⟨w.heap.size,i,none⟩ (.float .f64 (fixB y)))):=fun u hu=>by
    have h1:=HR.out.on hu;obtain⟨a1,a2,a3⟩:=row_get h1 (j:=i) (v:=.float .f64 ((rowL l i k).getD i 0)) (by rw[aD0 (by rw[ah0];exact hlt)]);have q:=(row_put h1 i (.float .f64 (fixB y))).1;rw[b39,HS1.out]at q;exact⟨a1,a2,a3,q,(HB.out.trans (hu.mono HB.out.size)).setCell (zE _) _⟩
   clear HL0 HS0
   go_wp2_with (go_at_call 68;refine(HAT.out _ _ _ _ _).mono ?_;rintro e u ⟨rfl,hb⟩;rw[hAt.out];obtain⟨a1,a2,a3,a4,a5⟩:=HD.out _ hb;have HZ:=zH (And.intro a4 a5);clear a4 a5 hb)
   exact⟨⟨i+1,by first | rfl | (congr 1),by omega,HZ.out.1,HZ.out.2⟩,by simp[intOf];omega⟩
  ·have hlt':¬ (i:Int)<(k:Int):=by omega
   obtain rfl:i=k:=by omega
   have HZ:=zH HR.out;rw[HE.out]at HZ
   go_wp2
   go_ret;exact⟨rfl,HZ.out,HB.out⟩
theorem heap_old {w:World} {o y:Obj} {k:Nat} (e:w.heap[k]?=some y):(w.alloc o).heap[k]?=some y:=(Below.heap_alloc _ _ _ (Array.getElem?_eq_some_iff.1 e).1).trans e
theorem aP9 {w:World} {x:Nat} {v0 v1 v2 v3 v4 v5:Value} {T:TypeId} (h:w.heap[x]?=some (.cells #[v0,v1,v2,v3,v4,v5] T (0,0))):w.cell? ⟨x,0,none⟩=some v0/\w.cell? ⟨x,1,none⟩=some v1/\w.cell? ⟨x,2,none⟩=some v2/\w.cell? ⟨x,3,none⟩=some v3/\w.cell? ⟨x,4,none⟩=some v4/\w.cell? ⟨x,5,none⟩=some v5/\x<w.heap.size :=
 ⟨(zR w x 0 _ _ _ h).trans rfl,(zR w x 1 _ _ _ h).trans rfl,(zR w x 2 _ _ _ h).trans rfl,(zR w x 3 _ _ _ h).trans rfl,(zR w x 4 _ _ _ h).trans rfl,(zR w x 5 _ _ _ h).trans rfl,lt_of_block h⟩
theorem cells4 {w:World} {x:Nat} {v0 v1 v2 v3:Value} {T:TypeId} (h:w.heap[x]?=some (.cells #[v0,v1,v2,v3] T (0,0))):w.cell? ⟨x,0,none⟩=some v0/\w.cell? ⟨x,1,none⟩=some v1/\w.cell? ⟨x,2,none⟩=some v2/\w.cell? ⟨x,3,none⟩=some v3/\x<w.heap.size :=
 ⟨(zR w x 0 _ _ _ h).trans rfl,(zR w x 1 _ _ _ h).trans rfl,(zR w x 2 _ _ _ h).trans rfl,(zR w x 3 _ _ _ h).trans rfl,lt_of_block h⟩
theorem aG3 {w:World} {x:Nat} {v0 v1:Value} {T:TypeId} (h:w.heap[x]?=some (.cells #[v0,v1] T (0,0))):w.cell? ⟨x,0,none⟩=some v0/\w.cell? ⟨x,1,none⟩=some v1/\x<w.heap.size :=
 ⟨(zR w x 0 _ _ _ h).trans rfl,(zR w x 1 _ _ _ h).trans rfl,lt_of_block h⟩
def newY (a b c e t:Int) (cs:List Ins) (l:List Nat) (th:Int):Wx:=⟨a,b,th,t,l.map fixB,newM a c e t cs l,0,1,0,0,[],0,0⟩
theorem bw6 {a b c e t:Int} {cs:List Ins} {l:List Nat} {th:Int} (hc:Md.cfgB a b c e=true) (hx:∀ k,k<cs.length->(ci cs k).x<18446744073709551616) (hl:∀ x∈l,x<18446744073709551616) (hk:l.length<=8) (ht:0<=th/\th<b):InY (newY a b c e t cs l th):=by
 obtain⟨h1,h2,h3,h4⟩:=Md.cfgB_iff.1 hc;have z:u64B 0:=⟨by decide,by decide⟩;exact⟨h1,h2,rfl,ht,aE1 hc hx hl,by show (l.map fixB).length<=8;simpa using hk,⟨by show 1<=1;omega,by show 1<=9;omega⟩,z,z,rfl,(fun v hv=>by cases hv),fun _=>rfl,(fun q=>by have q':5<=1:=q;omega),(fun q=>by have q':5<=1:=q;omega),fun _=>rfl,(fun q=>by have q':1=5:=q;omega),(fun q=>by have q':1=6:=q;omega)⟩
structure Made (w w':World) (bx:Nat) (x:Wx):Prop where
 at_:∃ z v,RawAt w' bx x z v/\VOk x v/\Abv w.heap.size (gY bx v)/\Abv w.heap.size z.KK
 bl:Bl w w'
section
variable {w:World} {a b c e t th:Int} {ao:Option Addr} {cs:List Ins} {n cap:Nat} {po:Option Addr} {l:List Nat} {k co:Nat}
abbrev aY4 (b p4 p5 t:Int) (pa k bm:Nat):Array Value:=#[.int .i64 0,.int .i64 1,.int .i64 2,.int .i64 3,.int .i64 p4,.int .i64 p5,.int .i64 b,.int .i64 t,.slice (some ⟨pa,0,none⟩) k k,.pointer (some ⟨bm,0,none⟩),.int .i64 0,.int .i64 0,.nilFunc,.int .u64 0,.int .u64 0,.slice none 0 0,.pointer none,.int .i64 0,.pointer none,.int .u64 0]
theorem aY0 {u:World} {g:Nat} {p4 p5:Int} {pa bm:Nat} (h:u.heap[g]?=some (.cells (aY4 b p4 p5 t pa k bm) 159 (0,0))) (f:FuncId):Calls Tryz.prog 90 #[.pointer (some ⟨g,0,none⟩),.int .i64 1,.func (.func f) #[] #[]] u fun e w'=>e=.returned (.tuple #[])/\w'=(u.setCell ⟨g,11,none⟩ (.int .i64 1)).setCell ⟨g,12,none⟩ (.func (.func f) #[] #[]):=by
 have h11:u.cell? ⟨g,11,none⟩=some (.int .i64 0):=(zR u g 11 _ _ _ h).trans rfl;have f11:=zZ u g 11 _ _ h;have h1:=zS u g 11 _ _ (.int .i64 1) h;have h12:(u.setCell ⟨g,11,none⟩ (.int .i64 1)).cell? ⟨g,12,none⟩=some .nilFunc:=(zR _ g 12 _ _ _ h1).trans rfl;have f12:=zZ _ g 12 _ _ h1;have hb:=lt_of_block h;clear h h1;go_enter Tryz.func90,Tryz.ntmps90
 go_wp2
 go_end0
 exact⟨rfl,rfl⟩
theorem aN0 {u2 u3:World} {bm:Nat} {K:List Nat} {N:World} (hk:l.length=k) (hN:Bl w N) (g:Gm N [] bm K u2 (newM a c e t cs l)) (hK:Abv N.heap.size K) (hr:RowAt 49 u3 (some ⟨u2.heap.size,0,none⟩) k (fls (l.map fixB))) (hb:Bl u2 u3) {v:World} (hv:v=(((u3.alloc (.cells (aY4 b (3+b) (3+b+3*a) t u2.heap.size k bm) 159)).setCell ⟨u3.heap.size,11,none⟩ (.int .i64 1)).setCell ⟨u3.heap.size,12,none⟩ (.func (.func 91) #[] #[]))):Made w v u3.heap.size (newY a b c e t cs l th):=by
 obtain⟨F,hM,tF⟩:=g.mc;have lo:Abv N.heap.size F:=fun i hi=>(tF.own i hi).elim (fun q=>by simp at q) id
 have sN:=hN.size;have s2:=tF.size;have s3:=hb.size;have lF:=hM.blw;have lK:=hM.blwK;have lr:=hr.blw;have hbx:v.heap[u3.heap.size]?=some (.cells (boxY (newY a b c e t cs l th) ⟨bm,K,some ⟨u2.heap.size,0,none⟩,k⟩ ⟨none,0,none,⟨0,0,0,0,0⟩,none,⟨0,0,0,0,0,0⟩,0,0,fnV 91,F⟩) 159 (0,0)):=by
  have h0:(u3.alloc (.cells (aY4 b (3+b) (3+b+3*a) t u2.heap.size k bm) 159)).heap[u3.heap.size]?=_:=zN _ _;have h1:=zS _ u3.heap.size 11 _ _ (.int .i64 1) h0;have h2:=zS _ u3.heap.size 12 _ _ (.func (.func 91) #[] #[]) h1;rw[hv];refine h2.trans ?_;unfold boxY newY ptrV fnV;dsimp only;rw[List.length_map,hk]
  rfl
 have kp:∀ i,i<u3.heap.size->v.heap[i]?=u3.heap[i]?:=fun i hi=>by
  rw[hv];exact(zO _ _ _ _ (fun (e:i=u3.heap.size)=>by omega)).trans ((zO _ _ _ _ (fun (e:i=u3.heap.size)=>by omega)).trans (Below.heap_alloc _ _ _ hi))
 have sv:u3.heap.size<=v.heap.size:=by rw[hv];simp
 have b3:Bl u3 v:=⟨by rw[hv];rfl,by rw[hv];rfl,by rw[hv];rfl,sv,kp⟩;have b2:Bl u2 v:=hb.trans (b3.mono s3);refine⟨⟨_,_,⟨hbx,hM.on b2,⟨World.ownsRow_nil _ _ _ _⟩,(fun n hn=>by cases hn),(fun n hn=>by cases hn),?_,?_⟩,⟨rfl,(fun q=>by cases q),fun _=>rfl,(fun q=>by cases q),(show wrap64 0=0 from by decide +kernel)⟩,?_,?_⟩,?_⟩
 ·exact hr.on b3
 ·intro i j hij y hy hz
  have A:∀ i y,y∈(LY u3.heap.size ⟨bm,K,some ⟨u2.heap.size,0,none⟩,k⟩ ⟨none,0,none,⟨0,0,0,0,0⟩,none,⟨0,0,0,0,0,0⟩,0,0,fnV 91,F⟩).getD i []->(i=0/\y=u3.heap.size)∨(i=4/\y∈F)∨(i=5/\(y∈K∨y=u2.heap.size)):=fun i y hy=>by
   match i,hy with
   | 0,hy=>exact .inl ⟨rfl,by simpa[LY]using hy⟩
   | 1,hy=>simp[LY,fpR]at hy
   | 2,hy=>simp[LY]at hy
   | 3,hy=>simp[LY]at hy
   | 4,hy=>exact .inr (.inl ⟨rfl,hy⟩)
   | 5,hy=>exact .inr (.inr ⟨rfl,by simpa[LY,Wz.KK,fpR,eq_comm]using hy⟩)
   | i+6,hy=>simp[LY]at hy
  have l2:u2.heap.size<u3.heap.size:=lr _ (by simp[fpR]);have sK:=hM.sepK
  rcases A i y hy with⟨h1,h2⟩ | ⟨h1,h2⟩ | ⟨h1,h2⟩ <;> rcases A j y hz with⟨g1,g2⟩ | ⟨g1,g2⟩ | ⟨g1,g2⟩
  ·omega
  ·have:=lF y g2;omega
  ·rcases g2 with g2 | g2
   ·have:=lK y g2;omega
   ·omega
  ·have:=lF y h2;omega
  ·omega
  ·rcases g2 with g2 | g2
   ·exact sK y g2 h2
   ·have:=lF y h2;omega
  ·rcases h2 with h2 | h2
   ·have:=lK y h2;omega
   ·omega
  ·rcases h2 with h2 | h2
   ·exact sK y h2 g2
   ·have:=lF y g2;omega
  ·omega
 ·intro i hi
  rcases mem_gY.1 hi with hi | hi | hi | hi | hi
  ·omega
  ·simp[fpR]at hi
  ·cases hi
  ·cases hi
  ·have:=lo i hi;omega
 ·intro i hi
  have q':i∈K∨i=u2.heap.size:=by simpa[Wz.KK,fpR,eq_comm]using hi
  rcases q' with q' | q'
  ·have:=hK i q';omega
  ·omega
 ·have bN:Bl N u2:=g.fresh
  exact hN.trans ((bN.trans (b2.mono s2)).mono sN)
theorem new_yes (hc:Md.cfgB a b c e=true) (hn:cs.length=n) (hk:l.length=k) (hk8:k<=8) (hT:Shaped5 w) (hC:a39 w ao cs) (hL:FlAt w po l) (hnl:n<=9223372036854775807) (h0:0<=th) (h1:th<b):Calls Tryz.prog 81 #[cfgV a b c e,.int .i64 th,.agg #[.int .i64 t,.slice ao n cap],.slice po k co] w fun r w'=>∃ bx,r=.returned (.pointer (some ⟨bx,0,none⟩))/\Made w w' bx (newY a b c e t cs l th):=by
 have HN:Hid (∀ u,Bl w u->Calls Tryz.prog 88 #[cfgV a b c e,.agg #[.int .i64 t,.slice ao n cap],.slice po k co] u fun r w'=>∃ bm K,r=.returned (.pointer (some ⟨bm,0,none⟩))/\Gm u [] bm K w' (newM a c e t cs l)/\Abv u.heap.size K):=fun u hb=>aR7 hn hk (hT.on hb) (hC.on hb) (hL.on hb) hnl hc hk8
 have HP:=zH (fun u=>Md.place_any a b c e u);have HX:Hid (∀ u,Below (newW w a b c e t ao n cap).heap.size (newW w a b c e t ao n cap) u->u.heap[w.heap.size]?=some (cfgO a b c e)/\u.heap[w.heap.size+1]?=some (prgO t ao n cap)/\Bl w u):=fun u q=>⟨(q.block _ (by simp;omega)).trans (heap_old (zN _ _)),(q.block _ (by simp)).trans (aa4 (by simp)),(a46 q).2.2⟩
 have HFX:Hid (∀ u,Bl w u->Calls Tryz.prog 89 #[.slice po k co] u fun e w'=>e=.returned (.slice (some ⟨u.heap.size,0,none⟩) k k)/\RowAt 49 w' (some ⟨u.heap.size,0,none⟩) k (fls (l.map fixB))/\Bl u w'):=fun u hb=>av7 hk (hL.on hb) hk8
 have HMD:Hid (∀ u2 u3 bm K N v,Bl w N->Gm N [] bm K u2 (newM a c e t cs l)->Abv N.heap.size K->RowAt 49 u3 (some ⟨u2.heap.size,0,none⟩) k (fls (l.map fixB))->Bl u2 u3->v=(((u3.alloc (.cells (aY4 b (3+b) (3+b+3*a) t u2.heap.size k bm) 159)).setCell ⟨u3.heap.size,11,none⟩ (.int .i64 1)).setCell ⟨u3.heap.size,12,none⟩ (.func (.func 91) #[] #[]))->Made w v u3.heap.size (newY a b c e t cs l th)):=fun u2 u3 bm K N v q1 q2 q3 q4 q5 q6=>aN0 hk q1 q2 q3 q4 q5 q6
 simp only[hc]at HP;clear hc hn hk hk8 hT hC hL hnl
 generalize newY a b c e t cs l th=X at *
 generalize newM a c e t cs l=m0 at *
 obtain⟨p5,h5⟩:∃ p5,3+b+3*a=p5:=⟨_,rfl⟩
 obtain⟨p4,h4⟩:∃ p4,3+b=p4:=⟨_,rfl⟩
 rw[h5,h4]at HMD HP;clear h4 h5;go_enter Tryz.func81,Tryz.ntmps81
 go_wp2_with (first
  | (go_at_call 88;refine(HN.out _ (HX.out _ (H1.out.alloc H1.out.size _)).2.2).mono ?_;rintro e u2 ⟨bm,K,rfl,q1,q2⟩;have G2:=zH (And.intro q1 q2);have H2:=zH (a20 (H1.out.alloc H1.out.size _) q1.fresh);obtain⟨x0,x1,x2,x3,x4⟩:=cells4 (HX.out _ H2.out).1;obtain⟨s0,s1,s2⟩:=aG3 (HX.out _ H2.out).2.1;obtain⟨t0,t1,t2,t3,t4,t5,t6⟩:=aP9 ((q1.fresh.block _ (by simp)).trans (zN u1 (.cells #[.int .i64 0,.int .i64 1,.int .i64 2,.int .i64 3,.int .i64 p4,.int .i64 p5] 64)));clear q1 q2)
  | (go_at_call 27;refine(HP.out _).mono ?_;rintro e u1 ⟨rfl,q⟩;have H1:=zH q;obtain⟨b0,b1,b3⟩:=HX.out _ q;obtain⟨c0,c1,c2,c3,c4⟩:=cells4 b0;obtain⟨d0,d1,d2⟩:=aG3 b1;clear b0 b1 b3 q))
 clear c0 c1 c2 c3 c4 d0 d1 d2 x0 x2 x3 s1;have B2:Hid (Bl w u2):=(HX.out _ H2.out).2.2;refine a06 (fun u=>(u.cell? ⟨u1.heap.size,0,none⟩=some (.int .i64 0)/\u.cell? ⟨u1.heap.size,1,none⟩=some (.int .i64 1)/\u.cell? ⟨u1.heap.size,2,none⟩=some (.int .i64 2)/\u.cell? ⟨u1.heap.size,3,none⟩=some (.int .i64 3)/\u.cell? ⟨u1.heap.size,4,none⟩=some (.int .i64 p4)/\u.cell? ⟨u1.heap.size,5,none⟩=some (.int .i64 p5))/\u.cell? ⟨w.heap.size,1,none⟩=some (.int .i64 b)/\u.cell? ⟨w.heap.size+1,0,none⟩=some (.int .i64 t) )  ((0,true)::(1,true)::(2,true)::(3,true)::(4,true)::(5,true)::(7,true)::(6,false)::(8,true)::(9,false)::(10,true)::[])  Md.Cv.follows13 (by kernel_rfl) (fun _ _ _ _ _ h=>h)  ⟨⟨t0,t1,t2,t3,t4,t5⟩,x1,s0⟩ ?_
 (repeat ((first | (refine a02 (v:=?_) rfl (by rfl) (fun wq hSq=>?_) ?_;rotate_left;(focus ((try dsimp only at hSq);go_simp;try with_reducible rfl))) | refine a03 rfl (by rfl) ?_);simp only[Act.put,zA,zB,zC]))
 (refine a04 rfl (by rfl) (fun KK hK=>?_);go_simp)
 refine(HFX.out _ (B2.out.trans ((Same.drew u2).below _))).mono ?_;rintro e u3 ⟨rfl,q1,q2⟩;have H3:Hid (RowAt 49 u3 (some ⟨u2.heap.size,0,none⟩) k (fls (l.map fixB))/\Bl u2 u3):=⟨q1,((Same.drew u2).below _).trans q2⟩;clear q1 q2;have ck:∀ (g j:Nat) (v:Value),g<u2.heap.size->u2.cell? ⟨g,j,none⟩=some v->u3.cell? ⟨g,j,none⟩=some v:=fun g j v hg hv=>(H3.out.2.cell (p:=⟨g,j,none⟩) hg).trans hv
 have ck2:∀ (o:Obj) (g j:Nat) (v:Value),g<u2.heap.size->u2.cell? ⟨g,j,none⟩=some v->(u3.alloc o).cell? ⟨g,j,none⟩=some v:=fun o g j v hg hv=>(World.cell?_alloc_old _ _ _ (by have:=H3.out.2.size;show g≠u3.heap.size;omega)).trans (ck g j v hg hv)
 refine hK.out _ _ ⟨⟨ck _ _ _ t6 t0,ck _ _ _ t6 t1,ck _ _ _ t6 t2,ck _ _ _ t6 t3,ck _ _ _ t6 t4,ck _ _ _ t6 t5⟩,ck _ _ _ x4 x1,ck _ _ _ s2 s0⟩ ?_
 (clear hK KK;try simp only[Act.put,zA,zB,zC])
 (repeat ((first | (refine a02 (v:=?_) rfl (by rfl) (fun wq hSq=>?_) ?_;rotate_left;(focus ((try dsimp only at hSq);go_simp;try with_reducible rfl))) | refine a03 rfl (by rfl) ?_);simp only[Act.put,zA,zB,zC]))
 (refine a04 rfl (by rfl) (fun KK hK=>?_);go_simp)
 refine hK.out _ _ ⟨⟨ck2 _ _ _ _ t6 t0,ck2 _ _ _ _ t6 t1,ck2 _ _ _ _ t6 t2,ck2 _ _ _ _ t6 t3,ck2 _ _ _ _ t6 t4,ck2 _ _ _ _ t6 t5⟩,ck2 _ _ _ _ x4 x1,ck2 _ _ _ _ s2 s0⟩ ?_;clear ck ck2
 (clear hK KK;try simp only[Act.put,zA,zB,zC])
 (repeat ((first | (refine a02 (v:=?_) rfl (by rfl) (fun wq hSq=>?_) ?_;rotate_left;(focus ((try dsimp only at hSq);go_simp;try with_reducible rfl))) | refine a03 rfl (by rfl) ?_);simp only[Act.put,zA,zB,zC]))
 refine a13 ?_;clear t0 t1 t2 t3 t4 t5 t6 x1 x4 s0 s2;have HTT:Hid (Calls Tryz.prog 90 #[.pointer (some ⟨u3.heap.size,0,none⟩),.int .i64 1,.func (.func 91) #[] #[]] (u3.alloc (.cells (aY4 b p4 p5 t u2.heap.size k bm) 159)) fun e w'=>e=.returned (.tuple #[])/\w'=((u3.alloc (.cells (aY4 b p4 p5 t u2.heap.size k bm) 159)).setCell ⟨u3.heap.size,11,none⟩ (.int .i64 1)).setCell ⟨u3.heap.size,12,none⟩ (.func (.func 91) #[] #[])):=aY0 (zN _ _) 91
 go_wp2_with (go_at_call 90;refine HTT.out.mono ?_;rintro e u4 ⟨rfl,hu⟩;have HU:=zH hu;clear hu HTT)
 go_ret;exact⟨_,rfl,HMD.out _ _ _ _ _ _ (HX.out _ (H1.out.alloc H1.out.size _)).2.2 G2.out.1 G2.out.2 H3.out.1 H3.out.2 HU.out⟩
end
end Go.Proofs.YtipakfjpfjehmaaGreatDoor.Ww
namespace Go.Proofs.YtipakfjpfjehmaaGreatDoor.Md.Ce
open Go.ChangeShapes Go.WideShapes Go.ChangeAt Go.RowKit Num
attribute [local go_sem] a00 run_store_func run_store_nilFunc
def FlAt (w:World) (L:List Nat) (p:Option Addr) (l:List Nat):Prop :=
 ∀ i,i<l.length->∃ g o,p=some ⟨g,o,none⟩/\g<w.heap.size/\g∉L/\w.cell? ⟨g,o+i,none⟩=some (.float .f64 (l.getD i 0))
theorem FlAt.ch {w w':World} {L:List Nat} {p:Option Addr} {l:List Nat} (h:FlAt w L p l) (k:Ch L w w'):FlAt w' L p l:=fun i hi=>by
 obtain⟨g,o,h1,h2,h3,h4⟩:=h i hi;exact⟨g,o,h1,zL h2 k.size,h3,(World.cell?_of_block (a:=⟨g,o+i,none⟩) (k.block g h2 h3)).trans h4⟩
def aJ4 (a b c d p f:Int):Array Value:=#[.int .i64 a,.int .i64 b,.int .i64 c,.int .i64 d,.int .i64 p,.int .i64 f]
structure Sa (w wr:World) (b g:Nat) (P:Array Value) (ws:List Int) (o:Bool) (n:Int):Prop where
 mem:MemAt 106 wr b g ws o n
 chg:Chg b g w wr
 plan:wr.heap[w.heap.size]?=some (.cells P 64 (0,0))
 lb:b<w.heap.size
 lg:g<w.heap.size
section
variable {w wr u:World} {b g:Nat} {P:Array Value} {ws ws':List Int} {o o':Bool} {n n':Int}
theorem Sa.on (h:Sa w wr b g P ws o n) (k:Bl wr u):Sa w u b g P ws o n :=
 ⟨h.mem.on k,h.chg.trans ⟨k.os,k.tape,k.output,k.size,fun i hi _ _=>k.block i hi⟩,(k.block _ (lt_of_block h.plan)).trans h.plan,h.lb,h.lg⟩
theorem Sa.next (h:Sa w wr b g P ws o n) (m:MemAt 106 u b g ws' o' n') (k:Chg b g wr u):Sa w u b g P ws' o' n' :=
 ⟨m,h.chg.trans k,(k.block _ (lt_of_block h.plan) (by have:=h.lb;omega) (by have:=h.lg;omega)).trans h.plan,h.lb,h.lg⟩
end
structure Sb (w wr u:World) (b g:Nat) (P:Array Value) (p c:Int) (ws:List Int) (o:Bool) (n:Int):Prop where
 sa:Sa w u b g P ws o n
 spot:u.heap[wr.heap.size]?=some (.cells #[.int .i64 p,.int .i64 c] 112 (0,0))
 big:w.heap.size<=wr.heap.size
section
variable {w wr u u':World} {b g:Nat} {P:Array Value} {p c:Int} {ws ws':List Int} {o o':Bool} {n n':Int}
theorem Sb.on (h:Sb w wr u b g P p c ws o n) (k:Bl u u'):Sb w wr u' b g P p c ws o n:=⟨h.sa.on k,(k.block _ (lt_of_block h.spot)).trans h.spot,h.big⟩
theorem Sb.next (h:Sb w wr u b g P p c ws o n) (m:MemAt 106 u' b g ws' o' n') (k:Chg b g u u'):Sb w wr u' b g P p c ws' o' n' :=
 ⟨h.sa.next m k,(k.block _ (lt_of_block h.spot) (by have:=h.big;have:=h.sa.lb;omega) (by have:=h.big;have:=h.sa.lg;omega)).trans h.spot,h.big⟩
end
theorem box6 {w:World} {x:Nat} {a1 a2 a3 a4 p a6:Int} {T:TypeId} (h:w.heap[x]?=some (.cells (aJ4 a1 a2 a3 a4 p a6) T (0,0))):(w.cell? ⟨x,0,none⟩=some (.int .i64 a1)/\w.cell? ⟨x,1,none⟩=some (.int .i64 a2)/\w.cell? ⟨x,2,none⟩=some (.int .i64 a3)/\w.cell? ⟨x,3,none⟩=some (.int .i64 a4)/\w.cell? ⟨x,4,none⟩=some (.int .i64 p)/\w.cell? ⟨x,5,none⟩=some (.int .i64 a6)/\x<w.heap.size) :=
 ⟨by rw[zR w x 0 _ _ _ h];rfl,by rw[zR w x 1 _ _ _ h];rfl,by rw[zR w x 2 _ _ _ h];rfl,by rw[zR w x 3 _ _ _ h];rfl,by rw[zR w x 4 _ _ _ h];rfl,by rw[zR w x 5 _ _ _ h];rfl,lt_of_block h⟩
def laidC (ws:List Int) (p:Int) (i:Nat) (x:Nat):List Int:=poked (poked (poked ws (placeI p i 0) 0) (placeI p i 1) (fixB x)) (placeI p i 2) 0
def startL (ws:List Int) (p:Int) (l:List Nat):Nat->List Int
 | 0=>ws
 | k+1=>laidC (startL ws p l k) p k (l.getD k 0)
def startE (ws:List Int) (p:Int) (l:List Nat):Int:=if 256<l.length then 2 else if (List.range l.length).all (fun i=>okP ws p i) then 0 else 30
theorem aR6 {k:Nat} (h:k<256):mayC k=true:=zT ⟨by omega,by omega⟩
section
variable {w:World} {b g:Nat} {ws:List Int} {o:Bool} {n:Int} {ao:Option Addr} {cap:Nat} {l:List Nat}
theorem aX4 (a1 a2 a3 a4 p a6:Int) {m:Nat} (hl:256<m) (w:World):Calls Tryz.prog 29 #[.pointer (some ⟨b,0,none⟩),planV a1 a2 a3 a4 p a6,.slice ao m cap] w fun e w'=>e=.returned (.int .i64 2)/\Bl w w':=by
 have hl':(256:Int)<(m:Int):=by omega
 unfold planV;go_enter Tryz.func29,Tryz.ntmps29
 go_wp2
 go_ret;exact⟨rfl,a31 (zF _ _) _⟩
theorem bn6 (h:MemAt 106 w b g ws o n) (hf:FlAt w [b,g] ao l) (a1 a2 a3 a4 p a6:Int) {m:Nat} (hm:l.length=m) (hl:m<=256):Calls Tryz.prog 29 #[.pointer (some ⟨b,0,none⟩),planV a1 a2 a3 a4 p a6,.slice ao m cap] w fun e w'=>((e=.returned (.int .i64 0)/\(∀ j:Nat,j<m->okP ws p j=true)/\MemAt 106 w' b g (startL ws p l m) o n)∨(e=.returned (.int .i64 30)/\(∃ j:Nat,j<m/\okP ws p j=false)/\MemAt 106 w' b g ws o n))/\Chg b g w w':=by
 have hl':¬ (256:Int)<(m:Int):=by omega
 have HSA:Hid (Sa w (w.alloc (.cells (aJ4 a1 a2 a3 a4 p a6) 64)) b g (aJ4 a1 a2 a3 a4 p a6) ws o n):=⟨h.alloc _,(Chg.refl _ _ _).alloc _,aa3 rfl,h.ltB,h.ltG⟩;have HPK:Hid (∀ u ws',Sa w u b g (aJ4 a1 a2 a3 a4 p a6) ws' o n->∀ c:Int,Calls Tryz.prog 53 #[.pointer (some ⟨b,0,none⟩),planV a1 a2 a3 a4 p a6,.int .i64 c] u fun e w'=>e=.returned (.tuple #[ay5 (peekW ws' p c 0) (peekW ws' p c 1) (peekW ws' p c 2),.int .i64 (peekE ws' p c)])/\Bl u w'):=fun u ws' k c=>cpeek_any k.mem a1 a2 a3 a4 p a6 c
 have HFL:Hid (∀ u ws' ,Sa w u b g (aJ4 a1 a2 a3 a4 p a6) ws' o n->∀ k,k<m->∃ g o,ao=some ⟨g,o,none⟩/\g<u.heap.size/\u.cell? ⟨g,o+k,none⟩=some (.float .f64 (l.getD k 0))):=fun u ws' q k hk=>by
  obtain⟨g',o',h1,h2,h3,h4⟩:=(hf.ch (q.chg.ch (by simp) (by simp))) k (by omega);exact⟨g',o',h1,h2,h4⟩
 have HML:=zH (And.intro hm hl);unfold planV at HPK ⊢;clear h hf hm hl;go_enter Tryz.func29,Tryz.ntmps29
 go_wp2
 go_loopw [18] (fun vi wr=>∃ k:Nat,vi=.int .i64 k/\k<=m/\Hid (Sa w wr b g (aJ4 a1 a2 a3 a4 p a6) ws o n)/\Hid (∀ j:Nat,j<k->okP ws p j=true)) (fun vi _=>m - (intOf vi).toNat)
 case atStart=>exact⟨0,rfl,zV _,HSA,fun j hj=>absurd hj (zI j)⟩
 case round =>
  clear HSA;obtain⟨k,rfl,hk,HS,HK⟩:=hrel;obtain⟨p0,p1,p2,p3,p4,p5,p6⟩:=box6 HS.out.plan
  by_cases hlt:k<m
  ·have hlt':(k:Int)<(m:Int):=by omega
   have hmc:mayC k=true:=aR6 (by have:=HML.out.2;omega);have HPKK:=zH (HPK.out wr ws HS.out k)
   cases hh:okP ws p k
   ·have HEX:Hid (∃ j:Nat,j<m/\okP ws p j=false):=⟨k,hlt,hh⟩
    have e1:peekE ws p k=30:=by simp[peekE,hmc,hh]
    simp only[peekW,e1]at HPKK
    simp at HPKK
    unfold ay5 at HPKK;clear hh hmc e1 hk hlt HPK HFL HML HK
    go_wp2_with (go_at_call 53;refine HPKK.out.mono ?_;rintro e w2 ⟨rfl,hw⟩;have HS2:=zH (HS.out.on hw);clear hw HS)
    go_ret;exact⟨.inr ⟨rfl,HEX.out,(HS2.out.on (by repeat (first | exact zF _ _ | refine a55 ?_ | refine bl_drewN _ ?_ | refine a31 ?_ _ | refine a22 ?_ (by simp) _ _ | refine bl_setRow ?_ (by simp) _))).mem⟩,(HS2.out.on (by repeat (first | exact zF _ _ | refine a55 ?_ | refine bl_drewN _ ?_ | refine a31 ?_ _ | refine a22 ?_ (by simp) _ _ | refine bl_setRow ?_ (by simp) _))).chg⟩
   ·have HALL:Hid (∀ j:Nat,j<k+1->okP ws p j=true):=fun j hj=>by
     by_cases e:j=k
     ·subst e;exact hh
     ·exact HK.out j (by omega)
    have e1:peekE ws p k=0:=by simp[peekE,hmc,hh]
    simp only[peekW,e1]at HPKK
    simp at HPKK
    unfold ay5 at HPKK
    generalize wordC ws p k 0=x0 at HPKK
    generalize wordC ws p k 1=x1 at HPKK
    generalize wordC ws p k 2=x2 at HPKK
    clear hh hmc e1 hk HPK HFL HML HK
    go_wp2_with (go_at_call 53;refine HPKK.out.mono ?_;rintro e w2 ⟨rfl,hw⟩;have HS2:=zH (HS.out.on hw);clear hw HS)
    exact⟨⟨k+1,by first | rfl | (congr 1),by omega,HS2.out.on (by repeat (first | exact zF _ _ | refine a55 ?_ | refine bl_drewN _ ?_ | refine a31 ?_ _ | refine a22 ?_ (by simp) _ _ | refine bl_setRow ?_ (by simp) _)),HALL⟩,by simp[intOf];omega⟩
  ·have hlt':¬ (k:Int)<(m:Int):=by omega
   obtain rfl:k=m:=by omega
   clear hlt hk HPK
   go_wp2
   go_loopw [34] (fun vi w2=>∃ j:Nat,vi=.int .i64 j/\j<=k/\Hid (Sa w w2 b g (aJ4 a1 a2 a3 a4 p a6) (startL ws p l j) o n)) (fun vi _=>k - (intOf vi).toNat)
   case atStart=>exact⟨0,rfl,zV _,HS⟩
   case round =>
    clear HS p0 p1 p2 p3 p4 p5 p6 hlt';obtain⟨j,rfl,hj,HS⟩:=hrel;obtain⟨p0,p1,p2,p3,p4,p5,p6⟩:=box6 HS.out.plan
    by_cases hlt:j<k
    ·have hlt':(j:Int)<(k:Int):=by omega
     have hmc:mayC j=true:=aR6 (by have:=HML.out.2;omega);have HPL:=zH (fun (i:Int) (hi:0<=i/\i<3)=>a69 p j i hmc hi);obtain⟨g2,o2,hao,hg2,hx⟩:=HFL.out wr _ HS.out j hlt;subst hao;have HNX:Hid (startL ws p l (j+1)=laidC (startL ws p l j) p j (l.getD j 0)):=rfl
     generalize startL ws p l j=z0 at HS HNX
     generalize l.getD j 0=x at hx HNX
     clear hmc HFL HML hj;have HX:Hid (Sb w wr (wr.alloc (.cells #[.int .i64 p,.int .i64 j] 112)) b g (aJ4 a1 a2 a3 a4 p a6) p j z0 o n):=⟨HS.out.on (a31 (zF _ _) _),aa3 rfl,by omega⟩
     go_wp2_with (first
      | (go_at_call 56;refine(am2 _ _).mono ?_;rintro e w2 ⟨rfl,hw⟩;subst w2)
      | (go_at_call 55;refine(HPL.out _ (by omega) _).mono ?_;rintro e w2 ⟨rfl,hw⟩;replace HX:=zH (HX.out.on hw);obtain⟨q0,q1,q2⟩:=box2 HX.out.spot;clear hw)
      | (go_at_call 54;refine(bj4 HX.out.sa.mem _ _).mono ?_;rintro e w2 ⟨rfl,hm,hc⟩;replace HX:=zH (HX.out.next hm hc);obtain⟨q0,q1,q2⟩:=box2 HX.out.spot;clear hm hc))
     refine⟨⟨j+1,by first | rfl | (congr 1),by omega,?_⟩,by simp[intOf];omega⟩;have e0:fixB 0=0:=by decide
     have hz:=HX.out.sa;rw[e0]at hz
     show Sa _ _ _ _ _ _ _ _
     rw[HNX.out];exact hz
    ·have hlt':¬ (j:Int)<(k:Int):=by omega
     obtain rfl:j=k:=by omega
     clear hlt hj
     go_wp2
     go_ret;exact⟨.inl ⟨rfl,HK.out,HS.out.mem⟩,HS.out.chg⟩
def startW (ws:List Int) (p:Int) (l:List Nat):List Int:=if startE ws p l=0 then startL ws p l l.length else ws
theorem start_any (h:MemAt 106 w b g ws o n) (hf:FlAt w [b,g] ao l) (a1 a2 a3 a4 p a6:Int):Calls Tryz.prog 29 #[.pointer (some ⟨b,0,none⟩),planV a1 a2 a3 a4 p a6,.slice ao l.length cap] w fun e w'=>e=.returned (.int .i64 (startE ws p l))/\MemAt 106 w' b g (startW ws p l) o n/\Chg b g w w':=by
 by_cases hl:256<l.length
 ·have e1:startE ws p l=2:=by simp[startE,hl]
  have e2:startW ws p l=ws:=by simp[startW,e1]
  rw[e1,e2];exact(aX4 a1 a2 a3 a4 p a6 hl w).mono fun e w' ⟨he,hb⟩=>⟨he,h.on hb,⟨hb.os,hb.tape,hb.output,hb.size,fun i hi _ _=>hb.block i hi⟩⟩
 ·refine(bn6 h hf a1 a2 a3 a4 p a6 rfl (by omega)).mono fun e w' ⟨he,hc⟩=>?_
  rcases he with⟨he,ha,hm⟩ | ⟨he,⟨j,hj,hn⟩,hm⟩
  ·have e1:startE ws p l=0:=by
    have:(List.range l.length).all (fun i=>okP ws p i)=true:=by
     rw[List.all_eq_true];exact fun j hj=>ha j (List.mem_range.1 hj)
    simp only[startE,hl,this,if_false,if_true]
   rw[startW,e1,if_pos rfl];exact⟨he,hm,hc⟩
  ·have e1:startE ws p l=30:=by
    have:¬ (List.range l.length).all (fun i=>okP ws p i)=true:=by
     rw[List.all_eq_true];intro q;have:=q j (List.mem_range.2 hj);rw[hn]at this
     cases this
    simp only[startE,hl,this,if_false]
    rfl
   rw[startW,e1,if_neg (by decide)];exact⟨he,hm,hc⟩
end
end Go.Proofs.YtipakfjpfjehmaaGreatDoor.Md.Ce
namespace Go.Proofs.YtipakfjpfjehmaaGreatDoor.En
open Go.ChangeShapes Go.WideShapes Go.ChangeAt Go.RowKit Num Ww
open Rr (Rx a19 InX okW u64B Alike step_in newX a43)
structure Su where
 a:Int
 b:Int
 c:Int
 e:Int
 st:List Nat
 pg:List (Int × List Ins)
 cl:List (List (Int × List Nat))
def Su.n (s:Su):Nat:=s.b.toNat
def Su.cs (s:Su) (t:Nat):List (Int × List Nat):=s.cl.getD t []
def Su.call (s:Su) (t j:Nat):Int × List Nat:=(s.cs t).getD j (0,[])
def Su.prog (s:Su) (k:Int):Int × List Ins:=s.pg.getD k.toNat (0,[])
def newT (s:Su) (t:Nat) (x:Int × List Nat):Ty :=
 if (s.prog x.1).1=2 then .inr ((newY s.a s.b s.c s.e (s.prog x.1).1 (s.prog x.1).2 x.2 t).m,newY s.a s.b s.c s.e (s.prog x.1).1 (s.prog x.1).2 x.2 t)
 else .inl ((newX s.a s.b s.c s.e (s.prog x.1).1 (s.prog x.1).2 x.2 t).m,newX s.a s.b s.c s.e (s.prog x.1).1 (s.prog x.1).2 x.2 t)
def a98 (s:Su):List Int:=Md.Ce.startW (List.replicate (3+s.b+3*s.a).toNat 0) (3+s.b) s.st
def E0 (s:Su):Eg:=⟨⟨s.a,s.b⟩,s.n,fun t=>(s.cs t).length,fun t j=>some (newT s t (s.call t j)),fun _=>none,fun _=>0,a98 s,0,0,0⟩
def X0 (s:Su):Rs:=⟨⟨E0 s,fun _=>⟨0,0,0,0,newT s 0 (0,[])⟩,0,fun _=>0,0⟩,fun _=>false,0,fun _=>0,fun _=>0,fun _=>0⟩
def a61 (np:Nat) (x:Int × List Nat):Bool:=decide (0<=x.1) && decide (x.1<(np:Int)) && decide (x.2.length<=8)
def errS (s:Su):Int :=
 if Md.cfgB s.a s.b s.c s.e && decide ((s.st.length:Int)<=s.a) then
  (if decide (64<s.pg.length) || decide (s.b<(s.cl.length:Int)) || s.cl.any (fun l=>decide (64<l.length)) then 160
   else if s.cl.all (fun l=>l.all (a61 s.pg.length)) then 0 else 1)
 else 1
structure SuOk (s:Su):Prop where
 st:∀ x∈s.st,x<18446744073709551616
 pg:∀ p∈s.pg,∀ k,k<p.2.length->(ci p.2 k).x<18446744073709551616
 cl:∀ l∈s.cl,∀ x∈l,∀ v∈x.2,v<18446744073709551616
structure SuIn (s:Su):Prop extends SuOk s where
 cfg:Md.cfgB s.a s.b s.c s.e=true
 sl:(s.st.length:Int)<=s.a
 pl:s.pg.length<=64
 tl:(s.cl.length:Int)<=s.b
 ml:∀ l∈s.cl,l.length<=64
 may:∀ l∈s.cl,∀ x∈l,a61 s.pg.length x=true
theorem suIn {s:Su} (h:SuOk s) (e:errS s=0):SuIn s:=by
 unfold errS at e
 split at e
 ·next h1 =>
  split at e
  ·cases e
  ·next h2 =>
   split at e
   ·next h3 =>
    simp only[Bool.and_eq_true,decide_eq_true_eq]at h1;simp only[Bool.or_eq_true,decide_eq_true_eq,List.any_eq_true,not_or,not_exists,not_and,Nat.not_lt,Int.not_lt]at h2;simp only[List.all_eq_true]at h3;exact⟨h,h1.1,h1.2,h2.1.1,h2.1.2,h2.2,h3⟩
   ·cases e
 ·cases e
theorem SuIn.b8 {s:Su} (h:SuIn s):1<=s.b/\s.b<=8:=(Md.cfgB_iff.1 h.cfg).2.1
theorem SuIn.a256 {s:Su} (h:SuIn s):1<=s.a/\s.a<=256:=(Md.cfgB_iff.1 h.cfg).1
theorem SuIn.nb {s:Su} (h:SuIn s):(s.n:Int)=s.b:=by have:=h.b8;unfold Su.n;omega
theorem Su.csIn {s:Su} {t j:Nat} (hj:j<(s.cs t).length):s.cs t∈s.cl/\s.call t j∈s.cs t:=by
 unfold Su.call;rw[zG,List.getElem?_eq_getElem hj];refine⟨?_,List.getElem_mem _⟩;unfold Su.cs at hj ⊢;rw[zG]at hj ⊢
 cases e:s.cl[t]? with
 | none=>rw[e]at hj;simp at hj
 | some l=>exact List.mem_of_getElem? e
theorem SuIn.few {s:Su} (h:SuIn s) (t:Nat):(s.cs t).length<=64:=by
 by_cases q:0<(s.cs t).length
 ·exact h.ml _ (Su.csIn q).1
 ·omega
theorem SuIn.prog {s:Su} (h:SuIn s) (k:Int):∀ j,j<(s.prog k).2.length->(ci (s.prog k).2 j).x<18446744073709551616:=by
 unfold Su.prog;rw[zG]
 cases e:s.pg[k.toNat]? with
 | none=>intro j hj;simp at hj
 | some p=>exact h.pg p (List.mem_of_getElem? e)
theorem SuIn.args {s:Su} (h:SuIn s) {t j:Nat} (hj:j<(s.cs t).length):(∀ v∈(s.call t j).2,v<18446744073709551616)/\(s.call t j).2.length<=8/\0<=(s.call t j).1/\(s.call t j).1<(s.pg.length:Int):=by
 obtain⟨h1,h2⟩:=Su.csIn hj;have:=h.may _ h1 _ h2;simp only[a61,Bool.and_eq_true,decide_eq_true_eq]at this;exact⟨h.cl _ h1 _ h2,this.2,this.1.1,this.1.2⟩
def TIn (s:Su) (t:Nat) (N:Int):Ty->Prop
 | .inl (_,x)=>InX x/\x.a=s.a/\x.b=s.b/\x.th=(t:Int)
 | .inr (_,x)=>InY x/\x.a=s.a/\x.b=s.b/\x.th=(t:Int)/\0<=x.steps/\x.steps<=N
theorem TIn.mono {s:Su} {t:Nat} {N N':Int} {y:Ty} (h:TIn s t N y) (k:N<=N'):TIn s t N' y:=by
 rcases y with⟨_,x⟩ | ⟨_,x⟩
 ·exact h
 ·obtain⟨h1,h2,h3,h4,h5,h6⟩:=h
  exact⟨h1,h2,h3,h4,h5,by omega⟩
theorem bi5 {s:Su} (h:SuIn s) {t j:Nat} (ht:t<s.n) (hj:j<(s.cs t).length):TIn s t 0 (newT s t (s.call t j))/\a51 (newT s t (s.call t j))=false:=by
 obtain⟨h1,h2,_⟩:=h.args hj;have hn:=h.nb;unfold newT
 split
 ·exact⟨⟨bw6 h.cfg (h.prog _) h1 h2 ⟨by omega,by omega⟩,rfl,rfl,rfl,zW _,zW _⟩,rfl⟩
 ·exact⟨⟨a43 h.cfg (h.prog _) h1 h2 ⟨by omega,by omega⟩,rfl,rfl,rfl⟩,rfl⟩
def goW:Ty->List Int->List Int
 | .inl (_,x),ws=>(a19 x ws).2.1
 | .inr (_,x),ws=>(a09 x ws).2.1
def goA:Ty->List Int->Bool
 | .inl (_,x),ws=>(a19 x ws).2.2
 | .inr (_,x),ws=>(a09 x ws).2.2
theorem TIn.goes {s:Su} {t:Nat} {N:Int} {y:Ty} {ws:List Int} (h:TIn s t N y) (ho:a51 y=false) (hw:okW ws):TIn s t (N+1) (goS y ws)/\okW (goW y ws)/\(goW y ws).length=ws.length:=by
 rcases y with⟨_,x⟩ | ⟨_,x⟩
 ·obtain⟨h1,h2,h3,h4⟩:=h
  obtain⟨k1,k2,_,k4,k5⟩:=step_in h1 (zM ho) hw;exact⟨⟨k1,k2.a.trans h2,k2.b.trans h3,k2.th.trans h4⟩,k4,k5⟩
 ·obtain⟨h1,h2,h3,h4,h5,h6⟩:=h
  obtain⟨k1,k2,k3,k4,k5⟩:=a94 h1 (zM ho) hw;exact⟨⟨k1,k2.a.trans h2,k2.b.trans h3,k2.th.trans h4,by omega,by omega⟩,k4,k5⟩
theorem bf9 (y:Ty) (ws:List Int):(goT (some y) ws).1=(if a51 (goS y ws) then none else some (goS y ws))/\(goT (some y) ws).2.1=goW y ws/\(goT (some y) ws).2.2.1=goA y ws:=by
 rcases y with⟨m,x⟩ | ⟨m,x⟩
 ·refine⟨?_,rfl,rfl⟩
  simp only[goT,goS,a51,decide_eq_true_eq]
 ·refine⟨?_,rfl,rfl⟩
  simp only[goT,goS,a51,decide_eq_true_eq]
structure WI (s:Su) (X:Rs):Prop where
 n:X.H.E.n=s.n
 nc:X.H.E.nc=fun t=>(s.cs t).length
 nx:X.H.E.nx=fun t j=>some (newT s t (s.call t j))
 ok:okW X.H.E.ws
 len:(X.H.E.ws.length:Int)=3+s.b+3*s.a
 T:∀ t y,t<s.n->X.H.E.T t=some y->TIn s t X.H.N y/\a51 y=false
 bg:∀ t,t<s.n->X.H.E.B t<=(s.cs t).length
 dn:X.H.dn=su X.H.E.B s.n
 up:∀ t y,t<s.n->X.H.E.T t=some y->X.H.at_ t<X.H.dn/\(X.H.D (X.H.at_ t)).th=t/\(X.H.D (X.H.at_ t)).en=0/\(X.H.D (X.H.at_ t)).tx=y
 un:∀ i,i<X.H.dn->(X.H.D i).en=0->X.H.E.T (X.H.D i).th=some (X.H.D i).tx/\X.H.at_ (X.H.D i).th=i
 D:∀ i,i<X.H.dn->(X.H.D i).th<s.n/\TIn s (X.H.D i).th X.H.N (X.H.D i).tx/\1<=(X.H.D i).bg/\(X.H.D i).bg<=X.H.N/\(X.H.D i).en<=X.H.N/\(X.H.D i).no<(s.cs (X.H.D i).th).length/\(a51 (X.H.D i).tx=true ↔ (X.H.D i).en≠0)
theorem ba7 {f:Nat->Nat} {m:Nat}:∀ n,(∀ i,i<n->f i<=m)->su f n<=m*n
 | 0,_=>zE _
 | n+1,h=>by
  have:=ba7 n (fun i hi=>h i (by omega));have:=h n (by omega)
  show su f n+f n<=m*(n+1)
  rw[Nat.mul_add];omega
section
variable {s:Su} {X:Rs} {t:Nat}
theorem WI.few (h:WI s X) (hs:SuIn s):X.H.dn<=512:=by
 have:=ba7 (f:=X.H.E.B) (m:=64) s.n (fun i hi=>zQ (h.bg i hi) (hs.few i));have:=hs.b8;have:=hs.nb;have:=h.dn;omega
theorem WI.less (h:WI s X) (ht:t<s.n) (hf:¬ finE X.H.E t) (hT:X.H.E.T t=none):X.H.E.B t<(s.cs t).length:=by
 have:=h.bg t ht
 rcases Nat.lt_or_eq_of_le this with q | q
 ·exact q
 ·exact absurd ⟨hT,by rw[h.nc];exact q⟩ hf
theorem as4 (h:WI s X) (hT:X.H.E.T t=none):begH X.H t={ X.H with E:={ X.H.E with T:=upT X.H.E.T t (some (newT s t (s.call t (X.H.E.B t)))),B:=updN X.H.E.B t (X.H.E.B t+1),drw:=X.H.E.drw+(isW (some (newT s t (s.call t (X.H.E.B t))))).toNat },D:=updD X.H.D X.H.dn ⟨t,X.H.E.B t,X.H.N+1,0,newT s t (s.call t (X.H.E.B t))⟩,dn:=X.H.dn+1,at_:=updN X.H.at_ t X.H.dn,N:=X.H.N+1 }:=by
 have e:X.H.E.nx t (X.H.E.B t)=some (newT s t (s.call t (X.H.E.B t))):=by rw[h.nx]
 unfold begH begE;rw[hT,e]
 rfl
theorem aC4 {y:Ty} (hT:X.H.E.T t=some y):begH X.H t={ X.H with N:=X.H.N+1 }:=by
 unfold begH;rw[hT]
theorem aD2 {H:Hs} {y:Ty} (hT:H.E.T t=some y):goH H t={ H with E:={ H.E with T:=upT H.E.T t (if a51 (goS y H.E.ws) then none else some (goS y H.E.ws)),ws:=goW y H.E.ws,cnt:=(if goA y H.E.ws then up H.E.cnt else H.E.cnt),com:=H.E.com+(goT (H.E.T t) H.E.ws).2.2.2.toNat },D:=updD H.D (H.at_ t) { H.D (H.at_ t) with tx:=goS y H.E.ws,en:=if a51 (goS y H.E.ws) then H.N else 0 } }:=by
 obtain⟨g1,g2,g3⟩:=bf9 y H.E.ws;unfold goH goE;rw[hT];dsimp only;rw[g1,g2,g3]
def begR (X:Rs) (t:Nat):Rs:={ X with H:=begH X.H t,fr:=if (X.H.E.T t).isNone then updN X.fr X.H.dn X.R else X.fr,ah:=if (X.H.E.T t).isNone then updN X.ah X.H.dn (wordAt X.H.E.ws 0 - wordAt X.H.E.ws 1).toNat else X.ah }
theorem WI.begins (h:WI s X) (hs:SuIn s) (ht:t<s.n) (hf:¬ finE X.H.E t):WI s (begR X t)/\(∃ y,(begR X t).H.E.T t=some y)/\(begR X t).H.N=X.H.N+1:=by
 cases hT:X.H.E.T t with
 | some y =>
  have e:(begR X t).H={ X.H with N:=X.H.N+1 }:=aC4 hT;refine⟨⟨by rw[e];exact h.n,by rw[e];exact h.nc,by rw[e];exact h.nx,by rw[e];exact h.ok,by rw[e];exact h.len,fun u y' hu q=>?_,by rw[e];exact h.bg,by rw[e];exact h.dn,by rw[e];exact h.up,by rw[e];exact h.un,fun i hi=>?_⟩,⟨y,by rw[e];exact hT⟩,by rw[e]⟩
  ·rw[e]at q ⊢
   obtain⟨q1,q2⟩:=h.T u y' hu q;exact⟨q1.mono (by show (X.H.N:Int)<=((X.H.N+1:Nat):Int);omega),q2⟩
  ·rw[e]at hi ⊢
   obtain⟨q1,q2,q3,q4,q5,q6⟩:=h.D i hi;exact⟨q1,q2.mono (by show (X.H.N:Int)<=((X.H.N+1:Nat):Int);omega),q3,Nat.le_succ_of_le q4,Nat.le_succ_of_le q5,q6⟩
 | none =>
  have hl:=h.less ht hf hT;obtain⟨n1,n2⟩:=bi5 hs ht hl;obtain⟨y,hy⟩:∃ y,newT s t (s.call t (X.H.E.B t))=y:=⟨_,rfl⟩
  have e:=as4 h hT;rw[hy]at n1 n2 e;have e:(begR X t).H=_:=e;have old:∀ i,i<X.H.dn->updD X.H.D X.H.dn ⟨t,X.H.E.B t,X.H.N+1,0,y⟩ i=X.H.D i:=fun i hi=>a40 _ _ (by omega)
  have hN:(X.H.N:Int)<=((X.H.N+1:Nat):Int):=by omega
  have ne:∀ i,i<X.H.dn->(X.H.D i).en=0->(X.H.D i).th≠t:=fun i hi e0 q=>by
   have:=(h.un i hi e0).1;rw[q,hT]at this
   cases this
  refine⟨⟨by rw[e];exact h.n,by rw[e];exact h.nc,by rw[e];exact h.nx,by rw[e];exact h.ok,by rw[e];exact h.len,fun u y' hu q=>?_,fun u hu=>?_,?_,fun u y' hu q=>?_,fun i hi e0=>?_,fun i hi=>?_⟩,⟨y,by rw[e];exact a08 _ _ _⟩,by rw[e]⟩
  ·rw[e]at q ⊢
   dsimp only at q ⊢
   by_cases c:u=t
   ·subst c
    rw[a08]at q
    cases q
    exact⟨n1.mono (by omega),n2⟩
   ·rw[a24 _ _ c]at q
    obtain⟨q1,q2⟩:=h.T u y' hu q;exact⟨q1.mono hN,q2⟩
  ·rw[e]
   dsimp only
   by_cases c:u=t
   ·subst c
    rw[a41];omega
   ·rw[a67 _ _ c]
    exact h.bg u hu
  ·rw[e]
   dsimp only;have:=aT0 (f:=X.H.E.B) (g:=updN X.H.E.B t (X.H.E.B t+1)) s.n ht (fun i _ hne=>a67 X.H.E.B _ hne);rw[a41]at this;have:=h.dn;omega
  ·rw[e]at q ⊢
   dsimp only at q ⊢
   by_cases c:u=t
   ·subst c
    rw[a08]at q
    cases q
    rw[a41,a18];exact⟨by omega,rfl,rfl,rfl⟩
   ·rw[a24 _ _ c]at q
    obtain⟨q1,q2⟩:=h.up u y' hu q;rw[a67 _ _ c,old _ q1];exact⟨by omega,q2⟩
  ·rw[e]at hi e0 ⊢
   dsimp only at hi e0 ⊢
   rcases Nat.lt_or_eq_of_le (Nat.le_of_lt_succ hi) with c | c
   ·rw[old i c]at e0 ⊢
    obtain⟨q1,q2⟩:=h.un i c e0;rw[a24 _ _ (ne i c e0),a67 _ _ (ne i c e0)];exact⟨q1,q2⟩
   ·rw[c,a18]
    exact⟨a08 _ _ _,a41 _ _ _⟩
  ·rw[e]at hi ⊢
   dsimp only at hi ⊢
   rcases Nat.lt_or_eq_of_le (Nat.le_of_lt_succ hi) with c | c
   ·rw[old i c]
    obtain⟨q1,q2,q3,q4,q5,q6⟩:=h.D i c;exact⟨q1,q2.mono hN,q3,by omega,by omega,q6⟩
   ·rw[c,a18]
    refine⟨ht,n1.mono (by omega),by dsimp only;omega,zE _,zV _,hl,?_⟩;dsimp only;rw[n2];exact⟨fun q=>(by cases q),fun q=>absurd rfl q⟩
def goR (X:Rs) (t:Nat):Rs:={ X with H:=goH X.H t }
theorem WI.goes (h:WI s X) (ht:t<s.n) {y:Ty} (hT:X.H.E.T t=some y) (hN:∀ m x,y=.inr (m,x)->x.steps<X.H.N) (h1:1<=X.H.N):WI s (goR X t):=by
 obtain⟨t1,t2⟩:=h.T t y ht hT;obtain⟨u1,u2,u3,u4⟩:=h.up t y ht hT;have t1':TIn s t ((X.H.N:Int) - 1) y:=by
  rcases y with⟨m,x⟩ | ⟨m,x⟩
  ·exact t1
  ·obtain⟨a1,a2,a3,a4,a5,a6⟩:=t1
   have:=hN m x rfl;exact⟨a1,a2,a3,a4,a5,by omega⟩
 obtain⟨g1,g2,g3⟩:=t1'.goes t2 h.ok;rw[show (X.H.N:Int) - 1+1=X.H.N by omega]at g1;have e:(goR X t).H=_:=aD2 hT;obtain⟨D1,D2,D3,D4,D5,D6,D7⟩:=h.D _ u1;have at1:∀ u y',u<s.n->X.H.E.T u=some y'->u≠t->X.H.at_ u≠X.H.at_ t:=fun u y' hu q c z=>c (by rw[<- (h.up u y' hu q).2.1,z,u2])
 refine⟨by rw[e];exact h.n,by rw[e];exact h.nc,by rw[e];exact h.nx,by rw[e];exact g2,by rw[e];show ((goW y X.H.E.ws).length:Int)=_;rw[g3];exact h.len,fun u y' hu q=>?_,by rw[e];exact h.bg,by rw[e];exact h.dn,fun u y' hu q=>?_,fun i hi e0=>?_,fun i hi=>?_⟩
 ·rw[e]at q ⊢
  dsimp only at q ⊢
  by_cases c:u=t
  ·subst c
   rw[a08]at q
   cases ho:a51 (goS y X.H.E.ws) with
   | true=>rw[ho]at q;cases q
   | false=>rw[ho]at q;cases q;exact⟨g1,ho⟩
  ·rw[a24 _ _ c]at q
   exact h.T u y' hu q
 ·rw[e]at q ⊢
  dsimp only at q ⊢
  by_cases c:u=t
  ·subst c
   rw[a08]at q
   cases ho:a51 (goS y X.H.E.ws) with
   | true=>rw[ho]at q;cases q
   | false =>
    rw[ho]at q
    cases q
    rw[a18];exact⟨u1,u2,rfl,rfl⟩
  ·rw[a24 _ _ c]at q
   rw[a40 _ _ (at1 u y' hu q c)];exact h.up u y' hu q
 ·rw[e]at hi e0 ⊢
  dsimp only at hi e0 ⊢
  by_cases c:i=X.H.at_ t
  ·subst c
   rw[a18]at e0 ⊢;dsimp only at e0 ⊢
   cases ho:a51 (goS y X.H.E.ws) with
   | true =>
    rw[ho,if_pos rfl]at e0;omega
   | false =>
    rw[u2,a08];exact⟨rfl,rfl⟩
  ·rw[a40 _ _ c]at e0 ⊢
   obtain⟨q1,q2⟩:=h.un i hi e0;have:(X.H.D i).th≠t:=fun z=>c (by rw[<- q2,z])
   rw[a24 _ _ this];exact⟨q1,q2⟩
 ·rw[e]at hi ⊢
  dsimp only at hi ⊢
  by_cases c:i=X.H.at_ t
  ·subst c
   rw[a18];dsimp only;refine⟨D1,by rw[u2];exact g1,D3,D4,?_,D6,?_⟩
   ·split
    ·exact zE _
    ·exact zV _
   ·cases ho:a51 (goS y X.H.E.ws) with
    | true=>exact⟨fun _=>by rw[if_pos rfl];omega,fun _=>rfl⟩
    | false=>exact⟨fun q=>(by cases q),fun q=>absurd rfl q⟩
  ·rw[a40 _ _ c]
   exact h.D i hi
theorem bn7 (X:Rs) (t:Nat):∃ stp R to_,stepR X t={ goR (begR X t) t with stp:=stp,R:=R,to_:=to_ }:=⟨_,_,_,rfl⟩
theorem WI.step (h:WI s X) (hs:SuIn s) (ht:t<s.n) (hf:¬ finE X.H.E t):WI s (stepR X t):=by
 obtain⟨h1,⟨y,hy⟩,e1⟩:=h.begins hs ht hf;have k:=h1.goes ht hy (fun m x q=>?_) (by omega)
 ·obtain⟨stp,R,to_,e⟩:=bn7 X t
  rw[e];exact⟨k.n,k.nc,k.nx,k.ok,k.len,k.T,k.bg,k.dn,k.up,k.un,k.D⟩
 ·cases hT:X.H.E.T t with
  | none =>
   have e:=as4 h hT;have e:(begR X t).H=_:=e;rw[e]at hy;dsimp only at hy;rw[a08,q]at hy;have z:=Option.some.inj hy;unfold newT at z
   split at z
   ·cases z
    show (0:Int)<_
    omega
   ·cases z
  | some y' =>
   have e:(begR X t).H={ X.H with N:=X.H.N+1 }:=aC4 hT;rw[e]at hy;have z:y'=y:=Option.some.inj (hT.symm.trans hy);have q1:=(h.T t y' ht hT).1;rw[z,q]at q1;have:=q1.2.2.2.2.2;omega
end
end Go.Proofs.YtipakfjpfjehmaaGreatDoor.En
namespace Go.Proofs.YtipakfjpfjehmaaGreatDoor.Rr
open Go.ChangeShapes Go.WideShapes Go.ChangeAt Go.RowKit Num
attribute [local go_sem] a00
structure Dd where
 pa:Option Addr
 ca:Nat
 pr:Option Addr
 cr:Nat
 pw:Option Addr
 cw:Nat
 po:Option Addr
 co:Nat
structure DdAt (w:World) (B:Nat) (D:Dd) (args:List Nat) (m:Mac):Prop where
 a:RowAt 49 w D.pa D.ca (fls args)
 r:TRow w D.pr D.cr m.reads
 wr:TRow w D.pw D.cw m.buf
 o:RowAt 49 w D.po D.co (fls m.out)
 xa:Abv B (fpR D.pa)
 xr:Abv B (fpR D.pr)
 xw:Abv B (fpR D.pw)
 xo:Abv B (fpR D.po)
theorem DdAt.on {w w':World} {B:Nat} {D:Dd} {args:List Nat} {m:Mac} (h:DdAt w B D args m) (k:Bl w w'):DdAt w' B D args m:=⟨h.a.on k,h.r.on k,h.wr.on k,h.o.on k,h.xa,h.xr,h.xw,h.xo⟩
theorem DdAt.keep {w w':World} {B:Nat} {D:Dd} {args:List Nat} {m:Mac} (h:DdAt w B D args m) (k:∀ i,B<=i->i<w.heap.size->w'.heap[i]?=w.heap[i]?) (hs:w.heap.size<=w'.heap.size):DdAt w' B D args m :=
 ⟨h.a.keep ⟨hs,fun i hi=>k i (h.xa i hi) (h.a.blw i hi)⟩,h.r.keep ⟨hs,fun i hi=>k i (h.xr i hi) (h.r.blw i hi)⟩,h.wr.keep ⟨hs,fun i hi=>k i (h.xw i hi) (h.wr.blw i hi)⟩,h.o.keep ⟨hs,fun i hi=>k i (h.xo i hi) (h.o.blw i hi)⟩,h.xa,h.xr,h.xw,h.xo⟩
theorem DdAt.mono {w:World} {B B':Nat} {D:Dd} {args:List Nat} {m:Mac} (h:DdAt w B D args m) (k:B'<=B):DdAt w B' D args m:=⟨h.a,h.r,h.wr,h.o,h.xa.mono k,h.xr.mono k,h.xw.mono k,h.xo.mono k⟩
abbrev dC (t:Int) (na:Nat) (m:Mac) (D:Dd) (mark e0 e1 e2 st:Int):Array Value:=#[.int .i64 0,.int .i64 0,.int .i64 0,.int .i64 t,.slice D.pa na D.ca,.int .i64 mark,.int .i64 0,.slice D.pr m.reads.length D.cr,.slice D.pw m.buf.length D.cw,.slice D.po m.out.length D.co,.int .i64 e0,.int .i64 e1,.int .i64 e2,.int .i64 0,.int .i64 0,.int .i64 st,.int .i64 0,.int .i64 0,.int .i64 0]
abbrev dZ:Obj:=.cells #[.int .i64 0,.int .i64 0,.int .i64 0,.int .i64 0,.slice none 0 0,.int .i64 0,.int .i64 0,.slice none 0 0,.slice none 0 0,.slice none 0 0,.int .i64 0,.int .i64 0,.int .i64 0,.int .i64 0,.int .i64 0,.int .i64 0,.int .i64 0,.int .i64 0,.int .i64 0] 48
theorem ac6 {fn:Func} {p:Tmp} (h:fn.results=#[.cell p 48]) {R:Ending->World->Prop} {a:Act} {w:World} (g:Nat) {t:Int} {na:Nat} {m:Mac} {D:Dd} {mark e0 e1 e2 st:Int} (hp:a.tmps.getD p undef=.pointer (some ⟨g,0,none⟩))
  (hg:w.heap[g]?=some (.cells (dC t na m D mark e0 e1 e2 st) 48 (0,0))) (hd:a.defers=[]) (hR:R (.returned (.agg (dC t na m D mark e0 e1 e2 st))) w):bodyPost Tryz.prog fn R .ret a w :=
 bodyPost_ret (results_cell_row h _ _ g _ _ _ _ hp hg Tryz.underlying48 rfl (by kernel_rfl)) hd hR
theorem deedInfo:(Tryz.prog.info? 48).map (·.size)=some 19:=by kernel_rfl
theorem a71 (t:Int) (na:Nat) (m:Mac) (D:Dd) (mark e0 e1 e2 st:Int):(dC t na m D mark e0 e1 e2 st).all (·.oneCell')=true:=by simp[Value.oneCell']
section
variable {w:World} {b:Nat} {x:Rx} {z:Rz} {q:Option Nat} {F:List Nat} {c:Md.Cv.Cs} {r:Md.Ce.Rd}
theorem be2 (h:RawAt w b x z q F c r) (hI:Inv x.m) (hf:x.args.length<=8) {na:Nat} (hna:x.args.length=na) {m:Mac} (hm:x.m=m):Calls Tryz.prog 251 #[.pointer (some ⟨b,0,none⟩)] w fun e w'=>∃ D,e=.returned (.agg (dC x.tag na m D 0 0 0 0 x.steps))/\DdAt w' w.heap.size D x.args m/\Bl w w':=by
 subst hm hna;have ho:=hI.out;have hr:=hI.reads;have hu:=hI.used;have hfu:=hI.fuel;have hw0:(x.m.reads.length:Int)<=1024:=by split at hr <;> omega
 have HC:Hid (∀ u,Bl w u->Calls Tryz.prog 59 #[.slice z.pa x.args.length z.ca] u fun e w'=>∃ p' c',e=.returned (.slice p' x.args.length c')/\RowAt 49 w' p' c' (fls x.args)/\Abv u.heap.size (fpR p')/\Bl u w'):=fun u hu=>am7 (h.on hu).arg rfl (by omega)
 have HR:Hid (∀ u,Bl w u->Calls Tryz.prog 97 #[.pointer (some ⟨z.bm,0,none⟩)] u fun e w'=>∃ p' c',e=.returned (.slice p' x.m.reads.length c')/\TRow w' p' c' x.m.reads/\Abv u.heap.size (fpR p')/\Bl u w'):=fun u hu=>aJ8 (h.on hu).mac.gm (by omega)
 have HWR:Hid (∀ u,Bl w u->Calls Tryz.prog 98 #[.pointer (some ⟨z.bm,0,none⟩)] u fun e w'=>e=.returned (.slice (some ⟨u.heap.size,0,none⟩) x.m.buf.length x.m.buf.length)/\TRow w' (some ⟨u.heap.size,0,none⟩) x.m.buf.length x.m.buf/\Bl u w'):=fun u hu=>ak3 (h.on hu).mac.gm
 have HOU:Hid (∀ u,Bl w u->Calls Tryz.prog 99 #[.pointer (some ⟨z.bm,0,none⟩)] u fun e w'=>∃ p' c',e=.returned (.slice p' x.m.out.length c')/\RowAt 49 w' p' c' (fls x.m.out)/\Abv u.heap.size (fpR p')/\Bl u w'):=fun u hu=>b69 (h.on hu).mac.gm (by omega)
 have HB:Hid (∀ u,Bl w u->u.cell? ⟨b,6,none⟩=some (.pointer (some ⟨z.bm,0,none⟩))/\u.cell? ⟨b,7,none⟩=some (.int .i64 x.steps)/\u.cell? ⟨b,8,none⟩=some (.int .i64 x.tag)/\u.cell? ⟨b,9,none⟩=some (.slice z.pa x.args.length z.ca)/\b<u.heap.size):=fun u hu=>⟨((h.on hu).cell 6).trans rfl,((h.on hu).cell 7).trans rfl,((h.on hu).cell 8).trans rfl,((h.on hu).cell 9).trans rfl,(h.on hu).ltB⟩
 clear h hI hf ho hr hu hfu hw0;have H0:Hid (Bl w (w.alloc dZ)/\(w.alloc dZ).heap[w.heap.size]?=some dZ):=⟨below_alloc _ _,zN _ _⟩;obtain⟨e6,e7,e8,e9,eb⟩:=HB.out _ H0.out.1;go_enter Tryz.func251,Tryz.ntmps251;go_wp2_with fail;obtain⟨w1,hw1⟩:∃ w1,w1=w.alloc dZ:=⟨_,rfl⟩
 rw[<- hw1]at H0 e6 e7 e8 e9 eb;rw[show w.alloc (.cells #[.int .i64 0,.int .i64 0,.int .i64 0,.int .i64 0,.slice none 0 0,.int .i64 0,.int .i64 0,.slice none 0 0,.slice none 0 0,.slice none 0 0,.int .i64 0,.int .i64 0,.int .i64 0,.int .i64 0,.int .i64 0,.int .i64 0,.int .i64 0,.int .i64 0,.int .i64 0] 48)=w1 from hw1.symm];clear hw1;refine a06 (fun u=>u.cell? ⟨b,6,none⟩=some (.pointer (some ⟨z.bm,0,none⟩))/\u.cell? ⟨b,7,none⟩=some (.int .i64 x.steps)/\u.cell? ⟨b,8,none⟩=some (.int .i64 x.tag)/\u.cell? ⟨b,9,none⟩=some (.slice z.pa x.args.length z.ca) )  ((0,true)::(1,true)::(2,true)::(3,true)::(4,true)::(5,true)::(6,true)::(7,true)::(9,true)::(10,true)::(11,true)::(12,true)::(14,true)::(15,true)::(16,true)::(17,true)::(19,true)::(20,true)::(21,true)::(22,true)::(24,true)::(25,true)::(26,true)::(27,true)::(8,false)::(13,false)::(18,false)::(23,false)::(28,true)::(29,false)::[])  Md.Cv.follows13 (by kernel_rfl) (fun _ _ _ _ _ h=>h)  ⟨e6,e7,e8,e9⟩ ?_
 (repeat ((first | (refine a02 (v:=?_) rfl (by rfl) (fun wq hSq=>?_) ?_;rotate_left;(focus ((try dsimp only at hSq);go_simp;try with_reducible rfl))) | refine a03 rfl (by rfl) ?_);simp only[Act.put,zA,zB,zC]))
 (refine a04 rfl (by rfl) (fun KK hK=>?_);go_simp)
 refine(HC.out _ (H0.out.1.trans ((Same.drew w1).below _))).mono ?_;rintro e u2 ⟨p2,c2,rfl,a1,a2,a3⟩;have A2:Hid (RowAt 49 u2 p2 c2 (fls x.args)/\Abv w1.heap.size (fpR p2)/\Bl w1 u2/\Bl w u2):=⟨a1,a2,((Same.drew w1).below _).trans a3,(H0.out.1.trans ((Same.drew w1).below _)).trans (a3.mono H0.out.1.size)⟩;clear a1 a2 a3;obtain⟨s6,s7,s8,s9,_⟩:=HB.out _ A2.out.2.2.2;refine hK.out _ _ ⟨s6,s7,s8,s9⟩ ?_
 (clear hK KK;try simp only[Act.put,zA,zB,zC])
 (refine a04 rfl (by rfl) (fun KK hK=>?_);go_simp)
 refine(HR.out _ A2.out.2.2.2).mono ?_;rintro e u3 ⟨p3,c3,rfl,a1,a2,a3⟩;have A3:Hid (TRow u3 p3 c3 x.m.reads/\Abv w1.heap.size (fpR p3)/\Bl u2 u3/\Bl w1 u3/\Bl w u3):=⟨a1,a2.mono A2.out.2.2.1.size,a3,A2.out.2.2.1.trans (a3.mono A2.out.2.2.1.size),A2.out.2.2.2.trans (a3.mono A2.out.2.2.2.size)⟩;clear a1 a2 a3 s6 s7 s8 s9;obtain⟨s6,s7,s8,s9,_⟩:=HB.out _ A3.out.2.2.2.2;refine hK.out _ _ ⟨s6,s7,s8,s9⟩ ?_
 (clear hK KK;try simp only[Act.put,zA,zB,zC])
 (refine a04 rfl (by rfl) (fun KK hK=>?_);go_simp)
 refine(HWR.out _ A3.out.2.2.2.2).mono ?_;rintro e u4 ⟨rfl,a1,a3⟩;have A4:Hid (TRow u4 (some ⟨u3.heap.size,0,none⟩) x.m.buf.length x.m.buf/\Abv w1.heap.size (fpR (some ⟨u3.heap.size,0,none⟩))/\Bl u3 u4/\Bl w1 u4/\Bl w u4):=⟨a1,(fun i hi=>by have:=A3.out.2.2.2.1.size;simp[fpR]at hi;omega),a3,A3.out.2.2.2.1.trans (a3.mono A3.out.2.2.2.1.size),A3.out.2.2.2.2.trans (a3.mono A3.out.2.2.2.2.size)⟩;clear a1 a3 s6 s7 s8 s9;obtain⟨s6,s7,s8,s9,_⟩:=HB.out _ A4.out.2.2.2.2;refine hK.out _ _ ⟨s6,s7,s8,s9⟩ ?_
 (clear hK KK;try simp only[Act.put,zA,zB,zC])
 (refine a04 rfl (by rfl) (fun KK hK=>?_);go_simp)
 refine(HOU.out _ A4.out.2.2.2.2).mono ?_;rintro e u5 ⟨p5,c5,rfl,a1,a2,a3⟩;have A5:Hid (RowAt 49 u5 p5 c5 (fls x.m.out)/\Abv w1.heap.size (fpR p5)/\Bl u4 u5/\Bl w1 u5/\Bl w u5):=⟨a1,a2.mono A4.out.2.2.2.1.size,a3,A4.out.2.2.2.1.trans (a3.mono A4.out.2.2.2.1.size),A4.out.2.2.2.2.trans (a3.mono A4.out.2.2.2.2.size)⟩;clear a1 a2 a3 s6 s7 s8 s9;obtain⟨s6,s7,s8,s9,sb⟩:=HB.out _ A5.out.2.2.2.2;have HZ5:Hid (u5.heap[w.heap.size]?=some dZ):=(A5.out.2.2.2.1.block _ (lt_of_block H0.out.2)).trans H0.out.2;have HDD:Hid (DdAt u5 w1.heap.size ⟨p2,c2,p3,c3,some ⟨u3.heap.size,0,none⟩,x.m.buf.length,p5,c5⟩ x.args x.m):=by
  have b5:=A5.out.2.2.1;have b4:=A4.out.2.2.1.trans (b5.mono A4.out.2.2.1.size);have b3:=A3.out.2.2.1.trans (b4.mono A3.out.2.2.1.size);exact⟨A2.out.1.on b3,A3.out.1.on b4,A4.out.1.on b5,A5.out.1,A2.out.2.1,A3.out.2.1,A4.out.2.1,A5.out.2.1⟩
 have HNE:=zH (show b≠w.heap.size/\w.heap.size<w1.heap.size from⟨fun y=>by have:=(HB.out w (zF _ _)).2.2.2.2;omega,lt_of_block H0.out.2⟩);refine hK.out _ _ ⟨s6,s7,s8,s9⟩ ?_
 (clear hK KK;try simp only[Act.put,zA,zB,zC])
 (repeat ((first | (refine a02 (v:=?_) rfl (by rfl) (fun wq hSq=>?_) ?_;rotate_left;(focus ((try dsimp only at hSq);go_simp;try with_reducible rfl))) | refine a03 rfl (by rfl) ?_);simp only[Act.put,zA,zB,zC]))
 refine a04 rfl (by rfl) (fun KK hK=>?_);refine wp_store_row 48 _ _ rfl w.heap.size (dC x.tag x.args.length x.m ⟨p2,c2,p3,c3,some ⟨u3.heap.size,0,none⟩,x.m.buf.length,p5,c5⟩ 0 0 0 0 x.steps) rfl rfl _ _ HZ5.out deedInfo rfl (a71 _ _ _ _ _ _ _ _ _) ?_;have O:∀ j,(u5.setRow w.heap.size (dC x.tag x.args.length x.m ⟨p2,c2,p3,c3,some ⟨u3.heap.size,0,none⟩,x.m.buf.length,p5,c5⟩ 0 0 0 0 x.steps)).cell? ⟨b,j,none⟩=u5.cell? ⟨b,j,none⟩:=fun j=>cell_setRow_other _ _ _ _ HNE.out.1
 refine hK.out _ _ ⟨(O 6).trans s6,(O 7).trans s7,(O 8).trans s8,(O 9).trans s9⟩ ?_;clear O
 (clear hK KK;try simp only[Act.put])
 refine a13 ?_;go_wp2_with fail;refine ac6 (D:=⟨p2,c2,p3,c3,some ⟨u3.heap.size,0,none⟩,x.m.buf.length,p5,c5⟩) (m:=x.m) rfl w.heap.size rfl (setRow_heap _ _ _ _ _ _ HZ5.out) rfl ⟨_,rfl,?_,Md.Ce.bl_setRow A5.out.2.2.2.2 (zE _) _⟩;exact(HDD.out.keep (fun i hi hl=>setRow_other _ _ _ _ (by have:=HNE.out.2;omega)) (by simp)).mono (by have:=HNE.out.2;omega)
theorem ao0 (h:RawAt w b x z q F c r):Calls Tryz.prog 253 #[.pointer (some ⟨b,0,none⟩)] w fun e w'=>e=.returned (.bool (decide ((x.part:Int)=4)))/\w'=w:=by
 have h11:w.cell? ⟨b,11,none⟩=some (.int .i64 (x.part:Int)):=(h.cell 11).trans rfl;have hb:=h.ltB;clear h;go_enter Tryz.func253,Tryz.ntmps253
 go_wp2
 go_ret;exact⟨rfl,rfl⟩
def markV (x:Rx):Int:=if x.part=1 then -1 else wrap64 x.stamp
def endI (x:Rx) (v:Int):Int:=if x.part=4 then v else 0
theorem aD7 (h:RawAt w b x z q F (comC x) r) {mk:Int} (hk:markV x=mk):Calls Tryz.prog 252 #[.pointer (some ⟨b,0,none⟩)] w fun e w'=>e=.returned (.int .i64 mk)/\w'=w:=by
 have h11:w.cell? ⟨b,11,none⟩=some (.int .i64 (x.part:Int)):=(h.cell 11).trans rfl;have h12:w.cell? ⟨b,12,none⟩=some (.pointer (some ⟨z.xc,0,none⟩)):=(h.cell 12).trans rfl;have hb:=h.ltB;have HS:=zH (Md.Cv.stampC_any h.com);unfold comC at HS;dsimp only at HS;unfold markV at hk;clear h
 by_cases e:x.part=1
 ·rw[if_pos e]at hk
  subst hk;rw[e]at h11;go_enter Tryz.func252,Tryz.ntmps252
  go_wp2
  go_ret;exact⟨rfl,rfl⟩
 ·rw[if_neg e]at hk
  subst hk;have e':((x.part:Int) == 1)=false:=by simp;omega
  clear e;go_enter Tryz.func252,Tryz.ntmps252
  go_wp2_with (go_at_call 259;refine HS.out.mono ?_;rintro e w1 ⟨rfl,hw⟩;subst w1)
  go_ret;exact⟨rfl,rfl⟩
theorem aj2 {w u1:World} {D:Dd} {args:List Nat} {m:Mac} {t:Int} {na:Nat} {mk st:Int} (h:DdAt u1 (w.heap.size+1) D args m) (hb:Bl w u1) (hz:u1.heap[w.heap.size]?=some dZ):Bl w (u1.alloc (.cells (dC t na m D mk 0 0 0 st) 48))/\(u1.alloc (.cells (dC t na m D mk 0 0 0 st) 48)).heap[u1.heap.size]?=some (.cells (dC t na m D mk 0 0 0 st) 48)/\(u1.alloc (.cells (dC t na m D mk 0 0 0 st) 48)).heap[w.heap.size]?=some dZ/\DdAt (u1.alloc (.cells (dC t na m D mk 0 0 0 st) 48)) (w.heap.size+1) D args m :=
 ⟨hb.alloc hb.size _,zN _ _,heap_old hz,h.on (below_alloc _ _)⟩
theorem bu2 {u4:World} {g:Nat} {D:Dd} {m:Mac} {t:Int} {na:Nat} {mk st:Int} (h:u4.heap[g]?=some (.cells (dC t na m D mk 0 0 0 st) 48)):(((u4.setCell ⟨g,10,none⟩ (.int .i64 m.how)).setCell ⟨g,11,none⟩ (.int .i64 m.cod)).setCell ⟨g,12,none⟩ (.int .i64 m.err)).heap[g]?=some (.cells (dC t na m D mk m.how m.cod m.err st) 48):=by
 have a1:=(zS u4 g 10 _ _ (.int .i64 m.how) h).trans (show _=some (Obj.cells (dC t na m D mk m.how 0 0 st) 48) from rfl);have a2:=(zS _ g 11 _ _ (.int .i64 m.cod) a1).trans (show _=some (Obj.cells (dC t na m D mk m.how m.cod 0 st) 48) from rfl);exact(zS _ g 12 _ _ (.int .i64 m.err) a2).trans (show _=some (Obj.cells (dC t na m D mk m.how m.cod m.err st) 48) from rfl)
theorem bu1 {u4:World} {g y:Nat} {o:Obj} (h:u4.heap[y]?=some o) (hn:y≠g) (a b c:Int):(((u4.setCell ⟨g,10,none⟩ (.int .i64 a)).setCell ⟨g,11,none⟩ (.int .i64 b)).setCell ⟨g,12,none⟩ (.int .i64 c)).heap[y]?=some o:=(zO _ _ _ _ hn).trans ((zO _ _ _ _ hn).trans ((zO _ _ _ _ hn).trans h))
theorem Deed_any (h:RawAt w b x z q F (comC x) r) (hI:In0 x) {na:Nat} (hna:x.args.length=na) {m:Mac} (hm:x.m=m) {mk e0 e1 e2:Int} (hk:markV x=mk) (h0:endI x m.how=e0) (h1:endI x m.cod=e1) (h2:endI x m.err=e2):Calls Tryz.prog 248 #[.pointer (some ⟨b,0,none⟩)] w fun e w'=>∃ D,e=.returned (.agg (dC x.tag na m D mk e0 e1 e2 x.steps))/\DdAt w' w.heap.size D x.args m/\Bl w w':=by
 have HD:Hid (∀ u,Bl w u->Calls Tryz.prog 251 #[.pointer (some ⟨b,0,none⟩)] u fun e w'=>∃ D,e=.returned (.agg (dC x.tag na m D 0 0 0 0 x.steps))/\DdAt w' u.heap.size D x.args m/\Bl u w'):=fun u hu=>be2 (h.on hu) hI.inv hI.few hna hm
 have HM:Hid (∀ u,Bl w u->Calls Tryz.prog 252 #[.pointer (some ⟨b,0,none⟩)] u fun e w'=>e=.returned (.int .i64 mk)/\w'=u):=fun u hu=>aD7 (h.on hu) hk
 have HO:Hid (∀ u,Bl w u->Calls Tryz.prog 253 #[.pointer (some ⟨b,0,none⟩)] u fun e w'=>e=.returned (.bool (decide ((x.part:Int)=4)))/\w'=u):=fun u hu=>ao0 (h.on hu)
 have HE:Hid (∀ u,Bl w u->Calls Tryz.prog 101 #[.pointer (some ⟨z.bm,0,none⟩)] u fun e w'=>e=.returned (.agg #[.int .i64 m.how,.int .i64 m.cod,.int .i64 m.err])/\Bl u w'):=fun u hu=>by
  have:=end_any (h.on hu).mac.gm;rwa[hm]at this
 have HB:Hid (∀ u,Bl w u->u.cell? ⟨b,6,none⟩=some (.pointer (some ⟨z.bm,0,none⟩))/\b<u.heap.size):=fun u hu=>⟨((h.on hu).cell 6).trans rfl,(h.on hu).ltB⟩
 have hb:=h.ltB;have HL:Hid (b<w.heap.size):=hb;have H0:Hid (Bl w (w.alloc dZ)/\(w.alloc dZ).heap[w.heap.size]?=some dZ):=⟨below_alloc _ _,zN _ _⟩;have hb1:=(HB.out _ H0.out.1).2;unfold endI at h0 h1 h2;clear h hI hna hm hk
 by_cases p4:x.part=4
 ·rw[if_pos p4]at h0 h1 h2
  subst h0 h1 h2;rw[zT (by omega)]at HO;clear p4;go_enter Tryz.func248,Tryz.ntmps248
  go_wp2_with (first
   | (refine wpList_store_row rfl 48 _ _ rfl w.heap.size (dC x.tag na m D mk m.how m.cod m.err x.steps) rfl rfl _ _ Y6.out deedInfo rfl (a71 _ _ _ _ _ _ _ _ _) ?_)
   | (refine wpList_load_row rfl 48 _ rfl u1.heap.size rfl _ (dC x.tag na m D mk m.how m.cod m.err x.steps) _ _ X6.out Tryz.underlying48 rfl deedInfo ?_)
   | (go_at_call 101;refine(HE.out _ B3.out.1).mono ?_;rintro e u4 ⟨rfl,q⟩;have X4:Hid (u4.heap[u1.heap.size]?=some (.cells (dC x.tag na m D mk 0 0 0 x.steps) 48)):=(q.block _ (lt_of_block B3.out.2.1)).trans B3.out.2.1;have Y4:Hid (u4.heap[w.heap.size]?=some dZ):=(q.block _ (lt_of_block B3.out.2.2.1)).trans B3.out.2.2.1;have B5:Hid (Bl w u4/\DdAt u4 (w.heap.size+1) D x.args m):=⟨B3.out.1.trans (q.mono B3.out.1.size),B3.out.2.2.2.on q⟩;have W4:Hid (Bl u1 u4):=(below_alloc u1 _).trans (q.mono (by simp));have k10:u4.cell? ⟨u1.heap.size,10,none⟩=some (.int .i64 0):=(zR _ _ 10 _ _ _ X4.out).trans rfl;have k11:u4.cell? ⟨u1.heap.size,11,none⟩=some (.int .i64 0):=(zR _ _ 11 _ _ _ X4.out).trans rfl;have k12:u4.cell? ⟨u1.heap.size,12,none⟩=some (.int .i64 0):=(zR _ _ 12 _ _ _ X4.out).trans rfl;have f10:=zZ u4 u1.heap.size 10 _ _ X4.out;have f11:=zZ u4 u1.heap.size 11 _ _ X4.out;have f12:=zZ u4 u1.heap.size 12 _ _ X4.out;have l4:=lt_of_block X4.out;have X6:=zH (bu2 X4.out);have Y6:=zH (bu1 Y4.out (show w.heap.size≠u1.heap.size from fun e=>by have:=lt_of_block A1.out.2.2.2;omega) m.how m.cod m.err);clear q)
   | (go_at_call 253;refine(HO.out _ B3.out.1).mono ?_;rintro e u3 ⟨rfl,hw⟩;subst u3;obtain⟨t6,tb⟩:=HB.out _ B3.out.1)
   | (go_at_call 252;refine(HM.out _ B2.out.1).mono ?_;rintro e u2 ⟨rfl,hw⟩;subst u2;have B3:=zH (aj2 (mk:=mk) (t:=x.tag) (na:=na) (st:=x.steps) A1.out.1 A1.out.2.1 A1.out.2.2.2))
   | (refine wpList_store_row rfl 48 _ _ rfl u1.heap.size (dC x.tag na m D 0 0 0 0 x.steps) rfl rfl _ _ (zN _ _) deedInfo rfl (a71 _ _ _ _ _ _ _ _ _) ?_;rw[World.setRow_alloc_new];have B2:=zH (aj2 (mk:=0) (t:=x.tag) (na:=na) (st:=x.steps) A1.out.1 A1.out.2.1 A1.out.2.2.2))
   | (go_at_call 251;refine(HD.out _ H0.out.1).mono ?_;rintro e u1 ⟨D,rfl,q1,q2⟩;have A1:Hid (DdAt u1 (w.heap.size+1) D x.args m/\Bl w u1/\w.heap.size<=u1.heap.size/\u1.heap[w.heap.size]?=some dZ):=⟨q1.mono (by simp),H0.out.1.trans (q2.mono H0.out.1.size),(H0.out.1.trans (q2.mono H0.out.1.size)).size,(q2.block _ (lt_of_block H0.out.2)).trans H0.out.2⟩;have lb1:=(HB.out _ A1.out.2.1).2;clear q1 q2 HD))
  refine ac6 (D:=D) (m:=m) rfl w.heap.size rfl (setRow_heap _ _ _ _ _ _ Y6.out) rfl ⟨_,rfl,?_,?_⟩
  ·have d4:DdAt (((u4.setCell ⟨u1.heap.size,10,none⟩ (.int .i64 m.how)).setCell ⟨u1.heap.size,11,none⟩ (.int .i64 m.cod)).setCell ⟨u1.heap.size,12,none⟩ (.int .i64 m.err)) (w.heap.size+1) D x.args m:=by
    have d1:=A1.out.1;have hu:=B5.out.1.size;have hl4:=lt_of_block X4.out;have bb:=W4.out;exact d1.keep (fun i _ hl=>(zO _ _ _ _ (fun (e:i=u1.heap.size)=>by omega)).trans ((zO _ _ _ _ (fun (e:i=u1.heap.size)=>by omega)).trans ((zO _ _ _ _ (fun (e:i=u1.heap.size)=>by omega)).trans (bb.block i hl)))) (by simpa using bb.size)
   exact(d4.keep (fun i hi _=>setRow_other _ _ _ _ (by omega)) (by simp)).mono (by omega)
  ·have hs:=A1.out.2.2.1
   exact Md.Ce.bl_setRow (((B5.out.1.setCell hs _).setCell hs _).setCell hs _) (zE _) _
 ·rw[if_neg p4]at h0 h1 h2
  subst h0 h1 h2;rw[zU (by omega)]at HO;clear p4;go_enter Tryz.func248,Tryz.ntmps248
  go_wp2_with (first
   | (refine wpList_store_row rfl 48 _ _ rfl w.heap.size (dC x.tag na m D mk 0 0 0 x.steps) rfl rfl _ _ B3.out.2.2.1 deedInfo rfl (a71 _ _ _ _ _ _ _ _ _) ?_)
   | (refine wpList_load_row rfl 48 _ rfl u1.heap.size rfl _ (dC x.tag na m D mk 0 0 0 x.steps) _ _ B3.out.2.1 Tryz.underlying48 rfl deedInfo ?_)
   | (go_at_call 253;refine(HO.out _ B3.out.1).mono ?_;rintro e u3 ⟨rfl,hw⟩;subst u3;obtain⟨t6,tb⟩:=HB.out _ B3.out.1)
   | (go_at_call 252;refine(HM.out _ B2.out.1).mono ?_;rintro e u2 ⟨rfl,hw⟩;subst u2;have B3:=zH (aj2 (mk:=mk) (t:=x.tag) (na:=na) (st:=x.steps) A1.out.1 A1.out.2.1 A1.out.2.2.2))
   | (refine wpList_store_row rfl 48 _ _ rfl u1.heap.size (dC x.tag na m D 0 0 0 0 x.steps) rfl rfl _ _ (zN _ _) deedInfo rfl (a71 _ _ _ _ _ _ _ _ _) ?_;rw[World.setRow_alloc_new];have B2:=zH (aj2 (mk:=0) (t:=x.tag) (na:=na) (st:=x.steps) A1.out.1 A1.out.2.1 A1.out.2.2.2))
   | (go_at_call 251;refine(HD.out _ H0.out.1).mono ?_;rintro e u1 ⟨D,rfl,q1,q2⟩;have A1:Hid (DdAt u1 (w.heap.size+1) D x.args m/\Bl w u1/\w.heap.size<=u1.heap.size/\u1.heap[w.heap.size]?=some dZ):=⟨q1.mono (by simp),H0.out.1.trans (q2.mono H0.out.1.size),(H0.out.1.trans (q2.mono H0.out.1.size)).size,(q2.block _ (lt_of_block H0.out.2)).trans H0.out.2⟩;have lb1:=(HB.out _ A1.out.2.1).2;clear q1 q2 HD))
  refine ac6 (D:=D) (m:=m) rfl w.heap.size rfl (setRow_heap _ _ _ _ _ _ B3.out.2.2.1) rfl ⟨_,rfl,?_,Md.Ce.bl_setRow B3.out.1 (zE _) _⟩;exact(B3.out.2.2.2.keep (fun i hi _=>setRow_other _ _ _ _ (by omega)) (by simp)).mono (by omega)
end
end Go.Proofs.YtipakfjpfjehmaaGreatDoor.Rr
namespace Go.Proofs.YtipakfjpfjehmaaGreatDoor
section
variable {P:Program} {ops:Array Oper} {Q:Exit->Act->World->Prop} {md:Region.Mode} {S:World->Prop}
def wpFl (P:Program) (ops:Array Oper) (Q:Exit->Act->World->Prop) (S:World->Prop) (j:Nat) (r:List (Nat × Bool)):List (Nat × Bool)->Act->World->Prop
 | [],a,w=>wpOp P ops Q j (fun a' w'=>S w'/\ae5 P ops Q S r a' w') a w
 | (x,true)::rest,a,w=>∃ o v,ops[x]?=some o/\YieldsIf P ops S o v a/\wpFl P ops Q S j r rest (a.put o.dst v) w
 | (i,false)::rest,a,w=>wpOp P ops Q i (fun a' w'=>S w'/\wpFl P ops Q S j r rest a' w') a w/\wpOp P ops Q j (fun a' w'=>S w'/\ae5 P ops Q S ((i,false)::(rest ++ r)) a' w') a w
def flB (md:Region.Mode) (ops:Array Oper) (j:Nat) (r:List (Nat × Bool)):Array Bool->List (Nat × Bool)->Bool
 | listed,[]=>Region.ready md ops listed == [j] && seqB md ops (listed.setIfInBounds j true) r
 | listed,(x,true)::rest=>(Region.ready md ops listed).contains x && Region.free md ops listed x && flB md ops j r (listed.setIfInBounds x true) rest
 | listed,(i,false)::rest=>Region.ready md ops listed == [i,j] && flB md ops j r (listed.setIfInBounds i true) rest && seqB md ops (listed.setIfInBounds j true) ((i,false)::(rest ++ r))
theorem aj0 (hs:Region.noSelect ops=true) (hQ:∀ c t t' d w,Q (.panic c) ⟨t,d⟩ w->Q (.panic c) ⟨t',d⟩ w) {j:Nat} {r:List (Nat × Bool)}:∀ (l:List (Nat × Bool)) (listed:Array Bool) (a:Act) (w:World),flB md ops j r listed l=true->S w->wpFl P ops Q S j r l a w->wpAnyH P md ops Q S (r.length+l.length+1) listed a w
 | [],listed,a,w,hb,_,h=>by
  simp only[flB,Bool.and_eq_true,beq_iff_eq]at hb;refine wpAnyH_all (rs:=[j]) hb.1 (by simp) fun x hx=>?_
  have e:x=j:=by simpa using hx
  subst e;exact wpOp_mono (fun a' w' h'=>⟨h'.1,a68 hs hQ r _ _ _ hb.2 h'.1 h'.2⟩) h
 | (x,true)::rest,listed,a,w,hb,hS,h=>by
  simp only[flB,Bool.and_eq_true]at hb;obtain⟨o,v,ho,hy,hr⟩:=h;exact wpAnyH_take ho hs hb.1.2 hb.1.1 (fun c a w h=>ao1 hQ h) hy hS (aj0 hs hQ rest _ _ _ hb.2 hS hr)
 | (i,false)::rest,listed,a,w,hb,hS,h=>by
  simp only[flB,Bool.and_eq_true,beq_iff_eq]at hb;refine wpAnyH_all (rs:=[i,j]) hb.1.1 (by simp) fun x hx=>?_
  by_cases e:x=i
  ·subst e
   exact wpOp_mono (fun a' w' h'=>⟨h'.1,aj0 hs hQ rest _ _ _ hb.1.2 h'.1 h'.2⟩) h.1
  ·have e2:x=j:=by simpa[e]using hx
   subst e2;refine wpOp_mono (fun a' w' h'=>⟨h'.1,?_⟩) h.2;have:=a68 (Q:=Q) hs hQ ((i,false)::(rest ++ r)) _ _ _ hb.2 h'.1 h'.2;have e3:((i,false)::(rest ++ r)).length=r.length+((i,false)::rest).length:=by simp;omega
   rw[e3]at this;exact this
theorem as0 {id:Nat} {a:Act} {w:World} (S:World->Prop) (l:List (Nat × Bool)) (j:Nat) (r:List (Nat × Bool)) (hm:P.follows .mixedOrders=true) (hb:(Region.noSelect ops && r.length+l.length+1 == ops.size && flB .any ops j r (Array.replicate ops.size false) l)=true) (hQ:∀ c t t' d w,Q (.panic c) ⟨t,d⟩ w->Q (.panic c) ⟨t',d⟩ w) (hS:S w.drew) (h:wpFl P ops Q S j r l a w.drew):(Code.region id ops true).wp P Q a w:=by
 simp only[Bool.and_eq_true,beq_iff_eq]at hb;refine wp_region_held (S:=S) hm ?_;rw[<- hb.1.2];have:=aj0 (Q:=Q) (S:=S) hb.1.1 hQ l _ a w.drew hb.2 hS h;rw[<- hb.1.2]at this;exact this
theorem ap7 {x j:Nat} {r rest:List (Nat × Bool)} {o:Oper} {v:Value} {a:Act} {w:World} (ho:nth ops.toList x=some o) (hw:Region.wanted o (yielded ops a.tmps)=true) (hy:∀ w,S w->(execOp a.eval o).run P w=.ok (.value v) w) (h:wpFl P ops Q S j r rest (a.put o.dst v) w):wpFl P ops Q S j r ((x,true)::rest) a w:=⟨o,v,aE2 ho,.inl ⟨hw,hy⟩,h⟩
theorem ay8 {i j:Nat} {r rest:List (Nat × Bool)} {o:Oper} {a:Act} {w:World} (ho:nth ops.toList i=some o) (hw:Region.wanted o (yielded ops a.tmps)=true) (h:∀ K':Act->World->Prop,Shut (∀ a w,S w->wpFl P ops Q S j r rest a w->K' a w)->Oper.wp P o a w K' Q) (h2:ae5 P ops Q S ((j,false)::(i,false)::(rest ++ r)) a w):wpFl P ops Q S j r ((i,false)::rest) a w:=by
 refine⟨wpOp_step (aE2 ho) (fun K' hK=>?_),h2⟩;rw[hw];exact h K' fun a w hS hr=>hK a w ⟨hS,hr⟩
theorem aT9 {j:Nat} {r:List (Nat × Bool)} {a:Act} {w:World} (h:ae5 P ops Q S ((j,false)::r) a w):wpFl P ops Q S j r [] a w:=h
end
end Go.Proofs.YtipakfjpfjehmaaGreatDoor
namespace Go.Proofs.YtipakfjpfjehmaaGreatDoor.Ww
open Go.ChangeShapes Go.WideShapes Go.ChangeAt Go.RowKit Num Rr
attribute [local go_sem] a00
structure Ddw where
 pa:Option Addr
 ca:Nat
 pr:Option Addr
 cr:Nat
 pw:Option Addr
 cw:Nat
 po:Option Addr
 co:Nat
structure DdAt (w:World) (B:Nat) (D:Ddw) (args:List Nat) (m:Mac):Prop where
 a:RowAt 49 w D.pa D.ca (fls args)
 r:TRow w D.pr D.cr m.reads
 wr:TRow w D.pw D.cw m.buf
 o:RowAt 49 w D.po D.co (fls m.out)
 xa:Abv B (fpR D.pa)
 xr:Abv B (fpR D.pr)
 xw:Abv B (fpR D.pw)
 xo:Abv B (fpR D.po)
theorem DdAt.on {w w':World} {B:Nat} {D:Ddw} {args:List Nat} {m:Mac} (h:DdAt w B D args m) (k:Bl w w'):DdAt w' B D args m:=⟨h.a.on k,h.r.on k,h.wr.on k,h.o.on k,h.xa,h.xr,h.xw,h.xo⟩
theorem DdAt.keep {w w':World} {B:Nat} {D:Ddw} {args:List Nat} {m:Mac} (h:DdAt w B D args m) (k:∀ i,B<=i->i<w.heap.size->w'.heap[i]?=w.heap[i]?) (hs:w.heap.size<=w'.heap.size):DdAt w' B D args m :=
 ⟨h.a.keep ⟨hs,fun i hi=>k i (h.xa i hi) (h.a.blw i hi)⟩,h.r.keep ⟨hs,fun i hi=>k i (h.xr i hi) (h.r.blw i hi)⟩,h.wr.keep ⟨hs,fun i hi=>k i (h.xw i hi) (h.wr.blw i hi)⟩,h.o.keep ⟨hs,fun i hi=>k i (h.xo i hi) (h.o.blw i hi)⟩,h.xa,h.xr,h.xw,h.xo⟩
theorem DdAt.mono {w:World} {B B':Nat} {D:Ddw} {args:List Nat} {m:Mac} (h:DdAt w B D args m) (k:B'<=B):DdAt w B' D args m:=⟨h.a,h.r,h.wr,h.o,h.xa.mono k,h.xr.mono k,h.xw.mono k,h.xo.mono k⟩
abbrev dC (t:Int) (na:Nat) (m:Mac) (D:Ddw) (mark num e0 e1 e2 st:Int):Array Value:=#[.int .i64 0,.int .i64 0,.int .i64 0,.int .i64 t,.slice D.pa na D.ca,.int .i64 mark,.int .i64 num,.slice D.pr m.reads.length D.cr,.slice D.pw m.buf.length D.cw,.slice D.po m.out.length D.co,.int .i64 e0,.int .i64 e1,.int .i64 e2,.int .i64 0,.int .i64 0,.int .i64 st,.int .i64 0,.int .i64 0,.int .i64 0]
abbrev dZ:Obj:=.cells #[.int .i64 0,.int .i64 0,.int .i64 0,.int .i64 0,.slice none 0 0,.int .i64 0,.int .i64 0,.slice none 0 0,.slice none 0 0,.slice none 0 0,.int .i64 0,.int .i64 0,.int .i64 0,.int .i64 0,.int .i64 0,.int .i64 0,.int .i64 0,.int .i64 0,.int .i64 0] 48
theorem ac6 {fn:Func} {p:Tmp} (h:fn.results=#[.cell p 48]) {R:Ending->World->Prop} {a:Act} {w:World} (g:Nat) {t:Int} {na:Nat} {m:Mac} {D:Ddw} {mark num e0 e1 e2 st:Int} (hp:a.tmps.getD p undef=.pointer (some ⟨g,0,none⟩))
  (hg:w.heap[g]?=some (.cells (dC t na m D mark num e0 e1 e2 st) 48 (0,0))) (hd:a.defers=[]) (hR:R (.returned (.agg (dC t na m D mark num e0 e1 e2 st))) w):bodyPost Tryz.prog fn R .ret a w :=
 bodyPost_ret (results_cell_row h _ _ g _ _ _ _ hp hg Tryz.underlying48 rfl (by kernel_rfl)) hd hR
theorem deedInfo:(Tryz.prog.info? 48).map (·.size)=some 19:=by kernel_rfl
theorem a71 (t:Int) (na:Nat) (m:Mac) (D:Ddw) (mark num e0 e1 e2 st:Int):(dC t na m D mark num e0 e1 e2 st).all (·.oneCell')=true:=by simp[Value.oneCell']
def b61 (x:Wx):Int:=if x.part=1 then -1 else wrap64 x.tick
def endJ (x:Wx) (v:Int):Int:=if x.part=9 then v else 0
structure DdX (w:World) (B g:Nat) (D:Ddw) (args:List Nat) (m:Mac):Prop where
 d:DdAt w B D args m
 na:g∉fpR D.pa
 nr:g∉fpR D.pr
 nw:g∉fpR D.pw
 no:g∉fpR D.po
theorem DdX.put {w:World} {B g:Nat} {D:Ddw} {args:List Nat} {m:Mac} (h:DdX w B g D args m) (j:Nat) (v:Value):DdX (w.setCell ⟨g,j,none⟩ v) B g D args m :=
 ⟨⟨h.d.a.keep (ae8 h.na),h.d.r.keep (ae8 h.nr),h.d.wr.keep (ae8 h.nw),h.d.o.keep (ae8 h.no),h.d.xa,h.d.xr,h.d.xw,h.d.xo⟩,h.na,h.nr,h.nw,h.no⟩
theorem DdX.on {w w':World} {B g:Nat} {D:Ddw} {args:List Nat} {m:Mac} (h:DdX w B g D args m) (k:Bl w w'):DdX w' B g D args m:=⟨h.d.on k,h.na,h.nr,h.nw,h.no⟩
theorem a96 {F:List Nat} {w:World} {g:Nat} {x:Array Value} (h:g∉F):Kept F w (w.setRow g x):=⟨by simp,fun i hi=>setRow_other _ _ _ _ (fun (e:i=g)=>h (e ▸ hi))⟩
theorem a64 {u:World} {p:Option Addr} {g:Nat} (h:Blw u (fpR p)) (hg:u.heap.size<=g):g∉fpR p:=fun y=>by have:=h g y;omega
theorem a63 {p:Option Addr} {g B:Nat} (h:Abv B (fpR p)) (hg:g<B):g∉fpR p:=fun y=>by have:=h g y;omega
theorem a01 {a b c:World} (h:Bl a b) (k:Bl b c):Bl a c:=h.trans (k.mono h.size)
section
variable {w:World} {b:Nat} {x:Wx} {z:Wz} {v:Wv}
theorem Deed_any (h:RawAt w b x z v) (hv:VOk x v) (hI:InY x) {na:Nat} (hna:x.args.length=na) {m:Mac} (hm:x.m=m) {mk nu e0 e1 e2:Int} (hk:b61 x=mk) (hnu:x.num=nu) (h0:endJ x m.how=e0) (h1:endJ x m.cod=e1) (h2:endJ x m.err=e2):Calls Tryz.prog 84 #[.pointer (some ⟨b,0,none⟩)] w fun e w'=>∃ D,e=.returned (.agg (dC x.tag na m D mk nu e0 e1 e2 x.steps))/\DdAt w' w.heap.size D x.args m/\Bl w w':=by
 subst hm;have hf:=hI.few;have ho:=hI.rest.inv.out;have hr:=hI.rest.inv.reads;have hu:=hI.rest.inv.used;have hfu:=hI.rest.inv.fuel;have hw0:(x.m.reads.length:Int)<=1024:=by split at hr <;> omega
 have HNB:Hid (wrap64 v.nb=nu):=hv.nb.trans hnu;have HC:Hid (∀ u,Bl w u->Calls Tryz.prog 59 #[.slice z.pa na z.ca] u fun e w'=>∃ p' c',e=.returned (.slice p' na c')/\RowAt 49 w' p' c' (fls x.args)/\Abv u.heap.size (fpR p')/\Bl u w'):=fun u hu=>am7 (h.on hu).arg hna (by omega)
 have HR:Hid (∀ u,Bl w u->Calls Tryz.prog 97 #[.pointer (some ⟨z.bm,0,none⟩)] u fun e w'=>∃ p' c',e=.returned (.slice p' x.m.reads.length c')/\TRow w' p' c' x.m.reads/\Abv u.heap.size (fpR p')/\Bl u w'):=fun u hu=>aJ8 (h.on hu).mac.gm (by omega)
 have HWR:Hid (∀ u,Bl w u->Calls Tryz.prog 98 #[.pointer (some ⟨z.bm,0,none⟩)] u fun e w'=>∃ p' c',e=.returned (.slice p' x.m.buf.length c')/\TRow w' p' c' x.m.buf/\Abv u.heap.size (fpR p')/\Bl u w'):=fun u hu=>(ak3 (h.on hu).mac.gm).mono (by rintro e w' ⟨q1,q2,q3⟩;exact⟨_,_,q1,q2,(fun i hi=>by simp[fpR]at hi;omega),q3⟩)
 have HOU:Hid (∀ u,Bl w u->Calls Tryz.prog 99 #[.pointer (some ⟨z.bm,0,none⟩)] u fun e w'=>∃ p' c',e=.returned (.slice p' x.m.out.length c')/\RowAt 49 w' p' c' (fls x.m.out)/\Abv u.heap.size (fpR p')/\Bl u w'):=fun u hu=>b69 (h.on hu).mac.gm (by omega)
 have HB:Hid (∀ u,Bl w u->u.cell? ⟨b,7,none⟩=some (.int .i64 x.tag)/\u.cell? ⟨b,8,none⟩=some (.slice z.pa na z.ca)/\u.cell? ⟨b,9,none⟩=some (.pointer (some ⟨z.bm,0,none⟩))/\u.cell? ⟨b,10,none⟩=some (.int .i64 x.steps)/\u.cell? ⟨b,19,none⟩=some (.int .u64 v.nb)):=fun u hu=>⟨((h.on hu).cell 7).trans rfl,((h.on hu).cell 8).trans (by rw[<- hna];rfl),((h.on hu).cell 9).trans rfl,((h.on hu).cell 10).trans rfl,((h.on hu).cell 19).trans rfl⟩
 have HBP:Hid (∀ u,Bl w u->u.cell? ⟨b,11,none⟩=some (.int .i64 (x.part:Int))/\u.cell? ⟨b,13,none⟩=some (.int .u64 x.tick)/\u.cell? ⟨b,9,none⟩=some (.pointer (some ⟨z.bm,0,none⟩))/\b<u.heap.size):=fun u hu=>⟨((h.on hu).cell 11).trans rfl,((h.on hu).cell 13).trans rfl,((h.on hu).cell 9).trans rfl,(h.on hu).ltB⟩
 have HO:Hid (∀ u,Bl w u->Calls Tryz.prog 100 #[.pointer (some ⟨b,0,none⟩)] u fun e w'=>e=.returned (.bool (decide ((x.part:Int)=9)))/\w'=u):=fun u hu=>ao0 (h.on hu) hv.nx
 have HE:Hid (∀ u,Bl w u->Calls Tryz.prog 101 #[.pointer (some ⟨z.bm,0,none⟩)] u fun e w'=>e=.returned (.agg #[.int .i64 x.m.how,.int .i64 x.m.cod,.int .i64 x.m.err])/\Bl u w'):=fun u hu=>Go.Proofs.YtipakfjpfjehmaaGreatDoor.end_any (h.on hu).mac.gm
 have HLB:Hid (b<w.heap.size):=h.ltB;have hb:=h.ltB;have HARG:=zH (show x.args=x.args from rfl);clear h hI hf ho hr hu hfu hw0 hna hv hnu HARG;unfold b61 at hk;unfold endJ at h0 h1 h2
 generalize x.args=args at *
 generalize x.tag=tg at *
 generalize x.steps=st at *
 generalize v.nb=nb at *
 have H0:Hid (Bl w (w.alloc dZ)/\(w.alloc dZ).heap[w.heap.size]?=some dZ/\w.heap.size<(w.alloc dZ).heap.size):=⟨below_alloc _ _,zN _ _,by simp⟩;go_enter Tryz.func84,Tryz.ntmps84
 go_upto_region 1 with fail
 obtain⟨w1,hw1⟩:∃ w1,w1=w.alloc dZ:=⟨_,rfl⟩
 rw[<- hw1]at H0;rw[show w.alloc (.cells #[.int .i64 0,.int .i64 0,.int .i64 0,.int .i64 0,.slice none 0 0,.int .i64 0,.int .i64 0,.slice none 0 0,.slice none 0 0,.slice none 0 0,.int .i64 0,.int .i64 0,.int .i64 0,.int .i64 0,.int .i64 0,.int .i64 0,.int .i64 0,.int .i64 0,.int .i64 0] 48)=w1 from hw1.symm];clear hw1
 go_cut [3] (fun v3 wc=>∃ g,v3=.pointer (some ⟨g,0,none⟩)/\Hid (∃ D,wc.heap[g]?=some (.cells (dC tg na x.m D (-1) nu 0 0 0 st) 48 (0,0))/\DdX wc (w.heap.size+1) g D args x.m/\Bl w wc/\wc.heap[w.heap.size]?=some dZ/\w.heap.size<g))
 case first =>
  have HS1:=HB.out _ H0.out.1;clear hk h0 h1 h2 HO HE HBP;refine as0 (fun u=>u.cell? ⟨b,7,none⟩=some (.int .i64 tg)/\u.cell? ⟨b,8,none⟩=some (.slice z.pa na z.ca)/\u.cell? ⟨b,9,none⟩=some (.pointer (some ⟨z.bm,0,none⟩))/\u.cell? ⟨b,10,none⟩=some (.int .i64 st)/\u.cell? ⟨b,19,none⟩=some (.int .u64 nb)) ((0,true)::(1,true)::(2,true)::(3,true)::(4,true)::(5,true)::(6,true)::(7,true)::(9,true)::(10,true)::(11,true)::(12,true)::(13,true)::(14,true)::(15,true)::(16,true)::(17,true)::(19,true)::(20,true)::(21,true)::(22,true)::(24,true)::(25,true)::(26,true)::(27,true)::(29,true)::(30,true)::(31,true)::(32,true)::(8,false)::(18,false)::(23,false)::(28,false)::(33,true)::[]) 34 [(35,false)] Md.Cv.follows13 (by kernel_rfl) (fun _ _ _ _ _ h=>h) HS1 ?_
  (repeat (refine ap7 (v:=?_) rfl (by rfl) (fun wq hSq=>?_) ?_;rotate_left;(focus ((try dsimp only at hSq);go_simp;try with_reducible rfl));simp only[Act.put,zA,zB,zC]))
  rw[Go.IntWalk.i64_left,HNB.out];obtain⟨w2,hw2⟩:∃ w2,w2=w1.drew:=⟨_,rfl⟩
  have Bw2:Hid (Bl w1 w2):=by rw[hw2];exact(Same.drew w1).below _
  have Ww2:Hid (Bl w w2):=a01 H0.out.1 Bw2.out;rw[<- hw2];clear hw2;refine ay8 rfl (by rfl) (fun KK hK=>?_) ?_
  ·go_simp
   refine(HC.out _ Ww2.out).mono ?_;rintro e u0 ⟨p0,c0,rfl,a1,a2,a3⟩;have R0:Hid (_/\Abv w2.heap.size (fpR p0)/\Bl w2 u0):=⟨a1,a2,a3⟩;have Bu0:=zH (a01 Bw2.out a3);have Wu0:=zH (a01 Ww2.out a3);clear a1 a2 a3;refine hK.out _ _ (HB.out _ Wu0.out) ?_
   (clear hK KK;try simp only[Act.put,zA,zB,zC])
   refine ay8 rfl (by rfl) (fun KK hK=>?_) ?_
   ·go_simp
    refine(HR.out _ Wu0.out).mono ?_;rintro e u1 ⟨p1,c1,rfl,a1,a2,a3⟩;have R1:Hid (_/\Abv u0.heap.size (fpR p1)/\Bl u0 u1):=⟨a1,a2,a3⟩;have Bu1:=zH (a01 Bu0.out a3);have Wu1:=zH (a01 Wu0.out a3);clear a1 a2 a3;refine hK.out _ _ (HB.out _ Wu1.out) ?_
    (clear hK KK;try simp only[Act.put,zA,zB,zC])
    refine ay8 rfl (by rfl) (fun KK hK=>?_) ?_
    ·go_simp
     refine(HWR.out _ Wu1.out).mono ?_;rintro e u2 ⟨p2,c2,rfl,a1,a2,a3⟩;have R2:Hid (_/\Abv u1.heap.size (fpR p2)/\Bl u1 u2):=⟨a1,a2,a3⟩;have Bu2:=zH (a01 Bu1.out a3);have Wu2:=zH (a01 Wu1.out a3);clear a1 a2 a3;refine hK.out _ _ (HB.out _ Wu2.out) ?_
     (clear hK KK;try simp only[Act.put,zA,zB,zC])
     refine ay8 rfl (by rfl) (fun KK hK=>?_) ?_
     ·go_simp
      refine(HOU.out _ Wu2.out).mono ?_;rintro e u3 ⟨p3,c3,rfl,a1,a2,a3⟩;have R3:Hid (_/\Abv u2.heap.size (fpR p3)/\Bl u2 u3):=⟨a1,a2,a3⟩;have Bu3:=zH (a01 Bu2.out a3);have Wu3:=zH (a01 Wu2.out a3);clear a1 a2 a3;refine hK.out _ _ (HB.out _ Wu3.out) ?_
      (clear hK KK;try simp only[Act.put,zA,zB,zC])
      (repeat (refine ap7 (v:=?_) rfl (by rfl) (fun wq hSq=>?_) ?_;rotate_left;(focus ((try dsimp only at hSq);go_simp;try with_reducible rfl));simp only[Act.put,zA,zB,zC]))
      refine aT9 ?_
      (refine a04 rfl (by rfl) (fun KK hK=>?_);go_simp)
      obtain⟨v4,hv4⟩:∃ v4,v4=u3.alloc dZ:=⟨_,rfl⟩
      have Av4:Hid (Bl u3 v4/\v4.heap[u3.heap.size]?=some dZ/\u3.heap.size<v4.heap.size):=by rw[hv4];exact⟨below_alloc _ _,zN _ _,by simp⟩
      have Bv4:=zH (a01 Bu3.out Av4.out.1);have Wv4:=zH (a01 Wu3.out Av4.out.1);rw[show u3.alloc (.cells #[.int .i64 0,.int .i64 0,.int .i64 0,.int .i64 0,.slice none 0 0,.int .i64 0,.int .i64 0,.slice none 0 0,.slice none 0 0,.slice none 0 0,.int .i64 0,.int .i64 0,.int .i64 0,.int .i64 0,.int .i64 0,.int .i64 0,.int .i64 0,.int .i64 0,.int .i64 0] 48)=v4 from hv4.symm];clear hv4;refine hK.out _ _ (HB.out _ Wv4.out) ?_
      (clear hK KK;try simp only[Act.put,zA,zB,zC])
      have XB:Hid (v4.heap[u3.heap.size]?=some dZ):=((zF v4.heap.size v4).block _ (lt_of_block Av4.out.2.1)).trans Av4.out.2.1;have HDD:Hid (DdX (v4.setRow u3.heap.size (dC tg na x.m ⟨p0,c0,p1,c1,p2,c2,p3,c3⟩ (-1) nu 0 0 0 st)) (w.heap.size+1) u3.heap.size ⟨p0,c0,p1,c1,p2,c2,p3,c3⟩ args x.m):=⟨⟨(R0.out.1.on (a01 (a01 (a01 (a01 (zF u0.heap.size u0) R1.out.2.2) R2.out.2.2) R3.out.2.2) Av4.out.1)).keep (a96 (a64 R0.out.1.blw (a01 (a01 (a01 (zF u0.heap.size u0) R1.out.2.2) R2.out.2.2) R3.out.2.2).size)),(R1.out.1.on (a01 (a01 (a01 (zF u1.heap.size u1) R2.out.2.2) R3.out.2.2) Av4.out.1)).keep (a96 (a64 R1.out.1.blw (a01 (a01 (zF u1.heap.size u1) R2.out.2.2) R3.out.2.2).size)),(R2.out.1.on (a01 (a01 (zF u2.heap.size u2) R3.out.2.2) Av4.out.1)).keep (a96 (a64 R2.out.1.blw (a01 (zF u2.heap.size u2) R3.out.2.2).size)),(R3.out.1.on (a01 (zF u3.heap.size u3) Av4.out.1)).keep (a96 (a64 R3.out.1.blw (zF u3.heap.size u3).size)),R0.out.2.1.mono (by have:=Bw2.out.size;have:=H0.out.2.2;omega),R1.out.2.1.mono (by have:=Bu0.out.size;have:=H0.out.2.2;omega),R2.out.2.1.mono (by have:=Bu1.out.size;have:=H0.out.2.2;omega),R3.out.2.1.mono (by have:=Bu2.out.size;have:=H0.out.2.2;omega)⟩,a64 R0.out.1.blw (a01 (a01 (a01 (zF u0.heap.size u0) R1.out.2.2) R2.out.2.2) R3.out.2.2).size,a64 R1.out.1.blw (a01 (a01 (zF u1.heap.size u1) R2.out.2.2) R3.out.2.2).size,a64 R2.out.1.blw (a01 (zF u2.heap.size u2) R3.out.2.2).size,a64 R3.out.1.blw (zF u3.heap.size u3).size⟩;have HGW:Hid (w.heap.size<u3.heap.size/\b≠u3.heap.size):=⟨by have:=Bu3.out.size;have:=H0.out.2.2;omega,fun y=>by have:=Wu3.out.size;have:=HLB.out;omega⟩;refine a04 rfl (by rfl) (fun KK hK=>?_);refine wp_store_row 48 _ _ rfl u3.heap.size (dC tg na x.m ⟨p0,c0,p1,c1,p2,c2,p3,c3⟩ (-1) nu 0 0 0 st) rfl rfl _ _ XB.out deedInfo rfl (a71 _ _ _ _ _ _ _ _ _ _) ?_;obtain⟨s7,s8,s9,s10,s19⟩:=HB.out _ Wv4.out;have O:∀ j,(v4.setRow u3.heap.size (dC tg na x.m ⟨p0,c0,p1,c1,p2,c2,p3,c3⟩ (-1) nu 0 0 0 st)).cell? ⟨b,j,none⟩=v4.cell? ⟨b,j,none⟩:=fun j=>cell_setRow_other _ _ _ _ HGW.out.2
      refine hK.out _ _ ⟨(O 7).trans s7,(O 8).trans s8,(O 9).trans s9,(O 10).trans s10,(O 19).trans s19⟩ ?_;clear O
      (clear hK KK;try simp only[Act.put])
      refine a13 ?_;go_wp2_with fail
      go_meet
      exact⟨_,rfl,⟨p0,c0,p1,c1,p2,c2,p3,c3⟩,setRow_heap _ _ _ _ _ _ XB.out,HDD.out,Md.Ce.bl_setRow Wv4.out (by have:=HGW.out.1;omega) _,(setRow_other _ _ _ _ (by have:=HGW.out.1;omega)).trans ((Bv4.out.block _ H0.out.2.2).trans H0.out.2.1),HGW.out.1⟩
     ·rw[show ∀ (a b:List (Nat × Bool)),a ++ b=List.append a b from fun _ _=>rfl]
      dsimp only[List.append]
      (refine a04 rfl (by rfl) (fun KK hK=>?_);go_simp)
      obtain⟨v3,hv3⟩:∃ v3,v3=u2.alloc dZ:=⟨_,rfl⟩
      have Av3:Hid (Bl u2 v3/\v3.heap[u2.heap.size]?=some dZ/\u2.heap.size<v3.heap.size):=by rw[hv3];exact⟨below_alloc _ _,zN _ _,by simp⟩
      have Bv3:=zH (a01 Bu2.out Av3.out.1);have Wv3:=zH (a01 Wu2.out Av3.out.1);rw[show u2.alloc (.cells #[.int .i64 0,.int .i64 0,.int .i64 0,.int .i64 0,.slice none 0 0,.int .i64 0,.int .i64 0,.slice none 0 0,.slice none 0 0,.slice none 0 0,.int .i64 0,.int .i64 0,.int .i64 0,.int .i64 0,.int .i64 0,.int .i64 0,.int .i64 0,.int .i64 0,.int .i64 0] 48)=v3 from hv3.symm];clear hv3;refine hK.out _ _ (HB.out _ Wv3.out) ?_
      (clear hK KK;try simp only[Act.put,zA,zB,zC])
      (refine a04 rfl (by rfl) (fun KK hK=>?_);go_simp)
      refine(HOU.out _ Wv3.out).mono ?_;rintro e u3 ⟨p3,c3,rfl,a1,a2,a3⟩;have R3:Hid (_/\Abv v3.heap.size (fpR p3)/\Bl v3 u3):=⟨a1,a2,a3⟩;have Bu3:=zH (a01 Bv3.out a3);have Wu3:=zH (a01 Wv3.out a3);clear a1 a2 a3;refine hK.out _ _ (HB.out _ Wu3.out) ?_
      (clear hK KK;try simp only[Act.put,zA,zB,zC])
      (repeat ((first | (refine a02 (v:=?_) rfl (by rfl) (fun wq hSq=>?_) ?_;rotate_left;(focus ((try dsimp only at hSq);go_simp;try with_reducible rfl))) | refine a03 rfl (by rfl) ?_);simp only[Act.put,zA,zB,zC]))
      have XB:Hid (u3.heap[u2.heap.size]?=some dZ):=((a01 (zF v3.heap.size v3) R3.out.2.2).block _ (lt_of_block Av3.out.2.1)).trans Av3.out.2.1;have HDD:Hid (DdX (u3.setRow u2.heap.size (dC tg na x.m ⟨p0,c0,p1,c1,p2,c2,p3,c3⟩ (-1) nu 0 0 0 st)) (w.heap.size+1) u2.heap.size ⟨p0,c0,p1,c1,p2,c2,p3,c3⟩ args x.m):=⟨⟨(R0.out.1.on (a01 (a01 (a01 (a01 (zF u0.heap.size u0) R1.out.2.2) R2.out.2.2) Av3.out.1) R3.out.2.2)).keep (a96 (a64 R0.out.1.blw (a01 (a01 (zF u0.heap.size u0) R1.out.2.2) R2.out.2.2).size)),(R1.out.1.on (a01 (a01 (a01 (zF u1.heap.size u1) R2.out.2.2) Av3.out.1) R3.out.2.2)).keep (a96 (a64 R1.out.1.blw (a01 (zF u1.heap.size u1) R2.out.2.2).size)),(R2.out.1.on (a01 (a01 (zF u2.heap.size u2) Av3.out.1) R3.out.2.2)).keep (a96 (a64 R2.out.1.blw (zF u2.heap.size u2).size)),(R3.out.1.on (zF u3.heap.size u3)).keep (a96 (a63 R3.out.2.1 (zL Av3.out.2.2 (zF v3.heap.size v3).size))),R0.out.2.1.mono (by have:=Bw2.out.size;have:=H0.out.2.2;omega),R1.out.2.1.mono (by have:=Bu0.out.size;have:=H0.out.2.2;omega),R2.out.2.1.mono (by have:=Bu1.out.size;have:=H0.out.2.2;omega),R3.out.2.1.mono (by have:=Bv3.out.size;have:=H0.out.2.2;omega)⟩,a64 R0.out.1.blw (a01 (a01 (zF u0.heap.size u0) R1.out.2.2) R2.out.2.2).size,a64 R1.out.1.blw (a01 (zF u1.heap.size u1) R2.out.2.2).size,a64 R2.out.1.blw (zF u2.heap.size u2).size,a63 R3.out.2.1 (zL Av3.out.2.2 (zF v3.heap.size v3).size)⟩;have HGW:Hid (w.heap.size<u2.heap.size/\b≠u2.heap.size):=⟨by have:=Bu2.out.size;have:=H0.out.2.2;omega,fun y=>by have:=Wu2.out.size;have:=HLB.out;omega⟩;refine a04 rfl (by rfl) (fun KK hK=>?_);refine wp_store_row 48 _ _ rfl u2.heap.size (dC tg na x.m ⟨p0,c0,p1,c1,p2,c2,p3,c3⟩ (-1) nu 0 0 0 st) rfl rfl _ _ XB.out deedInfo rfl (a71 _ _ _ _ _ _ _ _ _ _) ?_;obtain⟨s7,s8,s9,s10,s19⟩:=HB.out _ Wu3.out;have O:∀ j,(u3.setRow u2.heap.size (dC tg na x.m ⟨p0,c0,p1,c1,p2,c2,p3,c3⟩ (-1) nu 0 0 0 st)).cell? ⟨b,j,none⟩=u3.cell? ⟨b,j,none⟩:=fun j=>cell_setRow_other _ _ _ _ HGW.out.2
      refine hK.out _ _ ⟨(O 7).trans s7,(O 8).trans s8,(O 9).trans s9,(O 10).trans s10,(O 19).trans s19⟩ ?_;clear O
      (clear hK KK;try simp only[Act.put])
      refine a13 ?_;go_wp2_with fail
      go_meet
      exact⟨_,rfl,⟨p0,c0,p1,c1,p2,c2,p3,c3⟩,setRow_heap _ _ _ _ _ _ XB.out,HDD.out,Md.Ce.bl_setRow Wu3.out (by have:=HGW.out.1;omega) _,(setRow_other _ _ _ _ (by have:=HGW.out.1;omega)).trans ((Bu3.out.block _ H0.out.2.2).trans H0.out.2.1),HGW.out.1⟩
    ·rw[show ∀ (a b:List (Nat × Bool)),a ++ b=List.append a b from fun _ _=>rfl]
     dsimp only[List.append]
     (refine a04 rfl (by rfl) (fun KK hK=>?_);go_simp)
     obtain⟨v2,hv2⟩:∃ v2,v2=u1.alloc dZ:=⟨_,rfl⟩
     have Av2:Hid (Bl u1 v2/\v2.heap[u1.heap.size]?=some dZ/\u1.heap.size<v2.heap.size):=by rw[hv2];exact⟨below_alloc _ _,zN _ _,by simp⟩
     have Bv2:=zH (a01 Bu1.out Av2.out.1);have Wv2:=zH (a01 Wu1.out Av2.out.1);rw[show u1.alloc (.cells #[.int .i64 0,.int .i64 0,.int .i64 0,.int .i64 0,.slice none 0 0,.int .i64 0,.int .i64 0,.slice none 0 0,.slice none 0 0,.slice none 0 0,.int .i64 0,.int .i64 0,.int .i64 0,.int .i64 0,.int .i64 0,.int .i64 0,.int .i64 0,.int .i64 0,.int .i64 0] 48)=v2 from hv2.symm];clear hv2;refine hK.out _ _ (HB.out _ Wv2.out) ?_
     (clear hK KK;try simp only[Act.put,zA,zB,zC])
     (refine a04 rfl (by rfl) (fun KK hK=>?_);go_simp)
     refine(HWR.out _ Wv2.out).mono ?_;rintro e u2 ⟨p2,c2,rfl,a1,a2,a3⟩;have R2:Hid (_/\Abv v2.heap.size (fpR p2)/\Bl v2 u2):=⟨a1,a2,a3⟩;have Bu2:=zH (a01 Bv2.out a3);have Wu2:=zH (a01 Wv2.out a3);clear a1 a2 a3;refine hK.out _ _ (HB.out _ Wu2.out) ?_
     (clear hK KK;try simp only[Act.put,zA,zB,zC])
     (refine a04 rfl (by rfl) (fun KK hK=>?_);go_simp)
     refine(HOU.out _ Wu2.out).mono ?_;rintro e u3 ⟨p3,c3,rfl,a1,a2,a3⟩;have R3:Hid (_/\Abv u2.heap.size (fpR p3)/\Bl u2 u3):=⟨a1,a2,a3⟩;have Bu3:=zH (a01 Bu2.out a3);have Wu3:=zH (a01 Wu2.out a3);clear a1 a2 a3;refine hK.out _ _ (HB.out _ Wu3.out) ?_
     (clear hK KK;try simp only[Act.put,zA,zB,zC])
     (repeat ((first | (refine a02 (v:=?_) rfl (by rfl) (fun wq hSq=>?_) ?_;rotate_left;(focus ((try dsimp only at hSq);go_simp;try with_reducible rfl))) | refine a03 rfl (by rfl) ?_);simp only[Act.put,zA,zB,zC]))
     have XB:Hid (u3.heap[u1.heap.size]?=some dZ):=((a01 (a01 (zF v2.heap.size v2) R2.out.2.2) R3.out.2.2).block _ (lt_of_block Av2.out.2.1)).trans Av2.out.2.1;have HDD:Hid (DdX (u3.setRow u1.heap.size (dC tg na x.m ⟨p0,c0,p1,c1,p2,c2,p3,c3⟩ (-1) nu 0 0 0 st)) (w.heap.size+1) u1.heap.size ⟨p0,c0,p1,c1,p2,c2,p3,c3⟩ args x.m):=⟨⟨(R0.out.1.on (a01 (a01 (a01 (a01 (zF u0.heap.size u0) R1.out.2.2) Av2.out.1) R2.out.2.2) R3.out.2.2)).keep (a96 (a64 R0.out.1.blw (a01 (zF u0.heap.size u0) R1.out.2.2).size)),(R1.out.1.on (a01 (a01 (a01 (zF u1.heap.size u1) Av2.out.1) R2.out.2.2) R3.out.2.2)).keep (a96 (a64 R1.out.1.blw (zF u1.heap.size u1).size)),(R2.out.1.on (a01 (zF u2.heap.size u2) R3.out.2.2)).keep (a96 (a63 R2.out.2.1 (zL Av2.out.2.2 (zF v2.heap.size v2).size))),(R3.out.1.on (zF u3.heap.size u3)).keep (a96 (a63 R3.out.2.1 (zL Av2.out.2.2 (a01 (zF v2.heap.size v2) R2.out.2.2).size))),R0.out.2.1.mono (by have:=Bw2.out.size;have:=H0.out.2.2;omega),R1.out.2.1.mono (by have:=Bu0.out.size;have:=H0.out.2.2;omega),R2.out.2.1.mono (by have:=Bv2.out.size;have:=H0.out.2.2;omega),R3.out.2.1.mono (by have:=Bu2.out.size;have:=H0.out.2.2;omega)⟩,a64 R0.out.1.blw (a01 (zF u0.heap.size u0) R1.out.2.2).size,a64 R1.out.1.blw (zF u1.heap.size u1).size,a63 R2.out.2.1 (zL Av2.out.2.2 (zF v2.heap.size v2).size),a63 R3.out.2.1 (zL Av2.out.2.2 (a01 (zF v2.heap.size v2) R2.out.2.2).size)⟩;have HGW:Hid (w.heap.size<u1.heap.size/\b≠u1.heap.size):=⟨by have:=Bu1.out.size;have:=H0.out.2.2;omega,fun y=>by have:=Wu1.out.size;have:=HLB.out;omega⟩;refine a04 rfl (by rfl) (fun KK hK=>?_);refine wp_store_row 48 _ _ rfl u1.heap.size (dC tg na x.m ⟨p0,c0,p1,c1,p2,c2,p3,c3⟩ (-1) nu 0 0 0 st) rfl rfl _ _ XB.out deedInfo rfl (a71 _ _ _ _ _ _ _ _ _ _) ?_;obtain⟨s7,s8,s9,s10,s19⟩:=HB.out _ Wu3.out;have O:∀ j,(u3.setRow u1.heap.size (dC tg na x.m ⟨p0,c0,p1,c1,p2,c2,p3,c3⟩ (-1) nu 0 0 0 st)).cell? ⟨b,j,none⟩=u3.cell? ⟨b,j,none⟩:=fun j=>cell_setRow_other _ _ _ _ HGW.out.2
     refine hK.out _ _ ⟨(O 7).trans s7,(O 8).trans s8,(O 9).trans s9,(O 10).trans s10,(O 19).trans s19⟩ ?_;clear O
     (clear hK KK;try simp only[Act.put])
     refine a13 ?_;go_wp2_with fail
     go_meet
     exact⟨_,rfl,⟨p0,c0,p1,c1,p2,c2,p3,c3⟩,setRow_heap _ _ _ _ _ _ XB.out,HDD.out,Md.Ce.bl_setRow Wu3.out (by have:=HGW.out.1;omega) _,(setRow_other _ _ _ _ (by have:=HGW.out.1;omega)).trans ((Bu3.out.block _ H0.out.2.2).trans H0.out.2.1),HGW.out.1⟩
   ·rw[show ∀ (a b:List (Nat × Bool)),a ++ b=List.append a b from fun _ _=>rfl]
    dsimp only[List.append]
    (refine a04 rfl (by rfl) (fun KK hK=>?_);go_simp)
    obtain⟨v1,hv1⟩:∃ v1,v1=u0.alloc dZ:=⟨_,rfl⟩
    have Av1:Hid (Bl u0 v1/\v1.heap[u0.heap.size]?=some dZ/\u0.heap.size<v1.heap.size):=by rw[hv1];exact⟨below_alloc _ _,zN _ _,by simp⟩
    have Bv1:=zH (a01 Bu0.out Av1.out.1);have Wv1:=zH (a01 Wu0.out Av1.out.1);rw[show u0.alloc (.cells #[.int .i64 0,.int .i64 0,.int .i64 0,.int .i64 0,.slice none 0 0,.int .i64 0,.int .i64 0,.slice none 0 0,.slice none 0 0,.slice none 0 0,.int .i64 0,.int .i64 0,.int .i64 0,.int .i64 0,.int .i64 0,.int .i64 0,.int .i64 0,.int .i64 0,.int .i64 0] 48)=v1 from hv1.symm];clear hv1;refine hK.out _ _ (HB.out _ Wv1.out) ?_
    (clear hK KK;try simp only[Act.put,zA,zB,zC])
    (refine a04 rfl (by rfl) (fun KK hK=>?_);go_simp)
    refine(HR.out _ Wv1.out).mono ?_;rintro e u1 ⟨p1,c1,rfl,a1,a2,a3⟩;have R1:Hid (_/\Abv v1.heap.size (fpR p1)/\Bl v1 u1):=⟨a1,a2,a3⟩;have Bu1:=zH (a01 Bv1.out a3);have Wu1:=zH (a01 Wv1.out a3);clear a1 a2 a3;refine hK.out _ _ (HB.out _ Wu1.out) ?_
    (clear hK KK;try simp only[Act.put,zA,zB,zC])
    (refine a04 rfl (by rfl) (fun KK hK=>?_);go_simp)
    refine(HWR.out _ Wu1.out).mono ?_;rintro e u2 ⟨p2,c2,rfl,a1,a2,a3⟩;have R2:Hid (_/\Abv u1.heap.size (fpR p2)/\Bl u1 u2):=⟨a1,a2,a3⟩;have Bu2:=zH (a01 Bu1.out a3);have Wu2:=zH (a01 Wu1.out a3);clear a1 a2 a3;refine hK.out _ _ (HB.out _ Wu2.out) ?_
    (clear hK KK;try simp only[Act.put,zA,zB,zC])
    (refine a04 rfl (by rfl) (fun KK hK=>?_);go_simp)
    refine(HOU.out _ Wu2.out).mono ?_;rintro e u3 ⟨p3,c3,rfl,a1,a2,a3⟩;have R3:Hid (_/\Abv u2.heap.size (fpR p3)/\Bl u2 u3):=⟨a1,a2,a3⟩;have Bu3:=zH (a01 Bu2.out a3);have Wu3:=zH (a01 Wu2.out a3);clear a1 a2 a3;refine hK.out _ _ (HB.out _ Wu3.out) ?_
    (clear hK KK;try simp only[Act.put,zA,zB,zC])
    (repeat ((first | (refine a02 (v:=?_) rfl (by rfl) (fun wq hSq=>?_) ?_;rotate_left;(focus ((try dsimp only at hSq);go_simp;try with_reducible rfl))) | refine a03 rfl (by rfl) ?_);simp only[Act.put,zA,zB,zC]))
    have XB:Hid (u3.heap[u0.heap.size]?=some dZ):=((a01 (a01 (a01 (zF v1.heap.size v1) R1.out.2.2) R2.out.2.2) R3.out.2.2).block _ (lt_of_block Av1.out.2.1)).trans Av1.out.2.1;have HDD:Hid (DdX (u3.setRow u0.heap.size (dC tg na x.m ⟨p0,c0,p1,c1,p2,c2,p3,c3⟩ (-1) nu 0 0 0 st)) (w.heap.size+1) u0.heap.size ⟨p0,c0,p1,c1,p2,c2,p3,c3⟩ args x.m):=⟨⟨(R0.out.1.on (a01 (a01 (a01 (a01 (zF u0.heap.size u0) Av1.out.1) R1.out.2.2) R2.out.2.2) R3.out.2.2)).keep (a96 (a64 R0.out.1.blw (zF u0.heap.size u0).size)),(R1.out.1.on (a01 (a01 (zF u1.heap.size u1) R2.out.2.2) R3.out.2.2)).keep (a96 (a63 R1.out.2.1 (zL Av1.out.2.2 (zF v1.heap.size v1).size))),(R2.out.1.on (a01 (zF u2.heap.size u2) R3.out.2.2)).keep (a96 (a63 R2.out.2.1 (zL Av1.out.2.2 (a01 (zF v1.heap.size v1) R1.out.2.2).size))),(R3.out.1.on (zF u3.heap.size u3)).keep (a96 (a63 R3.out.2.1 (zL Av1.out.2.2 (a01 (a01 (zF v1.heap.size v1) R1.out.2.2) R2.out.2.2).size))),R0.out.2.1.mono (by have:=Bw2.out.size;have:=H0.out.2.2;omega),R1.out.2.1.mono (by have:=Bv1.out.size;have:=H0.out.2.2;omega),R2.out.2.1.mono (by have:=Bu1.out.size;have:=H0.out.2.2;omega),R3.out.2.1.mono (by have:=Bu2.out.size;have:=H0.out.2.2;omega)⟩,a64 R0.out.1.blw (zF u0.heap.size u0).size,a63 R1.out.2.1 (zL Av1.out.2.2 (zF v1.heap.size v1).size),a63 R2.out.2.1 (zL Av1.out.2.2 (a01 (zF v1.heap.size v1) R1.out.2.2).size),a63 R3.out.2.1 (zL Av1.out.2.2 (a01 (a01 (zF v1.heap.size v1) R1.out.2.2) R2.out.2.2).size)⟩;have HGW:Hid (w.heap.size<u0.heap.size/\b≠u0.heap.size):=⟨by have:=Bu0.out.size;have:=H0.out.2.2;omega,fun y=>by have:=Wu0.out.size;have:=HLB.out;omega⟩;refine a04 rfl (by rfl) (fun KK hK=>?_);refine wp_store_row 48 _ _ rfl u0.heap.size (dC tg na x.m ⟨p0,c0,p1,c1,p2,c2,p3,c3⟩ (-1) nu 0 0 0 st) rfl rfl _ _ XB.out deedInfo rfl (a71 _ _ _ _ _ _ _ _ _ _) ?_;obtain⟨s7,s8,s9,s10,s19⟩:=HB.out _ Wu3.out;have O:∀ j,(u3.setRow u0.heap.size (dC tg na x.m ⟨p0,c0,p1,c1,p2,c2,p3,c3⟩ (-1) nu 0 0 0 st)).cell? ⟨b,j,none⟩=u3.cell? ⟨b,j,none⟩:=fun j=>cell_setRow_other _ _ _ _ HGW.out.2
    refine hK.out _ _ ⟨(O 7).trans s7,(O 8).trans s8,(O 9).trans s9,(O 10).trans s10,(O 19).trans s19⟩ ?_;clear O
    (clear hK KK;try simp only[Act.put])
    refine a13 ?_;go_wp2_with fail
    go_meet
    exact⟨_,rfl,⟨p0,c0,p1,c1,p2,c2,p3,c3⟩,setRow_heap _ _ _ _ _ _ XB.out,HDD.out,Md.Ce.bl_setRow Wu3.out (by have:=HGW.out.1;omega) _,(setRow_other _ _ _ _ (by have:=HGW.out.1;omega)).trans ((Bu3.out.block _ H0.out.2.2).trans H0.out.2.1),HGW.out.1⟩
  ·rw[show ∀ (a b:List (Nat × Bool)),a ++ b=List.append a b from fun _ _=>rfl]
   dsimp only[List.append]
   (refine a04 rfl (by rfl) (fun KK hK=>?_);go_simp)
   obtain⟨v0,hv0⟩:∃ v0,v0=w2.alloc dZ:=⟨_,rfl⟩
   have Av0:Hid (Bl w2 v0/\v0.heap[w2.heap.size]?=some dZ/\w2.heap.size<v0.heap.size):=by rw[hv0];exact⟨below_alloc _ _,zN _ _,by simp⟩
   have Bv0:=zH (a01 Bw2.out Av0.out.1);have Wv0:=zH (a01 Ww2.out Av0.out.1);rw[show w2.alloc (.cells #[.int .i64 0,.int .i64 0,.int .i64 0,.int .i64 0,.slice none 0 0,.int .i64 0,.int .i64 0,.slice none 0 0,.slice none 0 0,.slice none 0 0,.int .i64 0,.int .i64 0,.int .i64 0,.int .i64 0,.int .i64 0,.int .i64 0,.int .i64 0,.int .i64 0,.int .i64 0] 48)=v0 from hv0.symm];clear hv0;refine hK.out _ _ (HB.out _ Wv0.out) ?_
   (clear hK KK;try simp only[Act.put,zA,zB,zC])
   (refine a04 rfl (by rfl) (fun KK hK=>?_);go_simp)
   refine(HC.out _ Wv0.out).mono ?_;rintro e u0 ⟨p0,c0,rfl,a1,a2,a3⟩;have R0:Hid (_/\Abv v0.heap.size (fpR p0)/\Bl v0 u0):=⟨a1,a2,a3⟩;have Bu0:=zH (a01 Bv0.out a3);have Wu0:=zH (a01 Wv0.out a3);clear a1 a2 a3;refine hK.out _ _ (HB.out _ Wu0.out) ?_
   (clear hK KK;try simp only[Act.put,zA,zB,zC])
   (refine a04 rfl (by rfl) (fun KK hK=>?_);go_simp)
   refine(HR.out _ Wu0.out).mono ?_;rintro e u1 ⟨p1,c1,rfl,a1,a2,a3⟩;have R1:Hid (_/\Abv u0.heap.size (fpR p1)/\Bl u0 u1):=⟨a1,a2,a3⟩;have Bu1:=zH (a01 Bu0.out a3);have Wu1:=zH (a01 Wu0.out a3);clear a1 a2 a3;refine hK.out _ _ (HB.out _ Wu1.out) ?_
   (clear hK KK;try simp only[Act.put,zA,zB,zC])
   (refine a04 rfl (by rfl) (fun KK hK=>?_);go_simp)
   refine(HWR.out _ Wu1.out).mono ?_;rintro e u2 ⟨p2,c2,rfl,a1,a2,a3⟩;have R2:Hid (_/\Abv u1.heap.size (fpR p2)/\Bl u1 u2):=⟨a1,a2,a3⟩;have Bu2:=zH (a01 Bu1.out a3);have Wu2:=zH (a01 Wu1.out a3);clear a1 a2 a3;refine hK.out _ _ (HB.out _ Wu2.out) ?_
   (clear hK KK;try simp only[Act.put,zA,zB,zC])
   (refine a04 rfl (by rfl) (fun KK hK=>?_);go_simp)
   refine(HOU.out _ Wu2.out).mono ?_;rintro e u3 ⟨p3,c3,rfl,a1,a2,a3⟩;have R3:Hid (_/\Abv u2.heap.size (fpR p3)/\Bl u2 u3):=⟨a1,a2,a3⟩;have Bu3:=zH (a01 Bu2.out a3);have Wu3:=zH (a01 Wu2.out a3);clear a1 a2 a3;refine hK.out _ _ (HB.out _ Wu3.out) ?_
   (clear hK KK;try simp only[Act.put,zA,zB,zC])
   (repeat ((first | (refine a02 (v:=?_) rfl (by rfl) (fun wq hSq=>?_) ?_;rotate_left;(focus ((try dsimp only at hSq);go_simp;try with_reducible rfl))) | refine a03 rfl (by rfl) ?_);simp only[Act.put,zA,zB,zC]))
   have XB:Hid (u3.heap[w2.heap.size]?=some dZ):=((a01 (a01 (a01 (a01 (zF v0.heap.size v0) R0.out.2.2) R1.out.2.2) R2.out.2.2) R3.out.2.2).block _ (lt_of_block Av0.out.2.1)).trans Av0.out.2.1;have HDD:Hid (DdX (u3.setRow w2.heap.size (dC tg na x.m ⟨p0,c0,p1,c1,p2,c2,p3,c3⟩ (-1) nu 0 0 0 st)) (w.heap.size+1) w2.heap.size ⟨p0,c0,p1,c1,p2,c2,p3,c3⟩ args x.m):=⟨⟨(R0.out.1.on (a01 (a01 (a01 (zF u0.heap.size u0) R1.out.2.2) R2.out.2.2) R3.out.2.2)).keep (a96 (a63 R0.out.2.1 (zL Av0.out.2.2 (zF v0.heap.size v0).size))),(R1.out.1.on (a01 (a01 (zF u1.heap.size u1) R2.out.2.2) R3.out.2.2)).keep (a96 (a63 R1.out.2.1 (zL Av0.out.2.2 (a01 (zF v0.heap.size v0) R0.out.2.2).size))),(R2.out.1.on (a01 (zF u2.heap.size u2) R3.out.2.2)).keep (a96 (a63 R2.out.2.1 (zL Av0.out.2.2 (a01 (a01 (zF v0.heap.size v0) R0.out.2.2) R1.out.2.2).size))),(R3.out.1.on (zF u3.heap.size u3)).keep (a96 (a63 R3.out.2.1 (zL Av0.out.2.2 (a01 (a01 (a01 (zF v0.heap.size v0) R0.out.2.2) R1.out.2.2) R2.out.2.2).size))),R0.out.2.1.mono (by have:=Bv0.out.size;have:=H0.out.2.2;omega),R1.out.2.1.mono (by have:=Bu0.out.size;have:=H0.out.2.2;omega),R2.out.2.1.mono (by have:=Bu1.out.size;have:=H0.out.2.2;omega),R3.out.2.1.mono (by have:=Bu2.out.size;have:=H0.out.2.2;omega)⟩,a63 R0.out.2.1 (zL Av0.out.2.2 (zF v0.heap.size v0).size),a63 R1.out.2.1 (zL Av0.out.2.2 (a01 (zF v0.heap.size v0) R0.out.2.2).size),a63 R2.out.2.1 (zL Av0.out.2.2 (a01 (a01 (zF v0.heap.size v0) R0.out.2.2) R1.out.2.2).size),a63 R3.out.2.1 (zL Av0.out.2.2 (a01 (a01 (a01 (zF v0.heap.size v0) R0.out.2.2) R1.out.2.2) R2.out.2.2).size)⟩;have HGW:Hid (w.heap.size<w2.heap.size/\b≠w2.heap.size):=⟨by have:=Bw2.out.size;have:=H0.out.2.2;omega,fun y=>by have:=Ww2.out.size;have:=HLB.out;omega⟩;refine a04 rfl (by rfl) (fun KK hK=>?_);refine wp_store_row 48 _ _ rfl w2.heap.size (dC tg na x.m ⟨p0,c0,p1,c1,p2,c2,p3,c3⟩ (-1) nu 0 0 0 st) rfl rfl _ _ XB.out deedInfo rfl (a71 _ _ _ _ _ _ _ _ _ _) ?_;obtain⟨s7,s8,s9,s10,s19⟩:=HB.out _ Wu3.out;have O:∀ j,(u3.setRow w2.heap.size (dC tg na x.m ⟨p0,c0,p1,c1,p2,c2,p3,c3⟩ (-1) nu 0 0 0 st)).cell? ⟨b,j,none⟩=u3.cell? ⟨b,j,none⟩:=fun j=>cell_setRow_other _ _ _ _ HGW.out.2
   refine hK.out _ _ ⟨(O 7).trans s7,(O 8).trans s8,(O 9).trans s9,(O 10).trans s10,(O 19).trans s19⟩ ?_;clear O
   (clear hK KK;try simp only[Act.put])
   refine a13 ?_;go_wp2_with fail
   go_meet
   exact⟨_,rfl,⟨p0,c0,p1,c1,p2,c2,p3,c3⟩,setRow_heap _ _ _ _ _ _ XB.out,HDD.out,Md.Ce.bl_setRow Wu3.out (by have:=HGW.out.1;omega) _,(setRow_other _ _ _ _ (by have:=HGW.out.1;omega)).trans ((Bu3.out.block _ H0.out.2.2).trans H0.out.2.1),HGW.out.1⟩
 case rest =>
  obtain⟨g,rfl,HQ⟩:=hcut;obtain⟨D,q1,q2,q3,q4,q5⟩:=HQ.out;have X:=zH q1;have XD:=zH q2;have XB:=zH q3;have XZ:=zH q4;have XG:Hid (w.heap.size≠g/\w.heap.size<=g):=⟨by omega,by omega⟩;obtain⟨e11,e13,e9,eb⟩:=HBP.out _ q3;clear HQ q1 q2 q3 q4 q5 HB HC HR HWR HOU HNB;obtain⟨mk',hmk'⟩:∃ mk',mk'=mk:=⟨_,rfl⟩
  have k5:wc.cell? ⟨g,5,none⟩=some (.int .i64 (-1)):=(zR _ _ 5 _ _ _ X.out).trans rfl;have f5:=zZ wc g 5 _ _ X.out;have lg:=lt_of_block X.out;have HM:Hid (∀ u,u=(if x.part=1 then wc else wc.setCell ⟨g,5,none⟩ (.int .i64 (wrap64 x.tick)))->u.heap[g]?=some (.cells (dC tg na x.m D mk nu 0 0 0 st) 48 (0,0))/\DdX u (w.heap.size+1) g D args x.m/\Bl w u/\u.heap[w.heap.size]?=some dZ):=fun u hu=>by
   by_cases e:x.part=1
   ·rw[if_pos e]at hu hk
    subst hu hk;exact⟨X.out,XD.out,XB.out,XZ.out⟩
   ·rw[if_neg e]at hu hk
    subst hu hk;exact⟨(zS wc g 5 _ _ _ X.out).trans rfl,XD.out.put _ _,XB.out.setCell XG.out.2 _,(zO _ _ _ _ XG.out.1).trans XZ.out⟩
  clear mk' hmk';have HFIN:Hid (∀ u a0 a1 a2,u.heap[g]?=some (.cells (dC tg na x.m D mk nu a0 a1 a2 st) 48 (0,0))/\DdX u (w.heap.size+1) g D args x.m/\Bl w u/\u.heap[w.heap.size]?=some dZ->DdAt (u.setRow w.heap.size (dC tg na x.m D mk nu a0 a1 a2 st)) w.heap.size D args x.m/\Bl w (u.setRow w.heap.size (dC tg na x.m D mk nu a0 a1 a2 st))):=fun u a0 a1 a2 q=>⟨(q.2.1.d.keep (fun i hi _=>setRow_other _ _ _ _ (by omega)) (by simp)).mono (by omega),Md.Ce.bl_setRow q.2.2.1 (zE _) _⟩
  by_cases p1:x.part=1
  ·have ne9:¬ (x.part:Int)=9:=by omega
   rw[if_neg (by omega)]at h0 h1 h2;subst h0 h1 h2;obtain⟨y1,y2,y3,y4⟩:=HM.out wc (by rw[if_pos p1]);have Y:=zH (And.intro y1 (And.intro y2 (And.intro y3 y4)));have t11:((x.part:Int) != 1)=false:=by simp[p1]
   rw[zU ne9]at HO;clear y1 y2 y3 y4 HM X XD XZ p1 hk k5 f5 ne9
   go_wp2_with (first
    | (refine wpList_store_row rfl 48 _ _ rfl w.heap.size (dC tg na x.m D mk nu 0 0 0 st) rfl rfl _ _ Y.out.2.2.2 deedInfo rfl (a71 _ _ _ _ _ _ _ _ _ _) ?_)
    | (refine wpList_load_row rfl 48 _ rfl g rfl _ (dC tg na x.m D mk nu 0 0 0 st) _ _ Y.out.1 Tryz.underlying48 rfl deedInfo ?_)
    | (go_at_call 100;refine(HO.out _ XB.out).mono ?_;rintro e u3 ⟨rfl,hw⟩;subst u3))
   refine ac6 (D:=D) (m:=x.m) rfl w.heap.size rfl (setRow_heap _ _ _ _ _ _ Y.out.2.2.2) rfl ⟨_,rfl,?_⟩;exact HFIN.out _ _ _ _ Y.out
  ·obtain⟨u1,hu1⟩:∃ u1,u1=wc.setCell ⟨g,5,none⟩ (.int .i64 (wrap64 x.tick)):=⟨_,rfl⟩
   obtain⟨y1,y2,y3,y4⟩:=HM.out u1 (by rw[if_neg p1];exact hu1);have Y:=zH (And.intro y1 (And.intro y2 (And.intro y3 y4)));have t11:((x.part:Int) != 1)=true:=by simp;omega
   have HU1:=zH hu1;obtain⟨_,_,z9,zb⟩:=HBP.out _ y3;have lgu:=lt_of_block y1;clear y1 y2 y3 y4 HM X XD XZ hu1
   by_cases p9:x.part=9
   ·rw[if_pos p9]at h0 h1 h2
    subst h0 h1 h2;rw[zT (by omega)]at HO;clear p1 p9 hk
    go_upto_region 4 with fail
    rw[<- HU1.out];clear HU1;have HEN:Hid (∀ u3,Bl u1 u3->(u3.cell? ⟨g,10,none⟩=some (.int .i64 0)/\u3.cell? ⟨g,11,none⟩=some (.int .i64 0)/\u3.cell? ⟨g,12,none⟩=some (.int .i64 0)/\u3.frozen? ⟨g,10,none⟩=false/\u3.frozen? ⟨g,11,none⟩=false/\u3.frozen? ⟨g,12,none⟩=false/\g<u3.heap.size)/\Hid ((((u3.setCell ⟨g,10,none⟩ (.int .i64 x.m.how)).setCell ⟨g,11,none⟩ (.int .i64 x.m.cod)).setCell ⟨g,12,none⟩ (.int .i64 x.m.err)).heap[g]?=some (.cells (dC tg na x.m D mk nu x.m.how x.m.cod x.m.err st) 48 (0,0))/\DdX (((u3.setCell ⟨g,10,none⟩ (.int .i64 x.m.how)).setCell ⟨g,11,none⟩ (.int .i64 x.m.cod)).setCell ⟨g,12,none⟩ (.int .i64 x.m.err)) (w.heap.size+1) g D args x.m/\Bl w (((u3.setCell ⟨g,10,none⟩ (.int .i64 x.m.how)).setCell ⟨g,11,none⟩ (.int .i64 x.m.cod)).setCell ⟨g,12,none⟩ (.int .i64 x.m.err))/\(((u3.setCell ⟨g,10,none⟩ (.int .i64 x.m.how)).setCell ⟨g,11,none⟩ (.int .i64 x.m.cod)).setCell ⟨g,12,none⟩ (.int .i64 x.m.err)).heap[w.heap.size]?=some dZ)):=fun u3 k=>by
     have hg:u3.heap[g]?=some (.cells (dC tg na x.m D mk nu 0 0 0 st) 48 (0,0)):=(k.block _ lgu).trans Y.out.1;have a1:=(zS u3 g 10 _ _ (.int .i64 x.m.how) hg).trans (show _=some (Obj.cells (dC tg na x.m D mk nu x.m.how 0 0 st) 48) from rfl);have a2:=(zS _ g 11 _ _ (.int .i64 x.m.cod) a1).trans (show _=some (Obj.cells (dC tg na x.m D mk nu x.m.how x.m.cod 0 st) 48) from rfl);have a3:=(zS _ g 12 _ _ (.int .i64 x.m.err) a2).trans (show _=some (Obj.cells (dC tg na x.m D mk nu x.m.how x.m.cod x.m.err st) 48) from rfl);refine⟨⟨(zR _ _ 10 _ _ _ hg).trans rfl,(zR _ _ 11 _ _ _ hg).trans rfl,(zR _ _ 12 _ _ _ hg).trans rfl,zZ _ _ _ _ _ hg,zZ _ _ _ _ _ hg,zZ _ _ _ _ _ hg,lt_of_block hg⟩,a3,(((Y.out.2.1.on k).put _ _).put _ _).put _ _,?_,?_⟩
     ·have hw:=a01 Y.out.2.2.1 k
      exact((hw.setCell XG.out.2 _).setCell XG.out.2 _).setCell XG.out.2 _
     ·exact(zO _ _ _ _ XG.out.1).trans ((zO _ _ _ _ XG.out.1).trans ((zO _ _ _ _ XG.out.1).trans ((k.block _ (lt_of_block Y.out.2.2.2)).trans Y.out.2.2.2)))
    go_wp2_with (first
     | (refine wpList_store_row rfl 48 _ _ rfl w.heap.size (dC tg na x.m D mk nu x.m.how x.m.cod x.m.err st) rfl rfl _ _ Z.out.2.2.2 deedInfo rfl (a71 _ _ _ _ _ _ _ _ _ _) ?_)
     | (refine wpList_load_row rfl 48 _ rfl g rfl _ (dC tg na x.m D mk nu x.m.how x.m.cod x.m.err st) _ _ Z.out.1 Tryz.underlying48 rfl deedInfo ?_)
     | (go_at_call 101;refine(HE.out _ Y.out.2.2.1).mono ?_;rintro e u4 ⟨rfl,q⟩;obtain⟨⟨k10,k11,k12,f10,f11,f12,l4⟩,Z⟩:=HEN.out _ q;clear q HEN)
     | (go_at_call 100;refine(HO.out _ Y.out.2.2.1).mono ?_;rintro e u3 ⟨rfl,hw⟩;subst u3))
    refine ac6 (D:=D) (m:=x.m) rfl w.heap.size rfl (setRow_heap _ _ _ _ _ _ Z.out.2.2.2) rfl ⟨_,rfl,?_⟩;exact HFIN.out _ _ _ _ Z.out
   ·rw[if_neg p9]at h0 h1 h2
    subst h0 h1 h2;rw[zU (by omega)]at HO;clear p1 p9 hk
    go_upto_region 4 with fail
    rw[<- HU1.out];clear HU1
    go_wp2_with (first
     | (refine wpList_store_row rfl 48 _ _ rfl w.heap.size (dC tg na x.m D mk nu 0 0 0 st) rfl rfl _ _ Y.out.2.2.2 deedInfo rfl (a71 _ _ _ _ _ _ _ _ _ _) ?_)
     | (refine wpList_load_row rfl 48 _ rfl g rfl _ (dC tg na x.m D mk nu 0 0 0 st) _ _ Y.out.1 Tryz.underlying48 rfl deedInfo ?_)
     | (go_at_call 100;refine(HO.out _ Y.out.2.2.1).mono ?_;rintro e u3 ⟨rfl,hw⟩;subst u3))
    refine ac6 (D:=D) (m:=x.m) rfl w.heap.size rfl (setRow_heap _ _ _ _ _ _ Y.out.2.2.2) rfl ⟨_,rfl,?_⟩;exact HFIN.out _ _ _ _ Y.out
end
end Go.Proofs.YtipakfjpfjehmaaGreatDoor.Ww
namespace Go.Proofs.YtipakfjpfjehmaaGreatDoor.En
open Go.ChangeShapes Go.WideShapes Go.ChangeAt Go.RowKit Num Ww
open Rr (Rx a19 InX okW u64B Alike step_in newX a43)
def TxAt (w:World) (b:Nat) (G K:List Nat):Ty->Prop
 | .inl (_,x)=>∃ z q F r,Rr.RawAt w b x z q F (Rr.comC x) r/\Rr.RdOk x q r/\G=Rr.gX b z q F/\K=z.KK
 | .inr (_,x)=>∃ z v,RawAt w b x z v/\VOk x v/\G=gY b v/\K=z.KK
def bG7:Ty->FuncId
 | .inl _=>249
 | .inr _=>246
def bJ4:Ty->FuncId
 | .inl _=>248
 | .inr _=>84
def txT:Ty->TypeId
 | .inl _=>148
 | .inr _=>146
def txV (y:Ty) (b:Nat):Value:=.iface (txT y) (.pointer (some ⟨b,0,none⟩))
section
variable {w w':World} {b mb mg:Nat} {G K:List Nat} {y:Ty} {s:Su} {t:Nat} {N n:Int} {ws:List Int} {o:Bool}
theorem TxAt.blw (h:TxAt w b G K y):Blw w G:=by
 rcases y with⟨_,x⟩ | ⟨_,x⟩
 ·obtain⟨z,q,F,r,h1,_,rfl,_⟩:=h;exact h1.blw
 ·obtain⟨z,v,h1,_,rfl,_⟩:=h;exact h1.blw
theorem TxAt.blwK (h:TxAt w b G K y):Blw w K:=by
 rcases y with⟨_,x⟩ | ⟨_,x⟩
 ·obtain⟨z,q,F,r,h1,_,_,rfl⟩:=h;exact h1.blwK
 ·obtain⟨z,v,h1,_,_,rfl⟩:=h;exact h1.blwK
theorem TxAt.sep (h:TxAt w b G K y):Sep K G:=by
 rcases y with⟨_,x⟩ | ⟨_,x⟩
 ·obtain⟨z,q,F,r,h1,_,rfl,rfl⟩:=h;exact h1.sep
 ·obtain⟨z,v,h1,_,rfl,rfl⟩:=h;exact h1.sep
theorem TxAt.keep (h:TxAt w b G K y) (k:Kept G w w') (k2:Kept K w w'):TxAt w' b G K y:=by
 rcases y with⟨_,x⟩ | ⟨_,x⟩
 ·obtain⟨z,q,F,r,h1,h2,rfl,rfl⟩:=h;exact⟨z,q,F,r,h1.keep k k2,h2,rfl,rfl⟩
 ·obtain⟨z,v,h1,h2,rfl,rfl⟩:=h;exact⟨z,v,h1.keep k k2,h2,rfl,rfl⟩
theorem TxAt.on (h:TxAt w b G K y) (k:Bl w w'):TxAt w' b G K y:=h.keep (a27 k h.blw) (a27 k h.blwK)
def Went (w w':World) (b mb mg:Nat) (G K:List Nat) (y:Ty) (ws:List Int) (n:Int):Prop :=
 ∃ G' o',TxAt w' b G' K (goS y ws)/\MemAt 106 w' mb mg (goW y ws) o' (if goA y ws then up n else n)/\Sep [mb,mg] G'/\Turn (mb::mg::G) (mb::mg::G') w w'
theorem bB2 (h:TxAt w b G K y) (hm:MemAt 106 w mb mg ws o n) (s1:Sep [mb,mg] G) (s2:Sep [mb,mg] K) (hT:a87 w (mb::mg::G)) (hI:TIn s t N y) (ho:a51 y=false) (hw:okW ws) (hl:(ws.length:Int)=3+s.b+3*s.a) (hN:N<9223372036854775807) :
  Calls Tryz.prog (bG7 y) #[.pointer (some ⟨b,0,none⟩),.pointer (some ⟨mb,0,none⟩)] w fun e w'=>e=.returned (.tuple #[.bool (a51 (goS y ws)),.int .i64 0])/\Went w w' b mb mg G K y ws n:=by
 rcases y with⟨m,x⟩ | ⟨m,x⟩
 ·obtain⟨z,q,F,r,h1,h2,rfl,rfl⟩:=h
  obtain⟨i1,i2,i3,i4⟩:=hI;have hF:Rr.Full w (mb::mg::Rr.gX b z q F) b z mb mg w x ws o n:=⟨q,r,⟨F,h1,hm,s1,s2,Turn.refl _ _⟩,h2⟩;refine(Rr.step_any hF hT i1 (zM ho) (by unfold Rr.plW;omega) hw (y:=(a19 x ws).1) (ws':=(a19 x ws).2.1) (ac:=(a19 x ws).2.2) rfl).mono ?_;rintro e w' ⟨rfl,q',r',⟨F',g1,g2,g3,g4,g5⟩,k2⟩;refine⟨?_,_,_,⟨z,q',F',r',g1,k2,rfl,rfl⟩,g2,g3,g5⟩
  show Ending.returned (.tuple #[.bool (decide (((a19 x ws).1.part:Int)=4)),.int .i64 0])=.returned (.tuple #[.bool (decide ((a19 x ws).1.part=4)),.int .i64 0])
  rw[show decide (((a19 x ws).1.part:Int)=4)=decide ((a19 x ws).1.part=4) from decide_eq_decide.2 ⟨fun q=>by omega,fun q=>by omega⟩]
 ·obtain⟨z,v,h1,h2,rfl,rfl⟩:=h
  obtain⟨i1,i2,i3,i4,i5,i6⟩:=hI;have hF:Full w (mb::mg::gY b v) b z mb mg w x ws o n:=⟨v,⟨h1,hm,s1,s2,Turn.refl _ _⟩,h2⟩;refine(Ww.step_any hF hT i1 (zM ho) (by unfold plY;omega) i5 (by omega) (y:=(a09 x ws).1) (ws':=(a09 x ws).2.1) (ac:=(a09 x ws).2.2) rfl).mono ?_;rintro e w' ⟨rfl,v',⟨g1,g2,g3,g4,g5⟩,k2⟩;refine⟨?_,_,_,⟨z,v',g1,k2,rfl,rfl⟩,g2,g3,g5⟩
  show Ending.returned (.tuple #[.bool (decide (((a09 x ws).1.part:Int)=9)),.int .i64 0])=.returned (.tuple #[.bool (decide ((a09 x ws).1.part=9)),.int .i64 0])
  rw[show decide (((a09 x ws).1.part:Int)=9)=decide ((a09 x ws).1.part=9) from decide_eq_decide.2 ⟨fun q=>by omega,fun q=>by omega⟩]
def tagT:Ty->Int
 | .inl (_,x)=>x.tag
 | .inr (_,x)=>x.tag
def af8:Ty->List Nat
 | .inl (_,x)=>x.args
 | .inr (_,x)=>x.args
def macT:Ty->Mac
 | .inl (_,x)=>x.m
 | .inr (_,x)=>x.m
def bh1:Ty->Int
 | .inl (_,x)=>Rr.markV x
 | .inr (_,x)=>b61 x
def numT:Ty->Int
 | .inl _=>0
 | .inr (_,x)=>x.num
def endT (y:Ty) (v:Int):Int:=if a51 y then v else 0
def bG9:Ty->Int
 | .inl (_,x)=>x.steps
 | .inr (_,x)=>x.steps
def dCel (th no pr tag:Int) (na:Nat) (mark num:Int) (m:Mac) (D:Rr.Dd) (e0 e1 e2 bg en st ah fr to_:Int):Array Value :=
 #[.int .i64 th,.int .i64 no,.int .i64 pr,.int .i64 tag,.slice D.pa na D.ca,.int .i64 mark,.int .i64 num,.slice D.pr m.reads.length D.cr,.slice D.pw m.buf.length D.cw,.slice D.po m.out.length D.co,.int .i64 e0,.int .i64 e1,.int .i64 e2,.int .i64 bg,.int .i64 en,.int .i64 st,.int .i64 ah,.int .i64 fr,.int .i64 to_]
def dTx (y:Ty) (D:Rr.Dd) (th no pr bg en ah fr to_:Int):Array Value :=
 dCel th no pr (tagT y) (af8 y).length (bh1 y) (numT y) (macT y) D (endT y (macT y).how) (endT y (macT y).cod) (endT y (macT y).err) bg en (bG9 y) ah fr to_
theorem aP0 (h:TxAt w b G K y) (hI:TIn s t N y):Calls Tryz.prog (bJ4 y) #[.pointer (some ⟨b,0,none⟩)] w fun e w'=>∃ D,e=.returned (.agg (dTx y D 0 0 0 0 0 0 0 0))/\Rr.DdAt w' w.heap.size D (af8 y) (macT y)/\Bl w w':=by
 rcases y with⟨m,x⟩ | ⟨m,x⟩
 ·obtain⟨z,q,F,r,h1,h2,rfl,rfl⟩:=h
  have e:∀ v,Rr.endI x v=endT (.inl (m,x)) v:=fun v=>by
   unfold Rr.endI endT a51
   by_cases q:x.part=4
   ·simp[q]
   ·simp[q]
  exact Rr.Deed_any h1 hI.1.toIn0 rfl rfl rfl (e _) (e _) (e _)
 ·obtain⟨z,v,h1,h2,rfl,rfl⟩:=h
  have e:∀ v,endJ x v=endT (.inr (m,x)) v:=fun v=>by
   unfold endJ endT a51
   by_cases q:x.part=9
   ·simp[q]
   ·simp[q]
  refine(Ww.Deed_any h1 h2 hI.1 rfl rfl rfl rfl (e _) (e _) (e _)).mono ?_;rintro r w' ⟨D,rfl,k1,k2⟩;exact⟨⟨D.pa,D.ca,D.pr,D.cr,D.pw,D.cw,D.po,D.co⟩,rfl,⟨k1.a,k1.r,k1.wr,k1.o,k1.xa,k1.xr,k1.xw,k1.xo⟩,k2⟩
end
end Go.Proofs.YtipakfjpfjehmaaGreatDoor.En
namespace Go.Proofs.YtipakfjpfjehmaaGreatDoor.Sd
open Go.ChangeShapes Go.WideShapes Go.ChangeAt Go.RowKit
structure Rd where
 n:Nat
 g:Nat->Bool
 s:Nat->Bool
 o:Nat
def putF (f:Nat->Bool) (t:Nat) (x:Bool):Nat->Bool:=fun k=>if k=t then x else f k
def noneF:Nat->Bool:=fun _=>false
def eq8 (f h:Nat->Bool):Bool:=f 0 == h 0 && f 1 == h 1 && f 2 == h 2 && f 3 == h 3 && f 4 == h 4 && f 5 == h 5 && f 6 == h 6 && f 7 == h 7
theorem eq8_iff (f h:Nat->Bool):eq8 f h=true ↔ ∀ k,k<8->f k=h k:=by
 simp only[eq8,Bool.and_eq_true,beq_iff_eq]
 constructor
 ·rintro⟨⟨⟨⟨⟨⟨⟨h0,h1⟩,h2⟩,h3⟩,h4⟩,h5⟩,h6⟩,h7⟩ k hk
  match k,hk with
  | 0,_=>exact h0
  | 1,_=>exact h1
  | 2,_=>exact h2
  | 3,_=>exact h3
  | 4,_=>exact h4
  | 5,_=>exact h5
  | 6,_=>exact h6
  | 7,_=>exact h7
  | k+8,h=>omega
 ·intro q
  exact⟨⟨⟨⟨⟨⟨⟨q 0 (by omega),q 1 (by omega)⟩,q 2 (by omega)⟩,q 3 (by omega)⟩,q 4 (by omega)⟩,q 5 (by omega)⟩,q 6 (by omega)⟩,q 7 (by omega)⟩
def overB (m:Rd):Bool:=!eq8 m.g noneF && eq8 m.s m.g
def settleM (m:Rd):Rd:=if overB m then { m with s:=noneF,o:=m.o+1 } else m
def hasT (m:Rd) (t:Int):Bool:=decide (0<=t/\t<(m.n:Int))
def stepN (m:Rd) (t:Nat):Rd:=if m.g t then settleM { m with s:=putF m.s t true } else m
def finN (m:Rd) (t:Nat):Rd:=if m.g t then settleM { m with g:=putF m.g t false,s:=putF m.s t false } else m
def boxV (m:Rd):Array Value:=#[.int .i64 m.n,.bool (m.g 0),.bool (m.g 1),.bool (m.g 2),.bool (m.g 3),.bool (m.g 4),.bool (m.g 5),.bool (m.g 6),.bool (m.g 7),.bool (m.s 0),.bool (m.s 1),.bool (m.s 2),.bool (m.s 3),.bool (m.s 4),.bool (m.s 5),.bool (m.s 6),.bool (m.s 7),.int .i64 m.o]
structure RdAt (w:World) (b:Nat) (m:Rd):Prop where
 box:w.heap[b]?=some (.cells (boxV m) 118 (0,0))
section
variable {w w':World} {b:Nat} {m:Rd}
theorem RdAt.lt (h:RdAt w b m):b<w.heap.size:=lt_of_block h.box
theorem RdAt.free (h:RdAt w b m) (j:Nat):w.frozen? ⟨b,j,none⟩=false:=zZ w b j _ _ h.box
theorem RdAt.cellN (h:RdAt w b m):w.cell? ⟨b,0,none⟩=some (.int .i64 m.n):=by rw[zR w b 0 _ _ _ h.box];rfl
theorem RdAt.cellO (h:RdAt w b m):w.cell? ⟨b,17,none⟩=some (.int .i64 m.o):=by rw[zR w b 17 _ _ _ h.box];rfl
theorem RdAt.cellG (h:RdAt w b m) (k:Nat) (hk:k<8):w.cell? ⟨b,1+k,none⟩=some (.bool (m.g k)):=by
 rw[zR w b (1+k) _ _ _ h.box]
 match k,hk with
 | 0,_=>rfl
 | 1,_=>rfl
 | 2,_=>rfl
 | 3,_=>rfl
 | 4,_=>rfl
 | 5,_=>rfl
 | 6,_=>rfl
 | 7,_=>rfl
 | k+8,h=>omega
theorem RdAt.cellS (h:RdAt w b m) (k:Nat) (hk:k<8):w.cell? ⟨b,9+k,none⟩=some (.bool (m.s k)):=by
 rw[zR w b (9+k) _ _ _ h.box]
 match k,hk with
 | 0,_=>rfl
 | 1,_=>rfl
 | 2,_=>rfl
 | 3,_=>rfl
 | 4,_=>rfl
 | 5,_=>rfl
 | 6,_=>rfl
 | 7,_=>rfl
 | k+8,h=>omega
theorem RdAt.keep (h:RdAt w b m) (k:Kept [b] w w'):RdAt w' b m:=⟨(k.2 b (List.mem_cons_self ..)).trans h.box⟩
theorem RdAt.same (h:RdAt w b m) (k:Same w w'):RdAt w' b m:=h.keep (k.kept _)
theorem RdAt.on (h:RdAt w b m) (k:Bl w w'):RdAt w' b m:=⟨(k.block b h.lt).trans h.box⟩
theorem a26 (w:World) (b j:Nat) (v:Value):Turn [b] [b] w (w.setCell ⟨b,j,none⟩ v) :=
 ⟨rfl,rfl,rfl,by simp,fun k _ hn=>zO _ _ _ _ (by simpa using hn),fun _ h=>.inl h⟩
theorem RdAt.setG (h:RdAt w b m) (k:Nat) (hk:k<8) (x:Bool):RdAt (w.setCell ⟨b,1+k,none⟩ (.bool x)) b { m with g:=putF m.g k x }:=by
 refine⟨(zS w b (1+k) _ _ _ h.box).trans ?_⟩
 congr 2
 match k,hk with
 | 0,_=>rfl
 | 1,_=>rfl
 | 2,_=>rfl
 | 3,_=>rfl
 | 4,_=>rfl
 | 5,_=>rfl
 | 6,_=>rfl
 | 7,_=>rfl
 | k+8,h=>omega
theorem RdAt.setS (h:RdAt w b m) (k:Nat) (hk:k<8) (x:Bool):RdAt (w.setCell ⟨b,9+k,none⟩ (.bool x)) b { m with s:=putF m.s k x }:=by
 refine⟨(zS w b (9+k) _ _ _ h.box).trans ?_⟩
 congr 2
 match k,hk with
 | 0,_=>rfl
 | 1,_=>rfl
 | 2,_=>rfl
 | 3,_=>rfl
 | 4,_=>rfl
 | 5,_=>rfl
 | 6,_=>rfl
 | 7,_=>rfl
 | k+8,h=>omega
theorem RdAt.setO (h:RdAt w b m) (o:Nat):RdAt (w.setCell ⟨b,17,none⟩ (.int .i64 o)) b { m with o:=o } :=
 ⟨(zS w b 17 _ _ _ h.box).trans rfl⟩
end
def mayT (t:Int):Bool:=decide (1<=t/\t<=8)
theorem a91 (t:Int) (w:World):Calls Tryz.prog 57 #[.int .i64 t] w fun e w'=>e=.returned (.bool (mayT t))/\w'=w:=by
 unfold mayT
 by_cases h1:1<=t
 ·by_cases h2:t<=8
  ·have e:decide (1<=t/\t<=8)=true:=by simp[h1,h2]
   rw[e];clear e;go_enter Tryz.func57,Tryz.ntmps57
   go_wp2
   go_ret;exact⟨by simp,rfl⟩
  ·have e:decide (1<=t/\t<=8)=false:=by simp[h2]
   rw[e];clear e;go_enter Tryz.func57,Tryz.ntmps57
   go_wp2
   go_ret;exact⟨by simp,rfl⟩
 ·have e:decide (1<=t/\t<=8)=false:=by simp[h1]
  rw[e];clear e;go_enter Tryz.func57,Tryz.ntmps57
  go_wp2
  go_ret;exact⟨by simp,rfl⟩
section
variable {w:World} {b:Nat} {m:Rd}
theorem aa2 (h:RdAt w b m) (t:Int):Calls Tryz.prog 76 #[.pointer (some ⟨b,0,none⟩),.int .i64 t] w fun e w'=>e=.returned (.bool (hasT m t))/\w'=w:=by
 have h0:=h.cellN;have hb:=h.lt;unfold hasT;clear h
 generalize m.n=n at h0
 by_cases h1:0<=t
 ·have e:decide (0<=t/\t<(n:Int))=decide (t<(n:Int)):=by simp[h1]
  rw[e];clear e;go_enter Tryz.func76,Tryz.ntmps76
  go_wp2
  go_ret;exact⟨rfl,rfl⟩
 ·have e:decide (0<=t/\t<(n:Int))=false:=by simp[h1]
  rw[e];clear e;go_enter Tryz.func76,Tryz.ntmps76
  go_wp2
  go_ret;exact⟨rfl,rfl⟩
theorem over_any (h:RdAt w b m):Calls Tryz.prog 39 #[.pointer (some ⟨b,0,none⟩)] w fun e w'=>e=.returned (.int .i64 m.o)/\w'=w:=by
 have h0:=h.cellO;have hb:=h.lt;clear h;go_enter Tryz.func39,Tryz.ntmps39
 go_wp2
 go_ret;exact⟨rfl,rfl⟩
end
end Go.Proofs.YtipakfjpfjehmaaGreatDoor.Sd
