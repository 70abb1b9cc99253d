import Derived.Test.YtipakfjpfjehmaaGreatDoorJ4
import Derived.ChangeKeysEq
import Derived.Test.YtipakfjpfjehmaaGreatDoorJ2
import Derived.Handy
import Derived.Deep.CutBlock
import Derived.Deep.DeepCutAuto
import Derived.Test.YtipakfjpfjehmaaGreatDoorJ3
set_option maxRecDepth 100000
set_option maxHeartbeats 8000000
namespace Go.Proofs.YtipakfjpfjehmaaGreatDoor.Sd
open Go.ChangeShapes Go.WideShapes Go.ChangeAt Go.RowKit
def arr8 (f:Nat->Bool):Array Value:=#[.bool (f 0),.bool (f 1),.bool (f 2),.bool (f 3),.bool (f 4),.bool (f 5),.bool (f 6),.bool (f 7)]
theorem aG1 (f:Nat->Bool) (i:Nat) (hi:i<8) (w:World):(part 4 (arr8 f) (i*1)).run Tryz.prog w=.ok (.bool (f i)) w:=by
 have a3:=Tryz.isAgg4
 match i,hi with
 | 0,_=>simp[part,arr8,a3]
 | 1,_=>simp[part,arr8,a3]
 | 2,_=>simp[part,arr8,a3]
 | 3,_=>simp[part,arr8,a3]
 | 4,_=>simp[part,arr8,a3]
 | 5,_=>simp[part,arr8,a3]
 | 6,_=>simp[part,arr8,a3]
 | 7,_=>simp[part,arr8,a3]
 | k+8,h=>omega
theorem az9 (f h:Nat->Bool) (w:World):∀ l:List Nat,(∀ i∈l,i<8)->(Op.eqItems 9999 4 1 (arr8 f) (arr8 h) l).run Tryz.prog w=.ok (l.all fun i=>f i == h i) w
 | [],_=>by simp[Op.eqItems]
 | i::l,hl=>by
  have ih:=az9 f h w l (fun j hj=>hl j (List.mem_cons_of_mem _ hj));have h1:=hl i (List.mem_cons_self ..);simp only[Op.eqItems,Sem.run_bind,aG1 f i h1,aG1 h i h1,Result.andThen_ok,run_equalIn_bool w 9998 4 (f i) (h i) Tryz.underlying4]
  cases e:f i == h i
  ·simp[e]
  ·simp[e,ih]
theorem aR5 (f h:Nat->Bool) (w:World):(Op.equalIn 10000 116 (.agg #[.bool (f 0),.bool (f 1),.bool (f 2),.bool (f 3),.bool (f 4),.bool (f 5),.bool (f 6),.bool (f 7)]) (.agg #[.bool (h 0),.bool (h 1),.bool (h 2),.bool (h 3),.bool (h 4),.bool (h 5),.bool (h 6),.bool (h 7)])).run Tryz.prog w=.ok (eq8 f h) w:=by
 obtain⟨i,hi⟩:∃ i,Tryz.prog.info? 4=some i:=Option.isSome_iff_exists.1 (by kernel_rfl)
 have hc:Tryz.prog.cellsOf 4=1:=by kernel_rfl
 have q:=run_equalIn_array w 9999 (arr8 f) (arr8 h) Tryz.underlying116 hi;rw[hc,az9 f h w _ (fun i hi=>by simpa using hi)]at q;exact q.trans (by simp[eq8,List.range,List.range.loop,Bool.and_assoc])
theorem RdAt.cong {w:World} {b:Nat} {m m':Rd} (h:RdAt w b m) (e:boxV m=boxV m'):RdAt w b m':=⟨by rw[<- e];exact h.box⟩
theorem bt0 {w:World} {b:Nat} {m:Rd} (h:RdAt w b m):w.cell? ⟨b,1,none⟩=some (.bool (m.g 0))/\w.cell? ⟨b,2,none⟩=some (.bool (m.g 1))/\w.cell? ⟨b,3,none⟩=some (.bool (m.g 2))/\w.cell? ⟨b,4,none⟩=some (.bool (m.g 3))/\w.cell? ⟨b,5,none⟩=some (.bool (m.g 4))/\w.cell? ⟨b,6,none⟩=some (.bool (m.g 5))/\w.cell? ⟨b,7,none⟩=some (.bool (m.g 6))/\w.cell? ⟨b,8,none⟩=some (.bool (m.g 7))/\w.cell? ⟨b,9,none⟩=some (.bool (m.s 0))/\w.cell? ⟨b,10,none⟩=some (.bool (m.s 1))/\w.cell? ⟨b,11,none⟩=some (.bool (m.s 2))/\w.cell? ⟨b,12,none⟩=some (.bool (m.s 3))/\w.cell? ⟨b,13,none⟩=some (.bool (m.s 4))/\w.cell? ⟨b,14,none⟩=some (.bool (m.s 5))/\w.cell? ⟨b,15,none⟩=some (.bool (m.s 6))/\w.cell? ⟨b,16,none⟩=some (.bool (m.s 7))/\w.cell? ⟨b,17,none⟩=some (.int .i64 m.o)/\b<w.heap.size :=
 ⟨h.cellG 0 (by omega),h.cellG 1 (by omega),h.cellG 2 (by omega),h.cellG 3 (by omega),h.cellG 4 (by omega),h.cellG 5 (by omega),h.cellG 6 (by omega),h.cellG 7 (by omega),h.cellS 0 (by omega),h.cellS 1 (by omega),h.cellS 2 (by omega),h.cellS 3 (by omega),h.cellS 4 (by omega),h.cellS 5 (by omega),h.cellS 6 (by omega),h.cellS 7 (by omega),h.cellO,h.lt⟩
theorem RdAt.over {w:World} {b:Nat} {m:Rd} (h:RdAt w b m):RdAt (((((((((w.setCell ⟨b,17,none⟩ (.int .i64 ((m.o+1:Nat):Int))).setCell ⟨b,9,none⟩ (.bool false)).setCell ⟨b,10,none⟩ (.bool false)).setCell ⟨b,11,none⟩ (.bool false)).setCell ⟨b,12,none⟩ (.bool false)).setCell ⟨b,13,none⟩ (.bool false)).setCell ⟨b,14,none⟩ (.bool false)).setCell ⟨b,15,none⟩ (.bool false)).setCell ⟨b,16,none⟩ (.bool false)) b { m with s:=noneF,o:=m.o+1 }/\Turn [b] [b] w (((((((((w.setCell ⟨b,17,none⟩ (.int .i64 ((m.o+1:Nat):Int))).setCell ⟨b,9,none⟩ (.bool false)).setCell ⟨b,10,none⟩ (.bool false)).setCell ⟨b,11,none⟩ (.bool false)).setCell ⟨b,12,none⟩ (.bool false)).setCell ⟨b,13,none⟩ (.bool false)).setCell ⟨b,14,none⟩ (.bool false)).setCell ⟨b,15,none⟩ (.bool false)).setCell ⟨b,16,none⟩ (.bool false)):=by
 have a:=((((((((h.setO (m.o+1)).setS 0 (by omega) false).setS 1 (by omega) false).setS 2 (by omega) false).setS 3 (by omega) false).setS 4 (by omega) false).setS 5 (by omega) false).setS 6 (by omega) false).setS 7 (by omega) false;refine⟨a.cong ?_,?_⟩
 ·simp[boxV,putF,noneF]
 ·exact((((((((a26 w b 17 _).trans (a26 _ b 9 _)).trans (a26 _ b 10 _)).trans (a26 _ b 11 _)).trans (a26 _ b 12 _)).trans (a26 _ b 13 _)).trans (a26 _ b 14 _)).trans (a26 _ b 15 _)).trans (a26 _ b 16 _)
theorem aB0 {w:World} {b:Nat} {m:Rd} (h:RdAt w b m) (ho:m.o<9223372036854775807):Calls Tryz.prog 77 #[.pointer (some ⟨b,0,none⟩)] w fun e w'=>e=.returned (.tuple #[])/\RdAt w' b (settleM m)/\Turn [b] [b] w w':=by
 have HT:Hid (∀ k,Turn [b] [b] w ((w.alloc (.cells #[.bool false,.bool false,.bool false,.bool false,.bool false,.bool false,.bool false,.bool false] 116)).drewN k)/\RdAt ((w.alloc (.cells #[.bool false,.bool false,.bool false,.bool false,.bool false,.bool false,.bool false,.bool false] 116)).drewN k) b m):=fun k=>⟨⟨rfl,rfl,rfl,by simp,fun j hj _=>Below.heap_alloc _ _ _ hj,fun _ q=>.inl q⟩,⟨(Below.heap_alloc _ _ _ h.lt).trans h.box⟩⟩
 obtain⟨g0,g1,g2,g3,g4,g5,g6,g7,s0,s1,s2,s3,s4,s5,s6,s7,o0,hb⟩:=bt0 h;have f17:=h.free 17;have f9:=h.free 9;have f10:=h.free 10;have f11:=h.free 11;have f12:=h.free 12;have f13:=h.free 13;have f14:=h.free 14;have f15:=h.free 15;have f16:=h.free 16;have E1:∀ u,(Op.equalIn 10000 116 (.agg #[.bool (m.g 0),.bool (m.g 1),.bool (m.g 2),.bool (m.g 3),.bool (m.g 4),.bool (m.g 5),.bool (m.g 6),.bool (m.g 7)]) (.agg #[.bool false,.bool false,.bool false,.bool false,.bool false,.bool false,.bool false,.bool false])).run Tryz.prog u=.ok (eq8 m.g noneF) u:=fun u=>aR5 m.g noneF u
 have E2:∀ u,(Op.equalIn 10000 116 (.agg #[.bool (m.s 0),.bool (m.s 1),.bool (m.s 2),.bool (m.s 3),.bool (m.s 4),.bool (m.s 5),.bool (m.s 6),.bool (m.s 7)]) (.agg #[.bool (m.g 0),.bool (m.g 1),.bool (m.g 2),.bool (m.g 3),.bool (m.g 4),.bool (m.g 5),.bool (m.g 6),.bool (m.g 7)])).run Tryz.prog u=.ok (eq8 m.s m.g) u:=fun u=>aR5 m.s m.g u
 clear h
 cases h1:eq8 m.g noneF
 ·cases h2:eq8 m.s m.g
  ·have e:settleM m=m:=by simp[settleM,overB,h1,h2]
   rw[e];rw[h1]at E1;rw[h2]at E2;clear e h1 h2;go_enter Tryz.func77,Tryz.ntmps77
   go_wp2
   go_quiet (fail)
   go_wp2
   go_end0
   exact⟨rfl,(HT.out _).2,(HT.out _).1⟩
  ·have e:settleM m={ m with s:=noneF,o:=m.o+1 }:=by simp[settleM,overB,h1,h2]
   rw[e];rw[h1]at E1;rw[h2]at E2;clear e h1 h2;go_enter Tryz.func77,Tryz.ntmps77
   go_wp2
   go_quiet (fail)
   go_wp2
   go_end0
   exact⟨rfl,(HT.out _).2.over.1,(HT.out _).1.trans (HT.out _).2.over.2⟩
 ·have e:settleM m=m:=by simp[settleM,overB,h1]
  rw[e];rw[h1]at E1;clear e h1 E2;go_enter Tryz.func77,Tryz.ntmps77
  go_wp2
  go_quiet (fail)
  go_wp2
  go_end0
  exact⟨rfl,(HT.out _).2,(HT.out _).1⟩
def newR (n:Nat):Rd:={ n:=n,g:=fun k=>decide (k<n),s:=noneF,o:=0 }
def newI (n i:Nat):Rd:={ n:=n,g:=fun k=>decide (k<i),s:=noneF,o:=0 }
theorem bi4 (n i:Nat):{ newI n i with g:=putF (newI n i).g i true }=newI n (i+1):=by
 show Rd.mk n (putF (fun k=>decide (k<i)) i true) noneF 0=Rd.mk n (fun k=>decide (k<i+1)) noneF 0
 congr 1
 funext k
 show (if k=i then true else decide (k<i))=decide (k<i+1)
 by_cases h:k=i
 ·simp[h]
 ·have e:(k<i+1)=(k<i):=by simp;omega
  simp[h,e]
theorem new_yes (n:Nat) (h1:1<=n) (h8:n<=8) (w:World):Calls Tryz.prog 30 #[.int .i64 (n:Int)] w fun e w'=>e=.returned (.tuple #[.pointer (some ⟨w.heap.size,0,none⟩),.int .i64 0])/\RdAt w' w.heap.size (newR n)/\Bl w w':=by
 have e:mayT (n:Int)=true:=zT ⟨by omega,by omega⟩;have H1:=zH (a91 (n:Int));rw[e]at H1;clear e;have HB:Hid (∀ o,Bl w (w.alloc o)):=fun o=>(zF w.heap.size w).alloc (zE _) o
 have HA:=zH (show RdAt (w.alloc (.cells #[.int .i64 (n:Int),.bool false,.bool false,.bool false,.bool false,.bool false,.bool false,.bool false,.bool false,.bool false,.bool false,.bool false,.bool false,.bool false,.bool false,.bool false,.bool false,.int .i64 0] 118)) w.heap.size (newI n 0) from⟨zN _ _⟩);go_enter Tryz.func30,Tryz.ntmps30
 go_wp2_with (go_at_call 57;refine(H1.out _).mono ?_;rintro e w1 ⟨rfl,hw⟩;subst w1)
 go_loopw [13] (fun vi wr=>∃ i:Nat,vi=.int .i64 i/\i<=n/\Hid (RdAt wr w.heap.size (newI n i)/\Bl w wr)) (fun vi _=>n - (intOf vi).toNat)
 case atStart=>exact⟨0,rfl,zV _,HA.out,HB.out _⟩
 case round =>
  obtain⟨i,rfl,hi,HQ⟩:=hrel
  by_cases hlt:i<n
  ·have hlt':(i:Int)<(n:Int):=by omega
   have k8:(i:Int)<8:=by omega
   have hc:=HQ.out.1.cellG i (by omega);have hb:=HQ.out.1.lt;have hf:=HQ.out.1.free (1+i);have HN:Hid (RdAt (wr.setCell ⟨w.heap.size,1+i,none⟩ (.bool true)) w.heap.size (newI n (i+1))/\Bl w (wr.setCell ⟨w.heap.size,1+i,none⟩ (.bool true))):=by
    have q:=HQ.out.1.setG i (by omega) true;rw[bi4]at q;exact⟨q,HQ.out.2.trans ((a26 _ _ _ _).below (fun k hk=>by simp at hk;omega) HQ.out.2.size)⟩
   clear HQ HA HB
   go_wp2
   exact⟨⟨i+1,by first | rfl | (congr 1),by omega,HN⟩,by simp[intOf];omega⟩
  ·have hlt':¬ (i:Int)<(n:Int):=by omega
   obtain rfl:i=n:=by omega
   go_wp2
   go_ret2;exact⟨rfl,HQ.out.1,HQ.out.2⟩
end Go.Proofs.YtipakfjpfjehmaaGreatDoor.Sd
namespace Go.Proofs.YtipakfjpfjehmaaGreatDoor.En
open Go.ChangeShapes Go.WideShapes Go.ChangeAt Go.RowKit Num Ww
open Rr (Rx a19 InX okW u64B Alike step_in newX a43)
structure Ex where
 b:Nat
 mb:Nat
 mg:Nat
 rb:Nat
 gc:Nat
 pp:Nat
structure Ev where
 pt:Option Addr
 ct:Nat
 tb:Nat->Nat
 G:Nat->List Nat
 R:List Nat
structure Ed where
 N:Int
 ws:List Int
 cnt:Int
 rd:Sd.Rd
 cr:Nat->Array Value
 dn:Nat
 tr:Nat->Array Value
 T:Nat->Option Ty
 L:Nat->Option (Rr.Dd × List Nat × Mac)
def eBox (s:Su) (f:Ex) (v:Ev) (d:Ed):Array Value:=#[.int .i64 s.a,.int .i64 s.b,.int .i64 s.c,.int .i64 s.e,.slice (some ⟨f.pp,0,none⟩) s.pg.length s.pg.length,.int .i64 0,.int .i64 1,.int .i64 2,.int .i64 3,.int .i64 (3+s.b),.int .i64 (3+s.b+3*s.a),.pointer (some ⟨f.mb,0,none⟩),.pointer (some ⟨f.rb,0,none⟩),.slice (some ⟨f.gc,0,none⟩) s.n s.n,.slice v.pt d.dn v.ct,.int .i64 d.N]
def own (f:Ex) (v:Ev):Nat->List Nat
 | 0=>[f.b]
 | 1=>[f.mb,f.mg]
 | 2=>[f.rb]
 | 3=>[f.gc]
 | 4=>fpR v.pt
 | 5=>v.R
 | t+6=>v.G t
def fF (f:Ex) (v:Ev):List Nat:=f.b::f.mb::f.mg::f.rb::f.gc::(fpR v.pt ++ (List.range 8).flatMap v.G)
def PgIn (w:World) (R:List Nat) (g i:Nat) (x:Int × List Ins):Prop:=g∈R/\w.cell? ⟨g,i*2,none⟩=some (.int .i64 x.1)/\∃ ao c,w.cell? ⟨g,i*2+1,none⟩=some (.slice ao x.2.length c)/\a39 w ao x.2/\(∀ k∈fpR ao,k∈R)/\x.2.length<=9223372036854775807
def ClIn (w:World) (R:List Nat) (qa:Option Addr) (j:Nat) (x:Int × List Nat):Prop:=∃ g,qa=some ⟨g,0,none⟩/\g∈R/\w.cell? ⟨g,j*2,none⟩=some (.int .i64 x.1)/\∃ po c,w.cell? ⟨g,j*2+1,none⟩=some (.slice po x.2.length c)/\FlAt w po x.2/\∀ k∈fpR po,k∈R
def DlIn (w:World) (R:List Nat) (D:Rr.Dd) (args:List Nat) (m:Mac):Prop:=Rr.DdAt w 0 D args m/\∀ k,k∈fpR D.pa∨k∈fpR D.pr∨k∈fpR D.pw∨k∈fpR D.po->k∈R
structure Fx (w:World) (R:List Nat) (f:Ex) (s:Su) (cr:Nat->Array Value):Prop where
 tab:Shaped5 w
 tin:1∈R
 prg:∀ i,i<s.pg.length->PgIn w R f.pp i (s.pg.getD i (0,[]))
 cls:∀ t,t<s.n->∃ qa qc,(cr t)[0]?=some (.slice qa (s.cs t).length qc)/\∀ j,j<(s.cs t).length->ClIn w R qa j (s.call t j)
structure EnAt (w:World) (f:Ex) (v:Ev) (s:Su) (d:Ed):Prop where
 box:w.heap[f.b]?=some (.cells (eBox s f v d) 78 (0,0))
 mem:∃ o,MemAt 106 w f.mb f.mg d.ws o d.cnt
 rds:Sd.RdAt w f.rb d.rd
 crs:Arr w f.gc 80 3 s.n s.n d.cr
 trn:w.ownsRow 0 94 20 (.slice v.pt d.dn v.ct) d.dn (ag3 d.tr d.dn)
 tsz:∀ i,i<d.dn->(d.tr i).size=20
 fx:Fx w v.R f s d.cr
 tx:∀ t y,d.T t=some y->t<8/\∃ K,TxAt w (v.tb t) (v.G t) K y/\∀ k∈K,k∈v.R
 no:∀ t,d.T t=none->v.G t=[]
 dl:∀ i D a m,d.L i=some (D,a,m)->DlIn w v.R D a m
 blR:Blw w v.R
 apart:∀ i j,i≠j->Sep (own f v i) (own f v j)
theorem aa9 {w w':World} {g j:Nat} {R:List Nat} (k:Kept R w w') (hg:g∈R):w'.cell? ⟨g,j,none⟩=w.cell? ⟨g,j,none⟩:=by
 unfold World.cell?;dsimp only;rw[k.2 g hg]
theorem au9 {w w':World} {ao:Option Addr} {c:List Ins} (h:a39 w ao c) (k:Kept (fpR ao) w w'):a39 w' ao c:=fun i hi=>by
 obtain⟨b,off,e,hlt,c0,c1,c2⟩:=h i hi;have hb:b∈fpR ao:=aN1.2 ⟨_,e,rfl⟩;exact⟨b,off,e,zL hlt k.1,(aa9 k hb).trans c0,(aa9 k hb).trans c1,(aa9 k hb).trans c2⟩
theorem bu6 {w w':World} {po:Option Addr} {l:List Nat} (h:FlAt w po l) (k:Kept (fpR po) w w'):FlAt w' po l:=fun i hi=>by
 obtain⟨b,off,e,hlt,c0⟩:=h i hi;have hb:b∈fpR po:=aN1.2 ⟨_,e,rfl⟩;exact⟨b,off,e,zL hlt k.1,(aa9 k hb).trans c0⟩
theorem ag6 {R L:List Nat} {w w':World} (k:Kept R w w') (h:∀ i∈L,i∈R):Kept L w w':=⟨k.1,fun i hi=>k.2 i (h i hi)⟩
theorem aJ0 {w w':World} {T:TypeId} {sz n c:Nat} {p:Option Addr} {xs:List Value} (h:w.ownsRow 0 T sz (.slice p n c) n xs) (k:Kept (fpR p) w w'):w'.ownsRow 0 T sz (.slice p n c) n xs:=by
 refine⟨h.1,?_⟩
 rcases h.2 with q | ⟨g,cap,cur,hv,hb,hg,rest⟩
 ·exact .inl q
 ·refine .inr ⟨g,cap,cur,hv,hb,?_,rest⟩
  rw[k.2 g (a42 (n:=n) (c:=c).2 (by rw[hv];rfl))];exact hg
theorem aS1 {w:World} {T:TypeId} {sz n c:Nat} {p:Option Addr} {xs:List Value} (h:w.ownsRow 0 T sz (.slice p n c) n xs):Blw w (fpR p):=fun k hk=>(h.lt k (a42.1 hk)).2
section
variable {w w':World} {R R':List Nat} {f:Ex} {v:Ev} {s:Su} {d:Ed} {cr cr':Nat->Array Value}
theorem PgIn.keep {g i:Nat} {x:Int × List Ins} (h:PgIn w R g i x) (k:Kept R w w') (hR:∀ i∈R,i∈R'):PgIn w' R' g i x:=by
 obtain⟨h1,h2,ao,c,h3,h4,h5,h6⟩:=h;exact⟨hR _ h1,(aa9 k h1).trans h2,ao,c,(aa9 k h1).trans h3,au9 h4 (ag6 k h5),fun i hi=>hR _ (h5 i hi),h6⟩
theorem ClIn.keep {qa:Option Addr} {j:Nat} {x:Int × List Nat} (h:ClIn w R qa j x) (k:Kept R w w') (hR:∀ i∈R,i∈R'):ClIn w' R' qa j x:=by
 obtain⟨g,h0,h1,h2,po,c,h3,h4,h5⟩:=h;exact⟨g,h0,hR _ h1,(aa9 k h1).trans h2,po,c,(aa9 k h1).trans h3,bu6 h4 (ag6 k h5),fun i hi=>hR _ (h5 i hi)⟩
theorem DlIn.keep {D:Rr.Dd} {a:List Nat} {m:Mac} (h:DlIn w R D a m) (k:Kept R w w') (hR:∀ i∈R,i∈R'):DlIn w' R' D a m :=
 ⟨⟨h.1.a.keep (ag6 k fun i hi=>h.2 i (.inl hi)),h.1.r.keep (ag6 k fun i hi=>h.2 i (.inr (.inl hi))),h.1.wr.keep (ag6 k fun i hi=>h.2 i (.inr (.inr (.inl hi)))),h.1.o.keep (ag6 k fun i hi=>h.2 i (.inr (.inr (.inr hi)))),h.1.xa,h.1.xr,h.1.xw,h.1.xo⟩,fun i hi=>hR _ (h.2 i hi)⟩
theorem ay0 (h:Shaped5 w) (k:Kept R w w') (hR:1∈R):Shaped5 w':=by
 have hb:=k.2 _ hR;refine⟨fun k hk=>?_⟩;obtain⟨c0,c1,c2,c3,c4,c5⟩:=h.shp k hk;exact⟨(World.cell?_of_block hb).trans c0,(World.cell?_of_block hb).trans c1,(World.cell?_of_block hb).trans c2,(World.cell?_of_block hb).trans c3,(World.cell?_of_block hb).trans c4,(World.cell?_of_block hb).trans c5⟩
theorem Fx.keep (h:Fx w R f s cr) (k:Kept R w w') (hR:∀ i∈R,i∈R') (hc:∀ t,t<s.n->(cr' t)[0]?=(cr t)[0]?):Fx w' R' f s cr' :=
 ⟨ay0 h.tab k h.tin,hR _ h.tin,fun i hi=>(h.prg i hi).keep k hR,fun t ht=>by
  obtain⟨qa,qc,e,q⟩:=h.cls t ht;exact⟨qa,qc,(hc t ht).trans e,fun j hj=>(q j hj).keep k hR⟩⟩
theorem EnAt.blws (h:EnAt w f v s d):∀ i,Blw w (own f v i)
 | 0=>fun k hk=>by rw[show k=f.b by simpa[own]using hk];exact lt_of_block h.box
 | 1=>fun k hk=>by
  obtain⟨o,hm⟩:=h.mem;simp only[own,List.mem_cons,List.not_mem_nil,or_false]at hk
  rcases hk with rfl | rfl
  ·exact hm.ltB
  ·exact hm.ltG
 | 2=>fun k hk=>by rw[show k=f.rb by simpa[own]using hk];exact h.rds.lt
 | 3=>fun k hk=>by rw[show k=f.gc by simpa[own]using hk];exact h.crs.lt
 | 4=>aS1 h.trn
 | 5=>h.blR
 | t+6=>by
  show Blw w (v.G t)
  cases e:d.T t with
  | none=>rw[h.no t e];intro k hk;cases hk
  | some y=>obtain⟨_,K,q,_⟩:=h.tx t y e;exact q.blw
theorem aH9 {v:Ev} {k:Nat}:k∈fF f v ↔ ∃ j,j≠5/\j<14/\k∈own f v j:=by
 simp only[fF,List.mem_cons,List.mem_append,List.mem_flatMap,List.mem_range]
 constructor
 ·rintro(rfl | rfl | rfl | rfl | rfl | q | ⟨t,ht,q⟩)
  ·exact⟨0,by omega,by omega,by simp[own]⟩
  ·exact⟨1,by omega,by omega,by simp[own]⟩
  ·exact⟨1,by omega,by omega,by simp[own]⟩
  ·exact⟨2,by omega,by omega,by simp[own]⟩
  ·exact⟨3,by omega,by omega,by simp[own]⟩
  ·exact⟨4,by omega,by omega,q⟩
  ·exact⟨t+6,by omega,by omega,q⟩
 ·rintro⟨j,h1,h2,q⟩
  match j,h1,h2,q with
  | 0,_,_,q=>simp[own]at q;simp[q]
  | 1,_,_,q=>simp[own]at q;rcases q with q | q <;> simp[q]
  | 2,_,_,q=>simp[own]at q;simp[q]
  | 3,_,_,q=>simp[own]at q;simp[q]
  | 4,_,_,q=>exact .inr (.inr (.inr (.inr (.inr (.inl q)))))
  | t+6,_,h2,q=>exact .inr (.inr (.inr (.inr (.inr (.inr ⟨t,by omega,q⟩)))))
theorem EnAt.inF (h:EnAt w f v s d) {j k:Nat} (hj:j≠5) (hk:k∈own f v j):k∈fF f v:=by
 refine aH9.2 ⟨j,hj,?_,hk⟩
 match j,hk with
 | t+6,hk =>
  have hk:k∈v.G t:=hk
  cases e:d.T t with
  | none=>rw[h.no t e]at hk;cases hk
  | some y=>have:=(h.tx t y e).1;omega
 | 0,_=>omega
 | 1,_=>omega
 | 2,_=>omega
 | 3,_=>omega
 | 4,_=>omega
 | 5,_=>omega
structure Ext (f:Ex) (v v':Ev) (w w':World):Prop where
 turn:Turn (fF f v) (fF f v') w w'
 ro:∀ k,k∈v'.R->k∈v.R∨w.heap.size<=k
theorem Ext.trans {v' v'':Ev} {w'':World} (h:Ext f v v' w w') (k:Ext f v' v'' w' w''):Ext f v v'' w w'':=⟨h.turn.trans k.turn,fun i hi=>(k.ro i hi).elim (h.ro i) (fun q=>.inr (zQ h.turn.size q))⟩
theorem Ext.of_below (k:Bl w w'):Ext f v v w w':=⟨Below.turn k _,fun _ h=>.inl h⟩
theorem av1 {v':Ev} {L L':List Nat} (t:Turn L L' w w') (hL:∀ k∈L,k∈fF f v) (hV:∀ k∈fF f v',k∈fF f v∨k∈L'∨w.heap.size<=k) (hR:∀ k,k∈v'.R->k∈v.R∨w.heap.size<=k):Ext f v v' w w' :=
 ⟨⟨t.os,t.tape,t.output,t.size,fun k hk hn=>t.block k hk (fun q=>hn (hL k q)),fun k hk=>by
  rcases hV k hk with q | q | q
  ·exact .inl q
  ·exact(t.own k q).imp (hL k) id
  ·exact .inr q⟩,hR⟩
theorem EnAt.ap_gen (h:EnAt w f v s d) {v':Ev} {i:Nat} (c:∀ j k,k∈own f v' j->k∈own f v j∨(j=i/\∀ j',k∉own f v j')):∀ a b,a≠b->Sep (own f v' a) (own f v' b):=fun a b hab k ha hb=>by
 rcases c a k ha with p | ⟨p,p'⟩
 ·rcases c b k hb with q | ⟨q,q'⟩
  ·exact h.apart a b hab k p q
  ·exact q' a p
 ·rcases c b k hb with q | ⟨q,q'⟩
  ·exact p' b q
  ·omega
theorem EnAt.new (h:EnAt w f v s d) {k:Nat} (hk:w.heap.size<=k):∀ j,k∉own f v j:=fun j q=>absurd (h.blws j k q) (Nat.not_lt.2 hk)
theorem EnAt.but (h:EnAt w f v s d) {i:Nat} {L:List Nat} (t:Turn (own f v i) L w w'):∀ j,j≠i->Kept (own f v j) w w':=fun j hj=>t.kept (h.apart j i hj) (h.blws j)
theorem EnAt.kBox (h:EnAt w f v s d) (k:Kept (own f v 0) w w'):w'.heap[f.b]?=some (.cells (eBox s f v d) 78 (0,0)):=(k.2 f.b (by simp[own])).trans h.box
theorem EnAt.kMem (h:EnAt w f v s d) (k:Kept (own f v 1) w w'):∃ o,MemAt 106 w' f.mb f.mg d.ws o d.cnt:=by
 obtain⟨o,hm⟩:=h.mem;exact⟨o,hm.keep (k.2 _ (by simp[own])) (k.2 _ (by simp[own]))⟩
theorem EnAt.kRds (h:EnAt w f v s d) (k:Kept (own f v 2) w w'):Sd.RdAt w' f.rb d.rd:=h.rds.keep k
theorem EnAt.kCrs (h:EnAt w f v s d) (k:Kept (own f v 3) w w'):Arr w' f.gc 80 3 s.n s.n d.cr:=h.crs.keep (k.2 _ (by simp[own]))
theorem EnAt.kTrn (h:EnAt w f v s d) (k:Kept (own f v 4) w w'):w'.ownsRow 0 94 20 (.slice v.pt d.dn v.ct) d.dn (ag3 d.tr d.dn):=aJ0 h.trn k
theorem EnAt.kFx (h:EnAt w f v s d) (k:Kept (own f v 5) w w'):Fx w' v.R f s d.cr:=h.fx.keep k (fun _ q=>q) (fun _ _=>rfl)
theorem EnAt.kTx (h:EnAt w f v s d) (k5:Kept (own f v 5) w w') {t:Nat} {y:Ty} (e:d.T t=some y) (k:Kept (own f v (t+6)) w w'):t<8/\∃ K,TxAt w' (v.tb t) (v.G t) K y/\∀ k∈K,k∈v.R:=by
 obtain⟨h1,K,h2,h3⟩:=h.tx t y e;exact⟨h1,K,h2.keep k (ag6 k5 h3),h3⟩
theorem EnAt.kDl (h:EnAt w f v s d) (k:Kept (own f v 5) w w'):∀ i D a m,d.L i=some (D,a,m)->DlIn w' v.R D a m:=fun i D a m e=>(h.dl i D a m e).keep k fun _ q=>q
theorem EnAt.kBl (h:EnAt w f v s d) (k:Kept (own f v 5) w w'):Blw w' v.R:=fun i hi=>zL (h.blR i hi) k.1
theorem EnAt.keep (h:EnAt w f v s d) (k:∀ i,Kept (own f v i) w w'):EnAt w' f v s d :=
 ⟨h.kBox (k 0),h.kMem (k 1),h.kRds (k 2),h.kCrs (k 3),h.kTrn (k 4),h.tsz,h.kFx (k 5),fun _ _ e=>h.kTx (k 5) e (k _),h.no,h.kDl (k 5),h.kBl (k 5),h.apart⟩
theorem EnAt.on (h:EnAt w f v s d) (k:Bl w w'):EnAt w' f v s d:=h.keep fun i=>a27 k (h.blws i)
theorem EnAt.same (h:EnAt w f v s d) (k:Same w w'):EnAt w' f v s d:=h.on (k.below _)
theorem EnAt.cell (h:EnAt w f v s d) (j:Nat):w.cell? ⟨f.b,j,none⟩=(eBox s f v d)[j]?:=zR w f.b j _ _ _ h.box
theorem EnAt.ltB (h:EnAt w f v s d):f.b<w.heap.size:=lt_of_block h.box
theorem EnAt.free (h:EnAt w f v s d) (j:Nat):w.frozen? ⟨f.b,j,none⟩=false:=zZ w f.b j _ _ h.box
theorem av2 (h:EnAt w f v s d) {i:Nat} (hi:i≠5) (t:Turn (own f v i) (own f v i) w w'):Ext f v v w w':=av1 t (fun _ q=>h.inF hi q) (fun _ q=>.inl q) fun _ q=>.inl q
theorem EnAt.setN (h:EnAt w f v s d) (N':Int):EnAt (w.setCell ⟨f.b,15,none⟩ (.int .i64 N')) f v s { d with N:=N' }/\Ext f v v w (w.setCell ⟨f.b,15,none⟩ (.int .i64 N')):=by
 have t:Turn (own f v 0) (own f v 0) w (w.setCell ⟨f.b,15,none⟩ (.int .i64 N')):=a26 w f.b 15 _;have k:=h.but t;exact⟨⟨zS w f.b 15 _ _ _ h.box,h.kMem (k 1 (by omega)),h.kRds (k 2 (by omega)),h.kCrs (k 3 (by omega)),h.kTrn (k 4 (by omega)),h.tsz,h.kFx (k 5 (by omega)),fun _ _ e=>h.kTx (k 5 (by omega)) e (k _ (by omega)),h.no,h.kDl (k 5 (by omega)),h.kBl (k 5 (by omega)),h.apart⟩,av2 h (by omega) t⟩
theorem EnAt.setC (h:EnAt w f v s d) {t j:Nat} (ht:t<s.n) (h1:1<=j) (h3:j<3) (x:Value):EnAt (w.setCell ⟨f.gc,t*3+j,none⟩ x) f v s { d with cr:=updA d.cr t ((d.cr t).setIfInBounds j x) }/\Ext f v v w (w.setCell ⟨f.gc,t*3+j,none⟩ x):=by
 have tt:Turn (own f v 3) (own f v 3) w (w.setCell ⟨f.gc,t*3+j,none⟩ x):=a26 w f.gc _ _;have k:=h.but tt;refine⟨⟨h.kBox (k 0 (by omega)),h.kMem (k 1 (by omega)),h.kRds (k 2 (by omega)),h.crs.put ht h3 x,h.kTrn (k 4 (by omega)),h.tsz,h.fx.keep (k 5 (by omega)) (fun _ q=>q) (fun u hu=>?_),fun _ _ e=>h.kTx (k 5 (by omega)) e (k _ (by omega)),h.no,h.kDl (k 5 (by omega)),h.kBl (k 5 (by omega)),h.apart⟩,av2 h (by omega) tt⟩;dsimp only
 by_cases e:u=t
 ·subst e
  rw[a25,Array.getElem?_setIfInBounds_ne (by omega)]
 ·rw[a35 _ _ e]
theorem EnAt.setR (h:EnAt w f v s d) {r:Sd.Rd} (t:Turn [f.rb] [f.rb] w w') (hr:Sd.RdAt w' f.rb r):EnAt w' f v s { d with rd:=r }/\Ext f v v w w':=by
 have t:Turn (own f v 2) (own f v 2) w w':=t;have k:=h.but t;exact⟨⟨h.kBox (k 0 (by omega)),h.kMem (k 1 (by omega)),hr,h.kCrs (k 3 (by omega)),h.kTrn (k 4 (by omega)),h.tsz,h.kFx (k 5 (by omega)),fun _ _ e=>h.kTx (k 5 (by omega)) e (k _ (by omega)),h.no,h.kDl (k 5 (by omega)),h.kBl (k 5 (by omega)),h.apart⟩,av2 h (by omega) t⟩
def updG (G:Nat->List Nat) (t:Nat) (L:List Nat):Nat->List Nat:=fun u=>if u=t then L else G u
theorem ab5 (G:Nat->List Nat) (t:Nat) (L:List Nat):updG G t L t=L:=if_pos rfl
theorem al9 (G:Nat->List Nat) {t u:Nat} (L:List Nat) (h:u≠t):updG G t L u=G u:=if_neg h
theorem aE6 {v:Ev} {t:Nat} {L:List Nat} {tb:Nat->Nat} {j:Nat} (hj:j≠t+6):own f { v with G:=updG v.G t L,tb:=tb } j=own f v j:=by
 match j,hj with
 | 0,_=>rfl
 | 1,_=>rfl
 | 2,_=>rfl
 | 3,_=>rfl
 | 4,_=>rfl
 | 5,_=>rfl
 | u+6,hj=>exact al9 _ _ (by omega)
theorem EnAt.goes (h:EnAt w f v s d) {t:Nat} {y:Ty} {K:List Nat} (e:d.T t=some y) (hK:∀ k∈K,k∈v.R) (g:Went w w' (v.tb t) f.mb f.mg (v.G t) K y d.ws d.cnt):∃ L,EnAt w' f { v with G:=updG v.G t L } s { d with ws:=goW y d.ws,cnt:=(if goA y d.ws then up d.cnt else d.cnt),T:=upT d.T t (some (goS y d.ws)) }/\Ext f v { v with G:=updG v.G t L } w w':=by
 obtain⟨L,o,g1,g2,g3,g4⟩:=g;have ht:=(h.tx t y e).1;have k:∀ j,j≠1->j≠t+6->Kept (own f v j) w w':=fun j h1 h2=>g4.kept (fun i hi q=>by
  simp only[List.mem_cons]at q
  rcases q with q | q | q
  ·exact h.apart j 1 h1 i hi (by simp[own,q])
  ·exact h.apart j 1 h1 i hi (by simp[own,q])
  ·exact h.apart j (t+6) h2 i hi q) (h.blws j)
 have hL:∀ i,i∈L->i∈v.G t∨w.heap.size<=i:=fun i hi=>by
  rcases g4.own i (by simp[hi]) with q | q
  ·simp only[List.mem_cons]at q
   rcases q with q | q | q
   ·exact absurd hi (g3 i (by simp[q]))
   ·exact absurd hi (g3 i (by simp[q]))
   ·exact .inl q
  ·exact .inr q
 have c:∀ j i,i∈own f { v with G:=updG v.G t L } j->i∈own f v j∨(j=t+6/\∀ j',i∉own f v j'):=fun j i hi=>by
  by_cases q:j=t+6
  ·subst q
   have hi:i∈updG v.G t L t:=hi;rw[ab5]at hi
   rcases hL i hi with z | z
   ·exact .inl z
   ·exact .inr ⟨rfl,h.new z⟩
  ·rw[show own f { v with G:=updG v.G t L } j=own f v j from aE6 q]at hi
   exact .inl hi
 refine⟨L,⟨h.kBox (k 0 (by omega) (by omega)),⟨o,g2⟩,h.kRds (k 2 (by omega) (by omega)),h.kCrs (k 3 (by omega) (by omega)),h.kTrn (k 4 (by omega) (by omega)),h.tsz,h.kFx (k 5 (by omega) (by omega)),fun u y' e'=>?_,fun u e'=>?_,h.kDl (k 5 (by omega) (by omega)),h.kBl (k 5 (by omega) (by omega)),h.ap_gen c⟩,av1 g4 (fun i hi=>?_) (fun i hi=>?_) fun i hi=>.inl hi⟩
 ·dsimp only at e' ⊢
  by_cases q:u=t
  ·subst q
   rw[a08]at e'
   cases e'
   rw[ab5];exact⟨ht,K,g1,hK⟩
  ·rw[a24 _ _ q]at e'
   rw[al9 _ _ q];exact h.kTx (k 5 (by omega) (by omega)) e' (k _ (by omega) (by omega))
 ·dsimp only at e' ⊢
  by_cases q:u=t
  ·subst q
   rw[a08]at e'
   cases e'
  ·rw[a24 _ _ q]at e'
   rw[al9 _ _ q];exact h.no u e'
 ·simp only[List.mem_cons]at hi
  rcases hi with q | q | q
  ·exact h.inF (j:=1) (by omega) (by simp[own,q])
  ·exact h.inF (j:=1) (by omega) (by simp[own,q])
  ·exact h.inF (j:=t+6) (by omega) q
 ·obtain⟨j,h1,h2,h3⟩:=aH9.1 hi
  rcases c j i h3 with q | ⟨rfl,q⟩
  ·exact .inl (h.inF h1 q)
  ·have h3:i∈updG v.G t L t:=h3
   rw[ab5]at h3;exact .inr (.inl (by simp[h3]))
end
section
variable {w w':World} {f:Ex} {v:Ev} {s:Su} {d:Ed}
theorem EnAt.grow (h:EnAt w f v s d) (k:Bl w w') {L:List Nat} (a:Abv w.heap.size L) (b:Blw w' L):EnAt w' f { v with R:=L ++ v.R } s d/\Ext f v { v with R:=L ++ v.R } w w':=by
 have h':=h.on k;have sub:∀ i∈v.R,i∈L ++ v.R:=fun i hi=>List.mem_append.2 (.inr hi)
 have c:∀ j i,i∈own f { v with R:=L ++ v.R } j->i∈own f v j∨(j=5/\∀ j',i∉own f v j'):=fun j i hi=>by
  match j,hi with
  | 0,hi=>exact .inl hi
  | 1,hi=>exact .inl hi
  | 2,hi=>exact .inl hi
  | 3,hi=>exact .inl hi
  | 4,hi=>exact .inl hi
  | 5,hi=>exact(List.mem_append.1 hi).elim (fun q=>.inr ⟨rfl,h.new (a i q)⟩) .inl
  | t+6,hi=>exact .inl hi
 refine⟨⟨h'.box,h'.mem,h'.rds,h'.crs,h'.trn,h'.tsz,h'.fx.keep ⟨zE _,fun _ _=>rfl⟩ sub (fun _ _=>rfl),fun t y e=>?_,h'.no,fun i D x m e=>(h'.dl i D x m e).keep ⟨zE _,fun _ _=>rfl⟩ sub,fun i hi=>(List.mem_append.1 hi).elim (b i) (h'.blR i),h.ap_gen c⟩,av1 (Below.turn k []) (fun i hi=>by cases hi) (fun i hi=>.inl hi) fun i hi=>(List.mem_append.1 hi).elim (fun q=>.inr (a i q)) .inl⟩;obtain⟨h1,K,h2,h3⟩:=h'.tx t y e;exact⟨h1,K,h2,fun i hi=>sub i (h3 i hi)⟩
theorem EnAt.born (h:EnAt w f v s d) (k:Bl w w') {t b:Nat} {y:Ty} {G K:List Nat} (ht:t<8) (hT:d.T t=none) (tx:TxAt w' b G K y) (aG:Abv w.heap.size G) (aK:Abv w.heap.size K) :
  EnAt w' f { v with tb:=updN v.tb t b,G:=updG v.G t G,R:=K ++ v.R } s { d with T:=upT d.T t (some y) }/\Ext f v { v with tb:=updN v.tb t b,G:=updG v.G t G,R:=K ++ v.R } w w':=by
 obtain⟨h',x⟩:=h.grow k aK tx.blwK;have o5:∀ j,j≠t+6->own f { v with tb:=updN v.tb t b,G:=updG v.G t G,R:=K ++ v.R } j=own f { v with R:=K ++ v.R } j:=fun j hj=>aE6 (v:={ v with R:=K ++ v.R }) hj
 have nG:∀ i,i∈G->∀ j,i∉own f { v with R:=K ++ v.R } j:=fun i hi j q=>by
  by_cases e:j=5
  ·subst e
   rcases List.mem_append.1 q with q | q
   ·exact tx.sep i q hi
   ·exact h.new (aG i hi) 5 q
  ·refine h.new (aG i hi) j ?_
   match j,e,q with
   | 0,_,q=>exact q
   | 1,_,q=>exact q
   | 2,_,q=>exact q
   | 3,_,q=>exact q
   | 4,_,q=>exact q
   | u+6,_,q=>exact q
 have c:∀ j i,i∈own f { v with tb:=updN v.tb t b,G:=updG v.G t G,R:=K ++ v.R } j->i∈own f { v with R:=K ++ v.R } j∨(j=t+6/\∀ j',i∉own f { v with R:=K ++ v.R } j'):=fun j i hi=>by
  by_cases q:j=t+6
  ·subst q
   have hi:i∈updG v.G t G t:=hi;rw[ab5]at hi;exact .inr ⟨rfl,nG i hi⟩
  ·rw[o5 j q]at hi
   exact .inl hi
 refine⟨⟨h'.box,h'.mem,h'.rds,h'.crs,h'.trn,h'.tsz,h'.fx,fun u y' e=>?_,fun u e=>?_,h'.dl,h'.blR,h'.ap_gen c⟩,⟨x.turn.os,x.turn.tape,x.turn.output,x.turn.size,x.turn.block,fun i hi=>?_⟩,x.ro⟩
 ·dsimp only at e ⊢
  by_cases q:u=t
  ·subst q
   rw[a08]at e
   cases e
   rw[ab5,a41];exact⟨ht,K,tx,fun i hi=>List.mem_append.2 (.inl hi)⟩
  ·rw[a24 _ _ q]at e
   rw[al9 _ _ q,a67 _ _ q];exact h'.tx u y' e
 ·dsimp only at e ⊢
  by_cases q:u=t
  ·subst q
   rw[a08]at e
   cases e
  ·rw[a24 _ _ q]at e
   rw[al9 _ _ q];exact h'.no u e
 ·obtain⟨j,h1,h2,h3⟩:=aH9.1 hi
  by_cases q:j=t+6
  ·subst q
   have h3:i∈updG v.G t G t:=h3;rw[ab5]at h3;exact .inr (aG i h3)
  ·rw[o5 j q]at h3
   exact x.turn.own i (aH9.2 ⟨j,h1,h2,h3⟩)
theorem EnAt.died (h:EnAt w f v s d) (t:Nat):EnAt w f { v with G:=updG v.G t [] } s { d with T:=upT d.T t none }/\Ext f v { v with G:=updG v.G t [] } w w:=by
 have c:∀ j i,i∈own f { v with G:=updG v.G t [] } j->i∈own f v j:=fun j i hi=>by
  by_cases q:j=t+6
  ·subst q
   have hi:i∈updG v.G t [] t:=hi;rw[ab5]at hi
   cases hi
  ·rwa[show own f { v with G:=updG v.G t [] } j=own f v j from aE6 q]at hi
 refine⟨⟨h.box,h.mem,h.rds,h.crs,h.trn,h.tsz,h.fx,fun u y e=>?_,fun u e=>?_,h.dl,h.blR,fun i j hij k hi hj=>h.apart i j hij k (c i k hi) (c j k hj)⟩,av1 (Turn.refl [] w) (fun i hi=>by cases hi) (fun i hi=>?_) fun i hi=>.inl hi⟩
 ·dsimp only at e ⊢
  by_cases q:u=t
  ·subst q
   rw[a08]at e
   cases e
  ·rw[a24 _ _ q]at e
   rw[al9 _ _ q];exact h.tx u y e
 ·dsimp only at e ⊢
  by_cases q:u=t
  ·subst q
   exact ab5 _ _ _
  ·rw[a24 _ _ q]at e
   rw[al9 _ _ q];exact h.no u e
 ·obtain⟨j,h1,h2,h3⟩:=aH9.1 hi
  exact .inl (h.inF h1 (c j i h3))
theorem EnAt.told (h:EnAt w f v s d) (i:Nat) {D:Rr.Dd} {a:List Nat} {m:Mac} (q:DlIn w v.R D a m):EnAt w f v s { d with L:=fun k=>if k=i then some (D,a,m) else d.L k } :=
 ⟨h.box,h.mem,h.rds,h.crs,h.trn,h.tsz,h.fx,h.tx,h.no,fun k D' a' m' e=>by
  dsimp only at e
  by_cases z:k=i
  ·rw[if_pos z]at e
   cases e
   exact q
  ·rw[if_neg z]at e
   exact h.dl k D' a' m' e,h.blR,h.apart⟩
theorem EnAt.arr (h:EnAt w f v s d) (h0:0<d.dn):∃ g,v.pt=some ⟨g,0,none⟩/\v.ct<=maxLen/\Arr w g 94 20 v.ct d.dn d.tr:=by
 obtain⟨g,c,e,h1,h2⟩:=bB9 h.trn h0 h.tsz;injection e with e1 _ e3;subst e3;exact⟨g,e1,h1,h2⟩
theorem EnAt.turned (h:EnAt w f v s d) {g:Nat} (hp:v.pt=some ⟨g,0,none⟩) (hm:v.ct<=maxLen) (t:Turn [g] [g] w w') {tr:Nat->Array Value} (A:Arr w' g 94 20 v.ct d.dn tr):EnAt w' f v s { d with tr:=tr }/\Ext f v v w w':=by
 have t:Turn (own f v 4) (own f v 4) w w':=by
  have e:own f v 4=[g]:=by simp[own,hp,fpR]
  rw[e];exact t
 have k:=h.but t;refine⟨⟨h.kBox (k 0 (by omega)),h.kMem (k 1 (by omega)),h.kRds (k 2 (by omega)),h.kCrs (k 3 (by omega)),?_,A.sz,h.kFx (k 5 (by omega)),fun _ _ e=>h.kTx (k 5 (by omega)) e (k _ (by omega)),h.no,h.kDl (k 5 (by omega)),h.kBl (k 5 (by omega)),h.apart⟩,av2 h (by omega) t⟩;have:=A.owns (by omega) hm;rw[<- hp]at this;exact this
theorem bo4 {w:World} {g:Nat} {a:Array Value}:Turn [g] [g] w (w.setRow g a):=⟨rfl,rfl,rfl,by simp,fun k _ hn=>setRow_other _ _ _ _ (by simpa using hn),fun _ q=>.inl q⟩
theorem EnAt.more (h:EnAt w f v s d) {w3:World} {u:Value} {c:Array Value} (hc:c.size=20) (hown:w3.ownsRow 0 94 20 u (d.dn+1) (ag3 d.tr d.dn ++ c.toList)) (hg:w.grownBy w3 (Value.slice v.pt d.dn v.ct).ownBlock) (hat:u.ownBlock=(Value.slice v.pt d.dn v.ct).ownBlock∨∃ s,u.ownBlock=some s/\w.heap.size<=s) :
  ∃ p' c',u=.slice p' (d.dn+1) c'/\w3.heap[f.b]?=some (.cells (eBox s f v d) 78 (0,0))/\EnAt (w3.setCell ⟨f.b,14,none⟩ u) f { v with pt:=p',ct:=c' } s { d with dn:=d.dn+1,tr:=updA d.tr d.dn c }/\Ext f v { v with pt:=p',ct:=c' } w (w3.setCell ⟨f.b,14,none⟩ u):=by
 obtain⟨p',c',rfl⟩:∃ p' c',u=.slice p' (d.dn+1) c':=by
  rcases hown.2 with⟨rfl,h0⟩ | ⟨g,cap,cur,rfl,_⟩
  ·omega
  ·exact⟨_,_,rfl⟩
 have hf:ag3 d.tr d.dn ++ c.toList=ag3 (updA d.tr d.dn c) (d.dn+1):=by
  show _=ag3 (updA d.tr d.dn c) d.dn ++ (updA d.tr d.dn c d.dn).toList
  rw[a25,aA6 d.dn (fun i hi=>(a35 d.tr c (show i≠d.dn by omega)).symm)]
 rw[hf]at hown;have ho:∀ k,k∈fpR p'->k∈fpR v.pt∨w.heap.size<=k:=by
  rcases hat with q | ⟨s,q,hs⟩
  ·exact ak7 (s:=w.heap.size) (.inl q) (zE _)
  ·exact ak7 (n:=d.dn) (c:=v.ct) (.inr q) hs
 have t1:Turn (own f v 4) (fpR p') w w3:=⟨hg.os,hg.tape,hg.output,hg.size,fun k hk hn=>hg.block k hk (fun q=>hn (a42.2 q.symm)),ho⟩;have k1:=h.but t1;have hb:=h.kBox (k1 0 (by omega));have hne:f.b∉fpR p':=fun q=>(ho _ q).elim (fun z=>h.apart 0 4 (by omega) f.b (by simp[own]) z) (fun z=>h.new z 0 (by simp[own]))
 have k2:∀ L:List Nat,f.b∉L->Kept L w3 (w3.setCell ⟨f.b,14,none⟩ (.slice p' (d.dn+1) c')):=fun L hn=>⟨by simp,fun i hi=>zO _ _ _ _ (fun (e:i=f.b)=>hn (e ▸ hi))⟩
 have k:∀ j,j≠4->j≠0->Kept (own f v j) w (w3.setCell ⟨f.b,14,none⟩ (.slice p' (d.dn+1) c')):=fun j h1 h2=>by
  have z:=k2 (own f v j) (fun q=>h.apart 0 j (by omega) f.b (by simp[own]) q);exact⟨zQ (k1 j h1).1 z.1,fun i hi=>(z.2 i hi).trans ((k1 j h1).2 i hi)⟩
 have c4:∀ j i,i∈own f { v with pt:=p',ct:=c' } j->i∈own f v j∨(j=4/\∀ j',i∉own f v j'):=fun j i hi=>by
  match j,hi with
  | 0,hi=>exact .inl hi
  | 1,hi=>exact .inl hi
  | 2,hi=>exact .inl hi
  | 3,hi=>exact .inl hi
  | 4,hi=>exact(ho i hi).imp id (fun q=>⟨rfl,h.new q⟩)
  | 5,hi=>exact .inl hi
  | t+6,hi=>exact .inl hi
 have t3:Turn (own f v 4 ++ [f.b]) (fpR p' ++ [f.b]) w (w3.setCell ⟨f.b,14,none⟩ (.slice p' (d.dn+1) c')):=⟨hg.os,hg.tape,hg.output,by simpa using hg.size,fun i hi hn=>by
  rw[List.mem_append,not_or]at hn;exact(zO _ _ _ _ (by simpa using hn.2)).trans (t1.block i hi hn.1),fun i hi=>(List.mem_append.1 hi).elim (fun q=>(ho i q).imp (fun z=>List.mem_append.2 (.inl z)) id) (fun q=>.inl (List.mem_append.2 (.inr q)))⟩
 refine⟨p',c',rfl,hb,⟨zS w3 f.b 14 _ _ _ hb,h.kMem (k 1 (by omega) (by omega)),h.kRds (k 2 (by omega) (by omega)),h.kCrs (k 3 (by omega) (by omega)),aJ0 hown (k2 _ hne),fun i hi=>?_,h.kFx (k 5 (by omega) (by omega)),fun _ _ e=>h.kTx (k 5 (by omega) (by omega)) e (k _ (by omega) (by omega)),h.no,h.kDl (k 5 (by omega) (by omega)),h.kBl (k 5 (by omega) (by omega)),h.ap_gen c4⟩,av1 t3 (fun i hi=>?_) (fun i hi=>?_) fun i hi=>.inl hi⟩
 ·dsimp only at hi ⊢
  by_cases e:i=d.dn
  ·rw[e,a25,hc]
  ·rw[a35 _ _ e]
   exact h.tsz i (by omega)
 ·rcases List.mem_append.1 hi with q | q
  ·exact h.inF (j:=4) (by omega) q
  ·exact h.inF (j:=0) (by omega) q
 ·obtain⟨j,h1,h2,h3⟩:=aH9.1 hi
  rcases c4 j i h3 with q | ⟨rfl,q⟩
  ·exact .inl (h.inF h1 q)
  ·exact .inr (.inl (List.mem_append.2 (.inl h3)))
end
def finB (E:Eg) (u:Nat):Bool:=decide (finE E u)
def rdZ (s:Su) (X:Rs):Sd.Rd:={ n:=s.n,g:=fun u=>decide (u<s.n) && !finB X.H.E u,s:=fun u=>decide (u<s.n) && (X.stp u && !finB X.H.E u),o:=X.R }
structure Alk (m m':Sd.Rd):Prop where
 n:m.n=m'.n
 o:m.o=m'.o
 g:∀ k,k<8->m.g k=m'.g k
 s:∀ k,k<8->m.s k=m'.s k
theorem Alk.at_ {w:World} {b:Nat} {m m':Sd.Rd} (h:Alk m m') (k:Sd.RdAt w b m):Sd.RdAt w b m':=by
 refine k.cong ?_;unfold Sd.boxV;rw[h.n,h.o,h.g 0 (by omega),h.g 1 (by omega),h.g 2 (by omega),h.g 3 (by omega),h.g 4 (by omega),h.g 5 (by omega),h.g 6 (by omega),h.g 7 (by omega),h.s 0 (by omega),h.s 1 (by omega),h.s 2 (by omega),h.s 3 (by omega),h.s 4 (by omega),h.s 5 (by omega),h.s 6 (by omega),h.s 7 (by omega)]
section
variable {s:Su} {X:Rs} {t:Nat}
theorem bs9 (H:Hs) {u:Nat} (h:u≠t):(begH H t).E.T u=H.E.T u/\(begH H t).E.B u=H.E.B u/\(begH H t).E.nc=H.E.nc/\(begH H t).E.n=H.E.n:=by
 unfold begH
 split
 ·dsimp only[begE]
  split
  ·exact⟨a24 _ _ h,a67 _ _ h,rfl,rfl⟩
  ·exact⟨rfl,rfl,rfl,rfl⟩
 ·exact⟨rfl,rfl,rfl,rfl⟩
theorem go_T (H:Hs) {u:Nat} (h:u≠t):(goH H t).E.T u=H.E.T u/\(goH H t).E.B=H.E.B/\(goH H t).E.nc=H.E.nc/\(goH H t).E.n=H.E.n:=by
 unfold goH
 split
 ·exact⟨rfl,rfl,rfl,rfl⟩
 ·exact⟨a24 _ _ h,rfl,rfl,rfl⟩
theorem an0 {u:Nat} (h:u≠t):finB (stepR X t).H.E u=finB X.H.E u:=by
 have e1:=go_T (t:=t) (begH X.H t) h;have e2:=bs9 (t:=t) X.H h;refine decide_eq_decide.2 ?_
 show finE (goH (begH X.H t) t).E u ↔ _
 unfold finE;rw[e1.1,e1.2.1,e1.2.2.1,e2.1,e2.2.1,e2.2.2.1]
theorem bG8:(stepR X t).H.E.n=X.H.E.n:=by
 by_cases h:(0:Nat)≠t
 ·exact((go_T (t:=t) (begH X.H t) h).2.2.2).trans (bs9 (t:=t) X.H h).2.2.2
 ·have h:(t+1)≠t:=by omega
  exact((go_T (t:=t) (begH X.H t) h).2.2.2).trans (bs9 (t:=t) X.H h).2.2.2
theorem b84 (hn:X.H.E.n=s.n) (h8:s.n<=8) (ht:t<s.n) (hf:finB X.H.E t=false):Alk (if finB (stepR X t).H.E t then Sd.finN (Sd.stepN (rdZ s X) t) t else Sd.stepN (rdZ s X) t) (rdZ s (stepR X t)):=by
 have hg:(rdZ s X).g t=true:=by
  show (decide (t<s.n) && !finB X.H.E t)=true
  rw[hf,zT ht];rfl
 obtain⟨dn,hdn⟩:∃ dn,dn=aL8 (stepR X t).H.E (fun u=>if u=t then true else X.stp u) (stepR X t).H.E.n:=⟨_,rfl⟩
 have hR:(stepR X t).R=if dn then X.R+1 else X.R:=by rw[hdn];rfl
 have hS:(stepR X t).stp=if dn then fun _=>false else fun u=>if u=t then true else X.stp u:=by rw[hdn];rfl
 have hD:dn=true ↔ ∀ u,u<s.n->u≠t->finB X.H.E u=true∨X.stp u=true:=by
  rw[hdn,aG9,bG8,hn]
  constructor
  ·intro q u hu hne
   rcases q u hu with z | z
   ·exact .inl (by rw[<- an0 hne];exact zT z)
   ·rw[if_neg hne]at z;exact .inr z
  ·intro q u hu
   by_cases e:u=t
   ·exact .inr (if_pos e)
   ·rcases q u hu e with z | z
    ·rw[<- an0 e]at z;exact .inl (zP z)
    ·exact .inr (by rw[if_neg e];exact z)
 obtain⟨m1,hm1⟩:∃ m1:Sd.Rd,m1={ rdZ s X with s:=Sd.putF (rdZ s X).s t true }:=⟨_,rfl⟩
 have s1:∀ k,m1.s k=if k=t then true else decide (k<s.n) && (X.stp k && !finB X.H.E k):=fun k=>by rw[hm1];rfl
 have g1:∀ k,m1.g k=(decide (k<s.n) && !finB X.H.E k):=fun k=>by rw[hm1];rfl
 have hov:Sd.overB m1=dn:=by
  rw[Bool.eq_iff_iff,hD];unfold Sd.overB;rw[Bool.and_eq_true,Sd.eq8_iff]
  constructor
  ·rintro⟨_,q⟩ u hu hne
   have:=q u (by omega);rw[s1,g1,if_neg hne,zT hu]at this
   cases e1:finB X.H.E u with
   | true=>exact .inl rfl
   | false =>
    rw[e1]at this
    cases e2:X.stp u with
    | true=>exact .inr rfl
    | false=>rw[e2]at this;cases this
  ·intro q
   refine⟨?_,fun k hk=>?_⟩
   ·rw[Bool.not_eq_true',Bool.eq_false_iff]
    intro z;have:=(Sd.eq8_iff _ _).1 z t (by omega);rw[g1,hf,zT ht]at this
    cases this
   ·rw[s1,g1]
    by_cases e:k=t
    ·rw[if_pos e,e,hf,zT ht];rfl
    ·rw[if_neg e]
     by_cases hk':k<s.n
     ·rcases q k hk' e with z | z
      ·rw[z,zT hk'];cases X.stp k <;> rfl
      ·rw[z];rfl
     ·rw[zU hk'];rfl
 have hst:Sd.stepN (rdZ s X) t=if dn then { m1 with s:=Sd.noneF,o:=m1.o+1 } else m1:=by
  unfold Sd.stepN;rw[if_pos hg,<- hm1];unfold Sd.settleM;rw[hov]
 have mo:m1.o=X.R:=by rw[hm1];rfl
 have mn:m1.n=s.n:=by rw[hm1];rfl
 have G':∀ k,(rdZ s (stepR X t)).g k=(decide (k<s.n) && !finB (stepR X t).H.E k):=fun _=>rfl
 have S':∀ k,(rdZ s (stepR X t)).s k=(decide (k<s.n) && ((stepR X t).stp k && !finB (stepR X t).H.E k)):=fun _=>rfl
 rw[hst]
 cases hft:finB (stepR X t).H.E t with
 | false =>
  rw[if_neg Bool.false_ne_true];have fe:∀ k,finB (stepR X t).H.E k=finB X.H.E k:=fun k=>by
   by_cases e:k=t
   ·rw[e,hft,hf]
   ·exact an0 e
  cases hd:dn with
  | true =>
   rw[if_pos rfl];rw[hd]at hR hS;refine⟨mn,?_,fun k hk=>?_,fun k hk=>?_⟩
   ·show m1.o+1=(stepR X t).R
    rw[hR,mo];rfl
   ·rw[G',fe];exact g1 k
   ·rw[S',hS];show false=_;simp
  | false =>
   rw[if_neg Bool.false_ne_true];rw[hd]at hR hS;refine⟨mn,?_,fun k hk=>?_,fun k hk=>?_⟩
   ·show m1.o=(stepR X t).R
    rw[hR,mo];rfl
   ·rw[G',fe];exact g1 k
   ·rw[S',hS,fe,s1]
    by_cases e:k=t
    ·rw[if_pos e,e,hf,zT ht];simp
    ·rw[if_neg e];simp[e]
 | true =>
  rw[if_pos rfl];have fe:∀ k,k≠t->finB (stepR X t).H.E k=finB X.H.E k:=fun k e=>an0 e
  have gf:∀ m:Sd.Rd,m.g=m1.g->Sd.finN m t=Sd.settleM { m with g:=Sd.putF m.g t false,s:=Sd.putF m.s t false }:=fun m e=>by
   unfold Sd.finN;rw[if_pos];rw[e,g1,hf,zT ht];rfl
  have no:∀ m:Sd.Rd,m.g=m1.g->(dn=true->m.s=Sd.noneF)->(dn=false->m.s=m1.s)->Sd.overB { m with g:=Sd.putF m.g t false,s:=Sd.putF m.s t false }=false:=fun m e e1 e2=>by
   rw[Bool.eq_false_iff];unfold Sd.overB;rw[Ne,Bool.and_eq_true,Sd.eq8_iff];rintro⟨z1,z2⟩;rw[Bool.not_eq_true',Bool.eq_false_iff]at z1;have z2:∀ k,k<8->(if k=t then false else m.s k)=(if k=t then false else m.g k):=z2
   cases hd:dn with
   | true =>
    apply z1
    refine(Sd.eq8_iff _ _).2 fun k hk=>?_
    have:=z2 k hk
    show (if k=t then false else m.g k)=false
    rw[<- this,e1 hd]
    split <;> rfl
   | false =>
    have:¬ ∀ u,u<s.n->u≠t->finB X.H.E u=true∨X.stp u=true:=fun q=>by
     have:=hD.2 q;rw[hd]at this
     cases this
    apply this
    intro u hu hne;have z:=z2 u (by omega);rw[if_neg hne,if_neg hne,e2 hd,e,s1,g1,if_neg hne,zT hu]at z
    cases e1:finB X.H.E u with
    | true=>exact .inl rfl
    | false =>
     rw[e1]at z
     cases e2:X.stp u with
     | true=>exact .inr rfl
     | false=>rw[e2]at z;cases z
  have gg:∀ k,(if k=t then false else m1.g k)=(rdZ s (stepR X t)).g k:=fun k=>by
   rw[G']
   by_cases e:k=t
   ·rw[if_pos e,e,hft];simp
   ·rw[if_neg e,fe k e];exact g1 k
  cases hd:dn with
  | true =>
   rw[if_pos rfl,gf { m1 with s:=Sd.noneF,o:=m1.o+1 } rfl];unfold Sd.settleM;rw[no { m1 with s:=Sd.noneF,o:=m1.o+1 } rfl (fun _=>rfl) (fun z=>by rw[hd]at z;cases z),if_neg Bool.false_ne_true];rw[hd]at hR hS;refine⟨mn,?_,fun k hk=>gg k,fun k hk=>?_⟩
   ·show m1.o+1=(stepR X t).R
    rw[hR,mo];rfl
   ·rw[S',hS]
    show (if k=t then false else false)=_
    simp
  | false =>
   rw[if_neg Bool.false_ne_true,gf m1 rfl];unfold Sd.settleM;rw[no m1 rfl (fun z=>by rw[hd]at z;cases z) (fun _=>rfl),if_neg Bool.false_ne_true];rw[hd]at hR hS;refine⟨mn,?_,fun k hk=>gg k,fun k hk=>?_⟩
   ·show m1.o=(stepR X t).R
    rw[hR,mo];rfl
   ·rw[S',hS]
    show (if k=t then false else m1.s k)=_
    by_cases e:k=t
    ·rw[if_pos e,e,hft];simp
    ·rw[if_neg e,fe k e,s1,if_neg e];simp[e]
end
structure Es where
 X:Rs
 A:Nat->Int
def az8 (ws:List Int):Ty->Int
 | .inl _=>0
 | .inr (_,x)=>Md.Ct.aheadI ws 1 x.tick
def updI (A:Nat->Int) (i:Nat) (x:Int):Nat->Int:=fun k=>if k=i then x else A k
theorem bc1 (A:Nat->Int) (i:Nat) (x:Int):updI A i x i=x:=if_pos rfl
theorem bc0 (A:Nat->Int) {i k:Nat} (x:Int) (h:k≠i):updI A i x k=A k:=if_neg h
def Z0 (s:Su):Es:=⟨X0 s,fun _=>0⟩
def ad6 (s:Su) (Z:Es) (t:Nat):Es:=⟨stepR Z.X t,if (Z.X.H.E.T t).isNone then updI Z.A Z.X.H.dn (az8 (goW (newT s t (s.call t (Z.X.H.E.B t))) Z.X.H.E.ws) (goS (newT s t (s.call t (Z.X.H.E.B t))) Z.X.H.E.ws)) else Z.A⟩
def trU (g:Value) (th no pr bg ah fr:Int):Array Value:=#[g,.int .i64 th,.int .i64 no,.int .i64 pr,.int .i64 0,.slice none 0 0,.int .i64 0,.int .i64 0,.slice none 0 0,.slice none 0 0,.slice none 0 0,.int .i64 0,.int .i64 0,.int .i64 0,.int .i64 bg,.int .i64 0,.int .i64 0,.int .i64 ah,.int .i64 fr,.int .i64 0]
def trO (y:Ty) (D:Rr.Dd) (th no pr bg en ah fr to_:Int):Array Value:=#[Value.nilIface] ++ dTx y D th no pr bg en ah fr to_
def goI (X:Rs) (t:Nat):Int:=if (X.H.E.T t).isNone then -1 else (X.H.at_ t:Int)
structure Fits (s:Su) (v:Ev) (d:Ed) (Z:Es):Prop where
 N:d.N=(Z.X.H.N:Int)
 ws:d.ws=Z.X.H.E.ws
 cnt:d.cnt=Z.X.H.E.cnt
 rd:d.rd=rdZ s Z.X
 T:d.T=Z.X.H.E.T
 dn:d.dn=Z.X.H.dn
 cr:∀ t,t<s.n->∃ qa qc,d.cr t=#[.slice qa (s.cs t).length qc,.int .i64 (Z.X.H.E.B t:Int),.int .i64 (goI Z.X t)]
 up:∀ i,i<Z.X.H.dn->(Z.X.H.D i).en=0->d.tr i=trU (txV (Z.X.H.D i).tx (v.tb (Z.X.H.D i).th)) (Z.X.H.D i).th (Z.X.H.D i).no (s.call (Z.X.H.D i).th (Z.X.H.D i).no).1 (Z.X.H.D i).bg (Z.A i) (Z.X.fr i)
 ov:∀ i,i<Z.X.H.dn->(Z.X.H.D i).en≠0->∃ D,d.L i=some (D,af8 (Z.X.H.D i).tx,macT (Z.X.H.D i).tx)/\d.tr i=trO (Z.X.H.D i).tx D (Z.X.H.D i).th (Z.X.H.D i).no (s.call (Z.X.H.D i).th (Z.X.H.D i).no).1 (Z.X.H.D i).bg (Z.X.H.D i).en (Z.A i) (Z.X.fr i) (Z.X.to_ i)
structure Eng (w:World) (f:Ex) (v:Ev) (s:Su) (Z:Es):Prop where
 at_:∃ d,EnAt w f v s d/\Fits s v d Z
 wi:WI s Z.X
 rn:Z.X.R<=Z.X.H.N
section
variable {w:World} {a b c e th:Int} {ao:Option Addr} {cs:List Ins} {n cap:Nat} {po:Option Addr} {l:List Nat} {k co:Nat}
def Born (w w':World) (bx:Nat) (y:Ty):Prop:=∃ G K,TxAt w' bx G K y/\Abv w.heap.size G/\Abv w.heap.size K/\Bl w w'
theorem ay6 (w:World) (o o':Obj):Bl w ((w.alloc o).alloc o'):=(below_alloc w o).trans ((below_alloc _ o').mono (by simp))
theorem bA8 (hc:Md.cfgB a b c e=true) (hn:cs.length=n) (hk:l.length=k) (hk8:k<=8) (hT:Shaped5 w) (hC:a39 w ao cs) (hL:FlAt w po l) (hnl:n<=9223372036854775807) (h0:0<=th) (h1:th<b):Calls Tryz.prog 69 #[cfgV a b c e,.int .i64 th,.agg #[.int .i64 2,.slice ao n cap],.slice po k co] w fun r w'=>∃ bx,r=.returned (.iface 146 (.pointer (some ⟨bx,0,none⟩)))/\Hid (Born w w' bx (.inr ((newY a b c e 2 cs l th).m,newY a b c e 2 cs l th))):=by
 have HN:Hid (∀ u,Bl w u->Calls Tryz.prog 81 #[cfgV a b c e,.int .i64 th,.agg #[.int .i64 2,.slice ao n cap],.slice po k co] u fun r w'=>∃ bx,r=.returned (.pointer (some ⟨bx,0,none⟩))/\Made u w' bx (newY a b c e 2 cs l th)):=fun u hb=>Ww.new_yes hc hn hk hk8 (hT.on hb) (hC.on hb) (hL.on hb) hnl h0 h1
 have HB:=zH (ay6 w (cfgO a b c e) (prgO 2 ao n cap));clear hT hC hL;go_enter Tryz.func69,Tryz.ntmps69
 go_wp2_with (go_at_call 81;refine(HN.out _ HB.out).mono ?_;rintro r u1 ⟨bx,rfl,q⟩;have HQ:=zH q;clear q HN)
 go_ret;refine⟨bx,rfl,?_⟩;obtain⟨z,v,q1,q2,q3,q4⟩:=HQ.out.at_;exact⟨_,_,⟨z,v,q1,q2,rfl,rfl⟩,q3.mono HB.out.size,q4.mono HB.out.size,HB.out.trans (HQ.out.bl.mono HB.out.size)⟩
theorem bA7 {tg:Int} (htg:¬ tg=2) (hc:Md.cfgB a b c e=true) (hn:cs.length=n) (hk:l.length=k) (hk8:k<=8) (hT:Shaped5 w) (hC:a39 w ao cs) (hL:FlAt w po l) (hnl:n<=9223372036854775807) (h0:0<=th) (h1:th<b):Calls Tryz.prog 69 #[cfgV a b c e,.int .i64 th,.agg #[.int .i64 tg,.slice ao n cap],.slice po k co] w fun r w'=>∃ bx,r=.returned (.iface 148 (.pointer (some ⟨bx,0,none⟩)))/\Hid (Born w w' bx (.inl ((newX a b c e tg cs l th).m,newX a b c e tg cs l th))):=by
 have HN:Hid (∀ u,Bl w u->Calls Tryz.prog 82 #[cfgV a b c e,.int .i64 th,.agg #[.int .i64 tg,.slice ao n cap],.slice po k co] u fun r w'=>∃ bx,r=.returned (.pointer (some ⟨bx,0,none⟩))/\Rr.Made u w' bx (newX a b c e tg cs l th)):=fun u hb=>Rr.new_yes hc hn hk hk8 (hT.on hb) (hC.on hb) (hL.on hb) hnl h0 h1
 have HB:=zH (ay6 w (cfgO a b c e) (prgO tg ao n cap));have htb:(tg == 2)=false:=by simpa using htg
 clear hT hC hL htg;go_enter Tryz.func69,Tryz.ntmps69
 go_wp2_with (go_at_call 82;refine(HN.out _ HB.out).mono ?_;rintro r u1 ⟨bx,rfl,q⟩;have HQ:=zH q;clear q HN)
 go_ret;refine⟨bx,rfl,?_⟩;obtain⟨z,F,r,q1,q3,q4⟩:=HQ.out.at_;exact⟨_,_,⟨z,none,F,r,q1,.inl ⟨rfl,by show (-1:Int)<0;omega⟩,rfl,rfl⟩,q3.mono HB.out.size,q4.mono HB.out.size,HB.out.trans (HQ.out.bl.mono HB.out.size)⟩
end
theorem bb4 {w:World} {s:Su} (hs:SuIn s) {t j:Nat} (ht:t<s.n) (hj:j<(s.cs t).length) (hT:Shaped5 w) {x:Int × List Nat} (hx:s.call t j=x) {ao po:Option Addr} {n cap k co:Nat} (hn:(s.prog x.1).2.length=n) (hk:x.2.length=k) (hC:a39 w ao (s.prog x.1).2) (hL:FlAt w po x.2) (hnl:n<=9223372036854775807) :
  Calls Tryz.prog 69 #[cfgV s.a s.b s.c s.e,.int .i64 (t:Int),.agg #[.int .i64 (s.prog x.1).1,.slice ao n cap],.slice po k co] w fun r w'=>∃ bx,r=.returned (txV (newT s t x) bx)/\Hid (Born w w' bx (newT s t x)):=by
 have ha:=hs.args hj;rw[hx]at ha;have hb:=hs.nb;unfold newT
 by_cases q:(s.prog x.1).1=2
 ·rw[if_pos q,q]
  exact bA8 hs.cfg hn hk (by omega) hT hC hL hnl (by omega) (by omega)
 ·rw[if_neg q]
  exact bA7 q hs.cfg hn hk (by omega) hT hC hL hnl (by omega) (by omega)
section
variable {w:World} {b mb mg:Nat} {G K:List Nat} {y:Ty} {s:Su} {t:Nat} {N n:Int} {ws:List Int} {o:Bool} {p4 p5:Int}
abbrev plO (p4 p5:Int):Obj:=.cells #[.int .i64 0,.int .i64 1,.int .i64 2,.int .i64 3,.int .i64 p4,.int .i64 p5] 64
abbrev plV (p4 p5:Int):Value:=.agg #[.int .i64 0,.int .i64 1,.int .i64 2,.int .i64 3,.int .i64 p4,.int .i64 p5]
theorem bN8 (a:Addr) (w:World):(Instr.typeAssert (.iface 148 (.pointer (some a))) 92 146 true).run Tryz.prog w=.ok (.tuple #[.pointer none,.bool false]) w:=by kernel_rfl
theorem bH0 (a:Addr) (w:World):(Instr.typeAssert (.iface 146 (.pointer (some a))) 92 146 true).run Tryz.prog w=.ok (.tuple #[.pointer (some a),.bool true]) w:=by kernel_rfl
attribute [local go_sem] bN8 bH0
theorem bs4:Calls Tryz.prog 70 #[.iface 148 (.pointer (some ⟨b,0,none⟩)),.pointer (some ⟨mb,0,none⟩),plV p4 p5] w fun r w'=>r=.returned (.int .i64 0)/\Bl w w':=by
 have HB:=zH (below_alloc w (plO p4 p5));go_enter Tryz.func70,Tryz.ntmps70;go_wp2_with fail;go_ret;exact⟨rfl,HB.out⟩
theorem bf6 (th no pr tag:Int) (na:Nat) (mark num:Int) (m:Mac) (D:Rr.Dd) (e0 e1 e2 bg en st ah fr to_:Int) (w:World):(Instr.field 48 (.agg (dCel th no pr tag na mark num m D e0 e1 e2 bg en st ah fr to_)) 5).run Tryz.prog w=.ok (.int .i64 mark) w:=by kernel_rfl
theorem bo5 {x:Int} (h:u64B x):IntKind.u64.wrap (wrap64 x)=x:=by
 unfold u64B at h;simp only[IntKind.wrap_u64,wrap64];omega
attribute [local go_sem] bf6
theorem af0 {u:World} {g:Nat} (h:u.heap[g]?=some (plO p4 p5)):u.cell? ⟨g,0,none⟩=some (.int .i64 0)/\u.cell? ⟨g,1,none⟩=some (.int .i64 1)/\u.cell? ⟨g,2,none⟩=some (.int .i64 2)/\u.cell? ⟨g,3,none⟩=some (.int .i64 3)/\u.cell? ⟨g,4,none⟩=some (.int .i64 p4)/\u.cell? ⟨g,5,none⟩=some (.int .i64 p5) :=
 ⟨(zR u g 0 _ _ _ h).trans rfl,(zR u g 1 _ _ _ h).trans rfl,(zR u g 2 _ _ _ h).trans rfl,(zR u g 3 _ _ _ h).trans rfl,(zR u g 4 _ _ _ h).trans rfl,(zR u g 5 _ _ _ h).trans rfl⟩
theorem bs5 {m:Mac} {x:Wx} (h:TxAt w b G K (.inr (m,x))) (hI:TIn s t N (.inr (m,x))) (hp:x.part≠1) (hm:MemAt 106 w mb mg ws o n):Calls Tryz.prog 70 #[.iface 146 (.pointer (some ⟨b,0,none⟩)),.pointer (some ⟨mb,0,none⟩),plV p4 p5] w fun r w'=>r=.returned (.int .i64 (Md.Ct.aheadI ws 1 x.tick))/\Bl w w':=by
 have hmk:b61 x=wrap64 x.tick:=by unfold b61;rw[if_neg hp]
 have HCV:Hid (IntKind.u64.wrap (wrap64 x.tick)=x.tick):=bo5 hI.1.tk;have HD:Hid (∀ u,Bl w u->Calls Tryz.prog 84 #[.pointer (some ⟨b,0,none⟩)] u fun e w'=>∃ D,e=.returned (.agg (dCel 0 0 0 x.tag x.args.length (wrap64 x.tick) x.num x.m D (endT (.inr (m,x)) x.m.how) (endT (.inr (m,x)) x.m.cod) (endT (.inr (m,x)) x.m.err) 0 0 x.steps 0 0 0))/\Bl u w'):=fun u hu=>by
  refine(aP0 (h.on hu) hI).mono ?_;rintro e w' ⟨D,rfl,_,k⟩;refine⟨D,?_,k⟩;rw[<- hmk]
  rfl
 have HA:Hid (∀ u,Bl w u->Calls Tryz.prog 83 #[.pointer (some ⟨mb,0,none⟩),plV p4 p5,.int .u64 x.tick] u fun e w'=>e=.returned (.tuple #[.int .i64 (Md.Ct.aheadI ws 1 x.tick),.int .i64 (errP ws 1)])/\Bl u w'):=fun u hu=>(Md.Ct.ahead_any (hm.on hu) 0 1 2 3 p4 p5 x.tick).mono fun e w' q=>⟨q.1,q.2.2⟩
 have HB:=zH (And.intro (below_alloc w (plO p4 p5)) (zN w (plO p4 p5)));have HX:Hid (∀ u,Below (w.alloc (plO p4 p5)).heap.size (w.alloc (plO p4 p5)) u->Bl w u/\u.heap[w.heap.size]?=some (plO p4 p5)):=fun u hu=>⟨HB.out.1.trans (hu.mono HB.out.1.size),(hu.block _ (lt_of_block HB.out.2)).trans HB.out.2⟩
 clear h hI hp hm hmk
 generalize endT (.inr (m,x)) x.m.how=e0 at *
 generalize endT (.inr (m,x)) x.m.cod=e1 at *
 generalize endT (.inr (m,x)) x.m.err=e2 at *
 generalize Md.Ct.aheadI ws 1 x.tick=A at *
 generalize errP ws 1=E at *
 obtain⟨mk,hmk⟩:∃ mk,wrap64 x.tick=mk:=⟨_,rfl⟩
 rw[hmk]at HCV HD;clear hmk;go_enter Tryz.func70,Tryz.ntmps70;go_wp2_with fail;obtain⟨w1,hw1⟩:∃ w1,w1=w.alloc (plO p4 p5):=⟨_,rfl⟩
 rw[<- hw1]at HB HX;rw[show w.alloc (.cells #[.int .i64 0,.int .i64 1,.int .i64 2,.int .i64 3,.int .i64 p4,.int .i64 p5] 64)=w1 from hw1.symm];clear hw1;refine a06 (fun u=>u.cell? ⟨w.heap.size,0,none⟩=some (.int .i64 0)/\u.cell? ⟨w.heap.size,1,none⟩=some (.int .i64 1)/\u.cell? ⟨w.heap.size,2,none⟩=some (.int .i64 2)/\u.cell? ⟨w.heap.size,3,none⟩=some (.int .i64 3)/\u.cell? ⟨w.heap.size,4,none⟩=some (.int .i64 p4)/\u.cell? ⟨w.heap.size,5,none⟩=some (.int .i64 p5) )  ((0,true)::(1,true)::(2,true)::(3,false)::(4,true)::(5,true)::(6,false)::(7,true)::(8,true)::(9,true)::(10,true)::(11,true)::[])  Md.Cv.follows13 (by kernel_rfl) (fun _ _ _ _ _ h=>h)  (af0 HB.out.2) ?_
 (repeat ((first | (refine a02 (v:=?_) rfl (by rfl) (fun wq hSq=>?_) ?_;rotate_left;(focus ((try dsimp only at hSq);go_simp;try with_reducible rfl))) | refine a03 rfl (by rfl) ?_);simp only[Act.put,zA,zB,zC]))
 (refine a04 rfl (by rfl) (fun KK hK=>?_);go_simp)
 refine(HD.out _ (HX.out _ ((Same.drew w1).below _)).1).mono ?_;rintro e u2 ⟨D,rfl,k⟩;have A2:Hid (Bl w1 u2):=((Same.drew w1).below _).trans k;clear k;refine hK.out _ _ (af0 (HX.out _ A2.out).2) ?_
 (clear hK KK;try simp only[Act.put,zA,zB,zC])
 (repeat ((first | (refine a02 (v:=?_) rfl (by rfl) (fun wq hSq=>?_) ?_;rotate_left;(focus ((try dsimp only at hSq);go_simp;try with_reducible rfl))) | refine a03 rfl (by rfl) ?_);simp only[Act.put,zA,zB,zC]))
 rw[HCV.out]
 (refine a04 rfl (by rfl) (fun KK hK=>?_);go_simp)
 refine(HA.out _ (HX.out _ A2.out).1).mono ?_;rintro e u3 ⟨rfl,k⟩;have A3:Hid (Bl w1 u3):=a20 A2.out k;clear k;refine hK.out _ _ (af0 (HX.out _ A3.out).2) ?_
 (clear hK KK;try simp only[Act.put,zA,zB,zC])
 (repeat ((first | (refine a02 (v:=?_) rfl (by rfl) (fun wq hSq=>?_) ?_;rotate_left;(focus ((try dsimp only at hSq);go_simp;try with_reducible rfl))) | refine a03 rfl (by rfl) ?_);simp only[Act.put,zA,zB,zC]))
 refine a13 ?_;go_wp2_with fail;go_ret;exact⟨rfl,(HX.out _ A3.out).1⟩
theorem ahead_any (h:TxAt w b G K y) (hI:TIn s t N y) (hp:∀ m x,y=.inr (m,x)->x.part≠1) (hm:MemAt 106 w mb mg ws o n):Calls Tryz.prog 70 #[txV y b,.pointer (some ⟨mb,0,none⟩),plV p4 p5] w fun r w'=>r=.returned (.int .i64 (az8 ws y))/\Bl w w':=by
 rcases y with⟨m,x⟩ | ⟨m,x⟩
 ·exact bs4
 ·exact bs5 h hI (hp m x rfl) hm
end
section
variable {w w':World} {f:Ex} {v:Ev} {s:Su} {d:Ed} {t nc qc:Nat} {qa:Option Addr} {bgn go:Int}
def finI (bgn go:Int) (nc:Nat):Bool:=decide (go=-1) && decide (bgn=(nc:Int))
theorem EnAt.course (h:EnAt w f v s d) (ht:t<s.n) (hc:d.cr t=#[.slice qa nc qc,.int .i64 bgn,.int .i64 go]):w.cell? ⟨f.gc,t*3,none⟩=some (.slice qa nc qc)/\w.cell? ⟨f.gc,t*3+1,none⟩=some (.int .i64 bgn)/\w.cell? ⟨f.gc,t*3+2,none⟩=some (.int .i64 go)/\f.gc<w.heap.size:=by
 have C:∀ j,j<3->w.cell? ⟨f.gc,t*3+j,none⟩=(d.cr t)[j]?:=fun j hj=>h.crs.cell ht hj
 rw[hc]at C;exact⟨(C 0 (by omega)).trans rfl,(C 1 (by omega)).trans rfl,(C 2 (by omega)).trans rfl,h.crs.lt⟩
theorem ad8 {g o:Nat} (h0:w.cell? ⟨g,o,none⟩=some (.slice qa nc qc)) (h1:w.cell? ⟨g,o+1,none⟩=some (.int .i64 bgn)) (h2:w.cell? ⟨g,o+2,none⟩=some (.int .i64 go)):Calls Tryz.prog 40 #[.pointer (some ⟨g,o,none⟩)] w fun e w'=>e=.returned (.bool (finI bgn go nc))/\Same w w':=by
 by_cases q:go=-1
 ·have qb:(go == -1)=true:=by simpa using q
  have HB:Hid (finI bgn go nc=(bgn == (nc:Int))):=by unfold finI;rw[zT q,Bool.true_and];rfl
  clear q;go_enter Tryz.func40,Tryz.ntmps40;go_wp2_with fail;refine a06 (fun u=>u.cell? ⟨g,o,none⟩=some (.slice qa nc qc)/\u.cell? ⟨g,o+1,none⟩=some (.int .i64 bgn)/\u.cell? ⟨g,o+2,none⟩=some (.int .i64 go) )  ((0,true)::(1,true)::(2,true)::(3,true)::(4,true)::(5,true)::(6,true)::(7,true)::(8,true)::(9,true)::(10,true)::(11,true)::(12,true)::(13,true)::(14,true)::(15,true)::(16,true)::(17,true)::[])  Md.Cv.follows13 (by kernel_rfl) (fun _ _ _ _ _ h=>h)  ⟨h0,h1,h2⟩ ?_
  (repeat ((first | (refine a02 (v:=?_) rfl (by rfl) (fun wq hSq=>?_) ?_;rotate_left;(focus ((try dsimp only at hSq);go_simp;try with_reducible rfl))) | refine a03 rfl (by rfl) ?_);simp only[Act.put,zA,zB,zC]))
  refine a13 ?_;go_wp2_with fail;go_ret;exact⟨by rw[HB.out];rfl,Same.drew w⟩
 ·have qb:(go == -1)=false:=by simpa using q
  have HB:Hid (finI bgn go nc=false):=by unfold finI;rw[zU q,Bool.false_and];trivial
  clear q;go_enter Tryz.func40,Tryz.ntmps40;go_wp2_with fail;refine a06 (fun u=>u.cell? ⟨g,o,none⟩=some (.slice qa nc qc)/\u.cell? ⟨g,o+1,none⟩=some (.int .i64 bgn)/\u.cell? ⟨g,o+2,none⟩=some (.int .i64 go) )  ((0,true)::(1,true)::(2,true)::(3,true)::(4,true)::(5,true)::(6,true)::(7,true)::(8,true)::(9,true)::(10,true)::(11,true)::(12,true)::(13,true)::(14,true)::(15,true)::(16,true)::(17,true)::[])  Md.Cv.follows13 (by kernel_rfl) (fun _ _ _ _ _ h=>h)  ⟨h0,h1,h2⟩ ?_
  (repeat ((first | (refine a02 (v:=?_) rfl (by rfl) (fun wq hSq=>?_) ?_;rotate_left;(focus ((try dsimp only at hSq);go_simp;try with_reducible rfl))) | refine a03 rfl (by rfl) ?_);simp only[Act.put,zA,zB,zC]))
  refine a13 ?_;go_wp2_with fail;go_ret;exact⟨by rw[HB.out];rfl,Same.drew w⟩
theorem aa2 (h:EnAt w f v s d) (hs:SuIn s) (x:Int):Calls Tryz.prog 44 #[.pointer (some ⟨f.b,0,none⟩),.int .i64 x] w fun e w'=>e=.returned (.bool (decide (0<=x) && decide (x<(s.n:Int))))/\w'=w:=by
 have c:=(h.cell 13).trans (rfl:_=some (Value.slice (some ⟨f.gc,0,none⟩) s.n s.n));have hb:=h.ltB;have h8:(s.n:Int)<=8:=by have:=hs.nb;have:=hs.b8;omega
 clear h;go_enter Tryz.func44,Tryz.ntmps44
 by_cases q:0<=x
 ·go_wp2_with fail
  go_ret;exact⟨by simp[q],rfl⟩
 ·go_wp2_with fail
  go_ret;exact⟨by simp;omega,rfl⟩
end
section
variable {w:World} {b g o:Nat} {G K:List Nat} {y:Ty} {s:Su} {t:Nat} {N:Int} {th no pr bg ah fr to_:Int}
structure UpC (u:World) (g o:Nat) (x:Value) (th no pr bg ah fr:Int):Prop where
 c0:u.cell? ⟨g,o,none⟩=some x
 c1:u.cell? ⟨g,o+1,none⟩=some (.int .i64 th)
 c2:u.cell? ⟨g,o+2,none⟩=some (.int .i64 no)
 c3:u.cell? ⟨g,o+3,none⟩=some (.int .i64 pr)
 c14:u.cell? ⟨g,o+14,none⟩=some (.int .i64 bg)
 c17:u.cell? ⟨g,o+17,none⟩=some (.int .i64 ah)
 c18:u.cell? ⟨g,o+18,none⟩=some (.int .i64 fr)
 lt:g<u.heap.size
theorem ac0 (th no pr tag:Int) (na:Nat) (mark num:Int) (m:Mac) (D:Rr.Dd) (e0 e1 e2 bg en st ah fr to_:Int):(dCel th no pr tag na mark num m D e0 e1 e2 bg en st ah fr to_).all (·.oneCell')=true:=by simp[dCel,Value.oneCell']
theorem bC6 {u:World} {B g:Nat} {D:Rr.Dd} {args:List Nat} {m:Mac} (h:Rr.DdAt u B D args m) (hn:g∉fpR D.pa/\g∉fpR D.pr/\g∉fpR D.pw/\g∉fpR D.po) (j:Nat) (x:Value):Rr.DdAt (u.setCell ⟨g,j,none⟩ x) B D args m :=
 ⟨h.a.keep (ae8 hn.1),h.r.keep (ae8 hn.2.1),h.wr.keep (ae8 hn.2.2.1),h.o.keep (ae8 hn.2.2.2),h.xa,h.xr,h.xw,h.xo⟩
structure TBox (w u:World) (g:Nat) (D:Rr.Dd) (args:List Nat) (m:Mac) (c:Array Value):Prop where
 box:u.heap[g]?=some (.cells c 48 (0,0))
 dd:Rr.DdAt u (w.alloc Rr.dZ).heap.size D args m
 bl:Below (w.alloc Rr.dZ).heap.size (w.alloc Rr.dZ) u
 lo:(w.alloc Rr.dZ).heap.size<=g
 ap:g∉fpR D.pa/\g∉fpR D.pr/\g∉fpR D.pw/\g∉fpR D.po
theorem TBox.old {u:World} {D:Rr.Dd} {args:List Nat} {m:Mac} {c:Array Value} (h:TBox w u g D args m c):Bl w u:=(below_alloc w _).trans (h.bl.mono (below_alloc w _).size)
theorem TBox.set {u:World} {D:Rr.Dd} {args:List Nat} {m:Mac} {c:Array Value} (h:TBox w u g D args m c) (j:Nat) (x:Value) (c':Array Value) (e:c.setIfInBounds j x=c'):TBox w (u.setCell ⟨g,j,none⟩ x) g D args m c' :=
 ⟨by rw[<- e];exact zS u g j _ _ x h.box,bC6 h.dd h.ap j x,h.bl.setCell h.lo _,h.lo,h.ap⟩
theorem TBox.drew {u:World} {D:Rr.Dd} {args:List Nat} {m:Mac} {c:Array Value} (h:TBox w u g D args m c):TBox w u.drew g D args m c:=⟨h.box,h.dd.on ((Same.drew _).below _),h.bl.trans ((Same.drew _).below _),h.lo,h.ap⟩
theorem TBox.res {u:World} {D:Rr.Dd} {args:List Nat} {m:Mac} {c:Array Value} (h:TBox w u g D args m c):u.heap[w.heap.size]?=some Rr.dZ:=(h.bl.block _ (by simp)).trans (zN _ _)
theorem TBox.done {u:World} {D:Rr.Dd} {args:List Nat} {m:Mac} {c c':Array Value} (h:TBox w u g D args m c):Rr.DdAt (u.setRow w.heap.size c') w.heap.size D args m/\Bl w (u.setRow w.heap.size c'):=by
 have hl:w.heap.size<(w.alloc Rr.dZ).heap.size:=by simp
 exact⟨(h.dd.keep (fun i hi _=>setRow_other _ _ _ _ (by omega)) (by simp)).mono (by omega),Md.Ce.bl_setRow h.old (zE _) _⟩
theorem as6 {fn:Func} {p:Tmp} (h:fn.results=#[.cell p 48]) {R:Ending->World->Prop} {a:Act} {w:World} (g:Nat) {th no pr tag:Int} {na:Nat} {mark num:Int} {m:Mac} {D:Rr.Dd} {e0 e1 e2 bg en st ah fr to_:Int} (hp:a.tmps.getD p undef=.pointer (some ⟨g,0,none⟩))
  (hg:w.heap[g]?=some (.cells (dCel th no pr tag na mark num m D e0 e1 e2 bg en st ah fr to_) 48 (0,0))) (hd:a.defers=[]) (hR:R (.returned (.agg (dCel th no pr tag na mark num m D e0 e1 e2 bg en st ah fr to_))) w):bodyPost Tryz.prog fn R .ret a w :=
 bodyPost_ret (results_cell_row h _ _ g _ _ _ _ hp hg Tryz.underlying48 rfl (by kernel_rfl)) hd hR
theorem bH3 {tg:Int} {na:Nat} {mk nu:Int} {m:Mac} {e0 e1 e2 st:Int} {args:List Nat} (hc:∀ u,Bl w u->UpC u g o (.iface 148 (.pointer (some ⟨b,0,none⟩))) th no pr bg ah fr) (hD:∀ u,Bl w u->Calls Tryz.prog 248 #[.pointer (some ⟨b,0,none⟩)] u fun e w'=>∃ D,e=.returned (.agg (dCel 0 0 0 tg na mk nu m D e0 e1 e2 0 0 st 0 0 0))/\Rr.DdAt w' u.heap.size D args m/\Bl u w') :
  Calls Tryz.prog 38 #[.pointer (some ⟨g,o,none⟩),.int .i64 to_] w fun e w'=>∃ D,e=.returned (.agg (dCel th no pr tg na mk nu m D e0 e1 e2 bg 0 st ah fr to_))/\Hid (Rr.DdAt w' w.heap.size D args m/\Bl w w'):=by
 have HC:=zH hc;have HD:=zH hD;have HB:=zH (below_alloc w Rr.dZ);obtain⟨c0,c1,c2,c3,c14,c17,c18,lt⟩:=HC.out _ HB.out;clear hc hD;go_enter Tryz.func38,Tryz.ntmps38
 go_upto_region 4 with(first
  | (refine wpList_store_row rfl 48 _ _ rfl u1.heap.size (dCel 0 0 0 tg na mk nu m D e0 e1 e2 0 0 st 0 0 0) rfl rfl _ _ (zN _ _) Rr.deedInfo rfl (ac0 ..) ?_;rw[World.setRow_alloc_new])
  | (go_at_call 248;refine(HD.out _ HB.out).mono ?_;rintro e u1 ⟨D,rfl,q1,q2⟩;have H1:=zH (And.intro q1 q2);clear q1 q2 HD c0 c1 c2 c3 c14 c17 c18 lt))
 obtain⟨g5,hg5⟩:∃ g5,u1.heap.size=g5:=⟨_,rfl⟩
 obtain⟨u2,hu2⟩:∃ u2,u2=u1.alloc (.cells (dCel 0 0 0 tg na mk nu m D e0 e1 e2 0 0 st 0 0 0) 48):=⟨_,rfl⟩
 rw[<- hu2,hg5];simp only[Act.put];have H2:Hid (TBox w u2 g5 D args m (dCel 0 0 0 tg na mk nu m D e0 e1 e2 0 0 st 0 0 0)):=by
  rw[hu2,<- hg5];exact⟨zN _ _,H1.out.1.on (below_alloc _ _),a20 H1.out.2 (below_alloc _ _),H1.out.2.size,⟨fun q=>absurd (H1.out.1.a.blw _ q) (by omega),fun q=>absurd (H1.out.1.r.blw _ q) (by omega),fun q=>absurd (H1.out.1.wr.blw _ q) (by omega),fun q=>absurd (H1.out.1.o.blw _ q) (by omega)⟩⟩
 clear hu2 hg5 H1
 go_cut [38] (fun _ wc=>Hid (TBox w wc g5 D args m (dCel th no pr tg na mk nu m D e0 e1 e2 0 0 st 0 0 0)))
 case first =>
  obtain⟨c0,c1,c2,c3,c14,c17,c18,lt⟩:=HC.out _ H2.out.old;have hne:¬ g=g5:=fun e=>by subst e;exact absurd H2.out.lo (Nat.not_le.2 (zL (HC.out _ (zF _ _)).lt (Nat.le_of_lt (by simp))))
  have hne':¬ g5=g:=fun e=>hne e.symm
  have k0:=(zR u2 g5 0 _ _ _ H2.out.box).trans (rfl:_=some (Value.int .i64 0));have k1:=(zR u2 g5 1 _ _ _ H2.out.box).trans (rfl:_=some (Value.int .i64 0));have k2:=(zR u2 g5 2 _ _ _ H2.out.box).trans (rfl:_=some (Value.int .i64 0));have j0:=zZ u2 g5 0 _ _ H2.out.box;have j1:=zZ u2 g5 1 _ _ H2.out.box;have j2:=zZ u2 g5 2 _ _ H2.out.box;refine a06 (fun u=>u.cell? ⟨g,o+1,none⟩=some (.int .i64 th)/\u.cell? ⟨g,o+2,none⟩=some (.int .i64 no)/\u.cell? ⟨g,o+3,none⟩=some (.int .i64 pr) )  ((0,true)::(1,true)::(2,true)::(3,true)::(4,true)::(5,true)::(6,true)::(7,true)::(8,true)::(9,true)::(10,true)::(11,true)::(12,true)::(13,true)::(14,true)::(15,true)::(16,false)::(17,true)::(18,false)::(19,true)::(20,false)::[])  Md.Cv.follows13 (by kernel_rfl) (fun _ _ _ _ _ h=>h)  ⟨c1,c2,c3⟩ ?_
  (repeat ((first | (refine a02 (v:=?_) rfl (by rfl) (fun wq hSq=>?_) ?_;rotate_left;(focus ((try dsimp only at hSq);go_simp;try with_reducible rfl))) | refine a03 rfl (by rfl) ?_);simp only[Act.put,zA,zB,zC]))
  (refine a04 rfl (by rfl) (fun KK hK=>?_);go_simp)
  have T0:=zH (H2.out.drew.set 0 (.int .i64 th) _ rfl);obtain⟨_,d1,d2,d3,_,_,_,_⟩:=HC.out _ T0.out.old;refine hK.out _ _ ⟨d1,d2,d3⟩ ?_
  (clear hK KK;try simp only[Act.put])
  clear d1 d2 d3
  (repeat ((first | (refine a02 (v:=?_) rfl (by rfl) (fun wq hSq=>?_) ?_;rotate_left;(focus ((try dsimp only at hSq);go_simp;try with_reducible rfl))) | refine a03 rfl (by rfl) ?_);simp only[Act.put,zA,zB,zC]))
  (refine a04 rfl (by rfl) (fun KK hK=>?_);go_simp)
  have T1:=zH (T0.out.set 1 (.int .i64 no) _ rfl);obtain⟨_,d1,d2,d3,_,_,_,_⟩:=HC.out _ T1.out.old;refine hK.out _ _ ⟨d1,d2,d3⟩ ?_
  (clear hK KK;try simp only[Act.put])
  clear d1 d2 d3
  (repeat ((first | (refine a02 (v:=?_) rfl (by rfl) (fun wq hSq=>?_) ?_;rotate_left;(focus ((try dsimp only at hSq);go_simp;try with_reducible rfl))) | refine a03 rfl (by rfl) ?_);simp only[Act.put,zA,zB,zC]))
  (refine a04 rfl (by rfl) (fun KK hK=>?_);go_simp)
  have T2:=zH (T1.out.set 2 (.int .i64 pr) _ rfl);obtain⟨_,d1,d2,d3,_,_,_,_⟩:=HC.out _ T2.out.old;refine hK.out _ _ ⟨d1,d2,d3⟩ ?_
  (clear hK KK;try simp only[Act.put])
  clear d1 d2 d3;refine a13 ?_;go_wp2_with fail
  go_meet
  exact T2.out
 case rest =>
  have H3:=hcut;clear H2
  go_upto_region 5 with fail
  go_cut [58] (fun _ wc2=>Hid (TBox w wc2 g5 D args m (dCel th no pr tg na mk nu m D e0 e1 e2 bg 0 st ah fr to_)))
  case first =>
   obtain⟨c0,c1,c2,c3,c14,c17,c18,lt⟩:=HC.out _ H3.out.old;have hne:¬ g=g5:=fun e=>by subst e;exact absurd H3.out.lo (Nat.not_le.2 (zL (HC.out _ (zF _ _)).lt (Nat.le_of_lt (by simp))))
   have hne':¬ g5=g:=fun e=>hne e.symm
   have k0:=(zR wc g5 13 _ _ _ H3.out.box).trans (rfl:_=some (Value.int .i64 0));have k1:=(zR wc g5 16 _ _ _ H3.out.box).trans (rfl:_=some (Value.int .i64 0));have k2:=(zR wc g5 17 _ _ _ H3.out.box).trans (rfl:_=some (Value.int .i64 0));have k3:=(zR wc g5 18 _ _ _ H3.out.box).trans (rfl:_=some (Value.int .i64 0));have j0:=zZ wc g5 13 _ _ H3.out.box;have j1:=zZ wc g5 16 _ _ H3.out.box;have j2:=zZ wc g5 17 _ _ H3.out.box;have j3:=zZ wc g5 18 _ _ H3.out.box;refine a06 (fun u=>u.cell? ⟨g,o+14,none⟩=some (.int .i64 bg)/\u.cell? ⟨g,o+17,none⟩=some (.int .i64 ah)/\u.cell? ⟨g,o+18,none⟩=some (.int .i64 fr) )  ((0,true)::(1,true)::(2,true)::(3,true)::(4,true)::(5,true)::(6,true)::(7,true)::(8,true)::(9,true)::(10,true)::(11,true)::(12,true)::(13,true)::(14,true)::(15,true)::(16,true)::(17,false)::(18,true)::(19,false)::(20,true)::(21,false)::(22,true)::(23,false)::[])  Md.Cv.follows13 (by kernel_rfl) (fun _ _ _ _ _ h=>h)  ⟨c14,c17,c18⟩ ?_
   (repeat ((first | (refine a02 (v:=?_) rfl (by rfl) (fun wq hSq=>?_) ?_;rotate_left;(focus ((try dsimp only at hSq);go_simp;try with_reducible rfl))) | refine a03 rfl (by rfl) ?_);simp only[Act.put,zA,zB,zC]))
   (refine a04 rfl (by rfl) (fun KK hK=>?_);go_simp)
   have T0:=zH (H3.out.drew.set 13 (.int .i64 bg) _ rfl);obtain⟨_,_,_,_,d14,d17,d18,_⟩:=HC.out _ T0.out.old;refine hK.out _ _ ⟨d14,d17,d18⟩ ?_
   (clear hK KK;try simp only[Act.put])
   clear d14 d17 d18
   (repeat ((first | (refine a02 (v:=?_) rfl (by rfl) (fun wq hSq=>?_) ?_;rotate_left;(focus ((try dsimp only at hSq);go_simp;try with_reducible rfl))) | refine a03 rfl (by rfl) ?_);simp only[Act.put,zA,zB,zC]))
   (refine a04 rfl (by rfl) (fun KK hK=>?_);go_simp)
   have T1:=zH (T0.out.set 16 (.int .i64 ah) _ rfl);obtain⟨_,_,_,_,d14,d17,d18,_⟩:=HC.out _ T1.out.old;refine hK.out _ _ ⟨d14,d17,d18⟩ ?_
   (clear hK KK;try simp only[Act.put])
   clear d14 d17 d18
   (repeat ((first | (refine a02 (v:=?_) rfl (by rfl) (fun wq hSq=>?_) ?_;rotate_left;(focus ((try dsimp only at hSq);go_simp;try with_reducible rfl))) | refine a03 rfl (by rfl) ?_);simp only[Act.put,zA,zB,zC]))
   (refine a04 rfl (by rfl) (fun KK hK=>?_);go_simp)
   have T2:=zH (T1.out.set 17 (.int .i64 fr) _ rfl);obtain⟨_,_,_,_,d14,d17,d18,_⟩:=HC.out _ T2.out.old;refine hK.out _ _ ⟨d14,d17,d18⟩ ?_
   (clear hK KK;try simp only[Act.put])
   clear d14 d17 d18
   (repeat ((first | (refine a02 (v:=?_) rfl (by rfl) (fun wq hSq=>?_) ?_;rotate_left;(focus ((try dsimp only at hSq);go_simp;try with_reducible rfl))) | refine a03 rfl (by rfl) ?_);simp only[Act.put,zA,zB,zC]))
   (refine a04 rfl (by rfl) (fun KK hK=>?_);go_simp)
   have T3:=zH (T2.out.set 18 (.int .i64 to_) _ rfl);obtain⟨_,_,_,_,d14,d17,d18,_⟩:=HC.out _ T3.out.old;refine hK.out _ _ ⟨d14,d17,d18⟩ ?_
   (clear hK KK;try simp only[Act.put])
   clear d14 d17 d18;refine a13 ?_;go_wp2_with fail
   go_meet
   exact T3.out
  case rest =>
   rename_i wx
   have H4:=hcut;clear H3 HC
   go_wp2_with (first
    | (refine wpList_load_row rfl 48 _ rfl g5 rfl _ _ _ _ H4.out.box Tryz.underlying48 rfl Rr.deedInfo ?_)
    | (refine wpList_store_row rfl 48 _ _ rfl w.heap.size (dCel th no pr tg na mk nu m D e0 e1 e2 bg 0 st ah fr to_) rfl rfl _ _ H4.out.res Rr.deedInfo rfl (ac0 ..) ?_))
   exact as6 rfl w.heap.size rfl (setRow_heap _ _ _ _ _ _ H4.out.res) rfl ⟨D,rfl,H4.out.done⟩
theorem bH4 {tg:Int} {na:Nat} {mk nu:Int} {m:Mac} {e0 e1 e2 st:Int} {args:List Nat} (hc:∀ u,Bl w u->UpC u g o (.iface 146 (.pointer (some ⟨b,0,none⟩))) th no pr bg ah fr) (hD:∀ u,Bl w u->Calls Tryz.prog 84 #[.pointer (some ⟨b,0,none⟩)] u fun e w'=>∃ D,e=.returned (.agg (dCel 0 0 0 tg na mk nu m D e0 e1 e2 0 0 st 0 0 0))/\Rr.DdAt w' u.heap.size D args m/\Bl u w') :
  Calls Tryz.prog 38 #[.pointer (some ⟨g,o,none⟩),.int .i64 to_] w fun e w'=>∃ D,e=.returned (.agg (dCel th no pr tg na mk nu m D e0 e1 e2 bg 0 st ah fr to_))/\Hid (Rr.DdAt w' w.heap.size D args m/\Bl w w'):=by
 have HC:=zH hc;have HD:=zH hD;have HB:=zH (below_alloc w Rr.dZ);obtain⟨c0,c1,c2,c3,c14,c17,c18,lt⟩:=HC.out _ HB.out;clear hc hD;go_enter Tryz.func38,Tryz.ntmps38
 go_upto_region 4 with(first
  | (refine wpList_store_row rfl 48 _ _ rfl u1.heap.size (dCel 0 0 0 tg na mk nu m D e0 e1 e2 0 0 st 0 0 0) rfl rfl _ _ (zN _ _) Rr.deedInfo rfl (ac0 ..) ?_;rw[World.setRow_alloc_new])
  | (go_at_call 84;refine(HD.out _ HB.out).mono ?_;rintro e u1 ⟨D,rfl,q1,q2⟩;have H1:=zH (And.intro q1 q2);clear q1 q2 HD c0 c1 c2 c3 c14 c17 c18 lt))
 obtain⟨g5,hg5⟩:∃ g5,u1.heap.size=g5:=⟨_,rfl⟩
 obtain⟨u2,hu2⟩:∃ u2,u2=u1.alloc (.cells (dCel 0 0 0 tg na mk nu m D e0 e1 e2 0 0 st 0 0 0) 48):=⟨_,rfl⟩
 rw[<- hu2,hg5];simp only[Act.put];have H2:Hid (TBox w u2 g5 D args m (dCel 0 0 0 tg na mk nu m D e0 e1 e2 0 0 st 0 0 0)):=by
  rw[hu2,<- hg5];exact⟨zN _ _,H1.out.1.on (below_alloc _ _),a20 H1.out.2 (below_alloc _ _),H1.out.2.size,⟨fun q=>absurd (H1.out.1.a.blw _ q) (by omega),fun q=>absurd (H1.out.1.r.blw _ q) (by omega),fun q=>absurd (H1.out.1.wr.blw _ q) (by omega),fun q=>absurd (H1.out.1.o.blw _ q) (by omega)⟩⟩
 clear hu2 hg5 H1
 go_cut [38] (fun _ wc=>Hid (TBox w wc g5 D args m (dCel th no pr tg na mk nu m D e0 e1 e2 0 0 st 0 0 0)))
 case first =>
  obtain⟨c0,c1,c2,c3,c14,c17,c18,lt⟩:=HC.out _ H2.out.old;have hne:¬ g=g5:=fun e=>by subst e;exact absurd H2.out.lo (Nat.not_le.2 (zL (HC.out _ (zF _ _)).lt (Nat.le_of_lt (by simp))))
  have hne':¬ g5=g:=fun e=>hne e.symm
  have k0:=(zR u2 g5 0 _ _ _ H2.out.box).trans (rfl:_=some (Value.int .i64 0));have k1:=(zR u2 g5 1 _ _ _ H2.out.box).trans (rfl:_=some (Value.int .i64 0));have k2:=(zR u2 g5 2 _ _ _ H2.out.box).trans (rfl:_=some (Value.int .i64 0));have j0:=zZ u2 g5 0 _ _ H2.out.box;have j1:=zZ u2 g5 1 _ _ H2.out.box;have j2:=zZ u2 g5 2 _ _ H2.out.box;refine a06 (fun u=>u.cell? ⟨g,o+1,none⟩=some (.int .i64 th)/\u.cell? ⟨g,o+2,none⟩=some (.int .i64 no)/\u.cell? ⟨g,o+3,none⟩=some (.int .i64 pr) )  ((0,true)::(1,true)::(2,true)::(3,true)::(4,true)::(5,true)::(6,true)::(7,true)::(8,true)::(9,true)::(10,true)::(11,true)::(12,true)::(13,true)::(14,true)::(15,true)::(16,false)::(17,true)::(18,false)::(19,true)::(20,false)::[])  Md.Cv.follows13 (by kernel_rfl) (fun _ _ _ _ _ h=>h)  ⟨c1,c2,c3⟩ ?_
  (repeat ((first | (refine a02 (v:=?_) rfl (by rfl) (fun wq hSq=>?_) ?_;rotate_left;(focus ((try dsimp only at hSq);go_simp;try with_reducible rfl))) | refine a03 rfl (by rfl) ?_);simp only[Act.put,zA,zB,zC]))
  (refine a04 rfl (by rfl) (fun KK hK=>?_);go_simp)
  have T0:=zH (H2.out.drew.set 0 (.int .i64 th) _ rfl);obtain⟨_,d1,d2,d3,_,_,_,_⟩:=HC.out _ T0.out.old;refine hK.out _ _ ⟨d1,d2,d3⟩ ?_
  (clear hK KK;try simp only[Act.put])
  clear d1 d2 d3
  (repeat ((first | (refine a02 (v:=?_) rfl (by rfl) (fun wq hSq=>?_) ?_;rotate_left;(focus ((try dsimp only at hSq);go_simp;try with_reducible rfl))) | refine a03 rfl (by rfl) ?_);simp only[Act.put,zA,zB,zC]))
  (refine a04 rfl (by rfl) (fun KK hK=>?_);go_simp)
  have T1:=zH (T0.out.set 1 (.int .i64 no) _ rfl);obtain⟨_,d1,d2,d3,_,_,_,_⟩:=HC.out _ T1.out.old;refine hK.out _ _ ⟨d1,d2,d3⟩ ?_
  (clear hK KK;try simp only[Act.put])
  clear d1 d2 d3
  (repeat ((first | (refine a02 (v:=?_) rfl (by rfl) (fun wq hSq=>?_) ?_;rotate_left;(focus ((try dsimp only at hSq);go_simp;try with_reducible rfl))) | refine a03 rfl (by rfl) ?_);simp only[Act.put,zA,zB,zC]))
  (refine a04 rfl (by rfl) (fun KK hK=>?_);go_simp)
  have T2:=zH (T1.out.set 2 (.int .i64 pr) _ rfl);obtain⟨_,d1,d2,d3,_,_,_,_⟩:=HC.out _ T2.out.old;refine hK.out _ _ ⟨d1,d2,d3⟩ ?_
  (clear hK KK;try simp only[Act.put])
  clear d1 d2 d3;refine a13 ?_;go_wp2_with fail
  go_meet
  exact T2.out
 case rest =>
  have H3:=hcut;clear H2
  go_upto_region 5 with fail
  go_cut [58] (fun _ wc2=>Hid (TBox w wc2 g5 D args m (dCel th no pr tg na mk nu m D e0 e1 e2 bg 0 st ah fr to_)))
  case first =>
   obtain⟨c0,c1,c2,c3,c14,c17,c18,lt⟩:=HC.out _ H3.out.old;have hne:¬ g=g5:=fun e=>by subst e;exact absurd H3.out.lo (Nat.not_le.2 (zL (HC.out _ (zF _ _)).lt (Nat.le_of_lt (by simp))))
   have hne':¬ g5=g:=fun e=>hne e.symm
   have k0:=(zR wc g5 13 _ _ _ H3.out.box).trans (rfl:_=some (Value.int .i64 0));have k1:=(zR wc g5 16 _ _ _ H3.out.box).trans (rfl:_=some (Value.int .i64 0));have k2:=(zR wc g5 17 _ _ _ H3.out.box).trans (rfl:_=some (Value.int .i64 0));have k3:=(zR wc g5 18 _ _ _ H3.out.box).trans (rfl:_=some (Value.int .i64 0));have j0:=zZ wc g5 13 _ _ H3.out.box;have j1:=zZ wc g5 16 _ _ H3.out.box;have j2:=zZ wc g5 17 _ _ H3.out.box;have j3:=zZ wc g5 18 _ _ H3.out.box;refine a06 (fun u=>u.cell? ⟨g,o+14,none⟩=some (.int .i64 bg)/\u.cell? ⟨g,o+17,none⟩=some (.int .i64 ah)/\u.cell? ⟨g,o+18,none⟩=some (.int .i64 fr) )  ((0,true)::(1,true)::(2,true)::(3,true)::(4,true)::(5,true)::(6,true)::(7,true)::(8,true)::(9,true)::(10,true)::(11,true)::(12,true)::(13,true)::(14,true)::(15,true)::(16,true)::(17,false)::(18,true)::(19,false)::(20,true)::(21,false)::(22,true)::(23,false)::[])  Md.Cv.follows13 (by kernel_rfl) (fun _ _ _ _ _ h=>h)  ⟨c14,c17,c18⟩ ?_
   (repeat ((first | (refine a02 (v:=?_) rfl (by rfl) (fun wq hSq=>?_) ?_;rotate_left;(focus ((try dsimp only at hSq);go_simp;try with_reducible rfl))) | refine a03 rfl (by rfl) ?_);simp only[Act.put,zA,zB,zC]))
   (refine a04 rfl (by rfl) (fun KK hK=>?_);go_simp)
   have T0:=zH (H3.out.drew.set 13 (.int .i64 bg) _ rfl);obtain⟨_,_,_,_,d14,d17,d18,_⟩:=HC.out _ T0.out.old;refine hK.out _ _ ⟨d14,d17,d18⟩ ?_
   (clear hK KK;try simp only[Act.put])
   clear d14 d17 d18
   (repeat ((first | (refine a02 (v:=?_) rfl (by rfl) (fun wq hSq=>?_) ?_;rotate_left;(focus ((try dsimp only at hSq);go_simp;try with_reducible rfl))) | refine a03 rfl (by rfl) ?_);simp only[Act.put,zA,zB,zC]))
   (refine a04 rfl (by rfl) (fun KK hK=>?_);go_simp)
   have T1:=zH (T0.out.set 16 (.int .i64 ah) _ rfl);obtain⟨_,_,_,_,d14,d17,d18,_⟩:=HC.out _ T1.out.old;refine hK.out _ _ ⟨d14,d17,d18⟩ ?_
   (clear hK KK;try simp only[Act.put])
   clear d14 d17 d18
   (repeat ((first | (refine a02 (v:=?_) rfl (by rfl) (fun wq hSq=>?_) ?_;rotate_left;(focus ((try dsimp only at hSq);go_simp;try with_reducible rfl))) | refine a03 rfl (by rfl) ?_);simp only[Act.put,zA,zB,zC]))
   (refine a04 rfl (by rfl) (fun KK hK=>?_);go_simp)
   have T2:=zH (T1.out.set 17 (.int .i64 fr) _ rfl);obtain⟨_,_,_,_,d14,d17,d18,_⟩:=HC.out _ T2.out.old;refine hK.out _ _ ⟨d14,d17,d18⟩ ?_
   (clear hK KK;try simp only[Act.put])
   clear d14 d17 d18
   (repeat ((first | (refine a02 (v:=?_) rfl (by rfl) (fun wq hSq=>?_) ?_;rotate_left;(focus ((try dsimp only at hSq);go_simp;try with_reducible rfl))) | refine a03 rfl (by rfl) ?_);simp only[Act.put,zA,zB,zC]))
   (refine a04 rfl (by rfl) (fun KK hK=>?_);go_simp)
   have T3:=zH (T2.out.set 18 (.int .i64 to_) _ rfl);obtain⟨_,_,_,_,d14,d17,d18,_⟩:=HC.out _ T3.out.old;refine hK.out _ _ ⟨d14,d17,d18⟩ ?_
   (clear hK KK;try simp only[Act.put])
   clear d14 d17 d18;refine a13 ?_;go_wp2_with fail
   go_meet
   exact T3.out
  case rest =>
   rename_i wx
   have H4:=hcut;clear H3 HC
   go_wp2_with (first
    | (refine wpList_load_row rfl 48 _ rfl g5 rfl _ _ _ _ H4.out.box Tryz.underlying48 rfl Rr.deedInfo ?_)
    | (refine wpList_store_row rfl 48 _ _ rfl w.heap.size (dCel th no pr tg na mk nu m D e0 e1 e2 bg 0 st ah fr to_) rfl rfl _ _ H4.out.res Rr.deedInfo rfl (ac0 ..) ?_))
   exact as6 rfl w.heap.size rfl (setRow_heap _ _ _ _ _ _ H4.out.res) rfl ⟨D,rfl,H4.out.done⟩
theorem bb2 (h:TxAt w b G K y) (hI:TIn s t N y) (hc:∀ u,Bl w u->UpC u g o (txV y b) th no pr bg ah fr):Calls Tryz.prog 38 #[.pointer (some ⟨g,o,none⟩),.int .i64 to_] w fun e w'=>∃ D,e=.returned (.agg (dTx y D th no pr bg 0 ah fr to_))/\Hid (Rr.DdAt w' w.heap.size D (af8 y) (macT y)/\Bl w w'):=by
 rcases y with⟨m,x⟩ | ⟨m,x⟩
 ·exact bH3 hc fun u hu=>aP0 (h.on hu) hI
 ·exact bH4 hc fun u hu=>aP0 (h.on hu) hI
end
section
variable {w u:World} {th no pr tg:Int} {na:Nat} {mk nu:Int} {m:Mac} {D:Rr.Dd} {e0 e1 e2 bg en st ah fr to_:Int} {args:List Nat}
structure OBox (w u:World) (c:Array Value):Prop where
 box:u.heap[w.heap.size]?=some (.cells c 48 (0,0))
 bl:Bl w u
 res:u.heap[w.heap.size+1]?=some Rr.dZ
theorem OBox.on {u':World} {c:Array Value} (h:OBox w u c) (k:Bl u u'):OBox w u' c:=⟨(k.block _ (lt_of_block h.box)).trans h.box,h.bl.trans (k.mono h.bl.size),(k.block _ (lt_of_block h.res)).trans h.res⟩
theorem OBox.set {c:Array Value} (h:OBox w u c) (j:Nat) (x:Value) (c':Array Value) (e:c.setIfInBounds j x=c'):OBox w (u.setCell ⟨w.heap.size,j,none⟩ x) c' :=
 ⟨by rw[<- e];exact zS u _ j _ _ x h.box,h.bl.setCell (zE _) _,(zO _ _ _ _ (by show w.heap.size+1≠w.heap.size;omega)).trans h.res⟩
theorem OBox.cell {c:Array Value} (h:OBox w u c) (j:Nat):u.cell? ⟨w.heap.size,j,none⟩=c[j]?:=zR _ _ _ _ _ _ h.box
theorem OBox.free {c:Array Value} (h:OBox w u c) (j:Nat):u.frozen? ⟨w.heap.size,j,none⟩=false:=zZ _ _ _ _ _ h.box
theorem aO1 {u':World} {p:Option Addr} {c g j:Nat} {xs:List Value} {x:Value} (h:RowAt 49 u p c xs) (hn:g∉fpR p) (k:Below (u.setCell ⟨g,j,none⟩ x).heap.size (u.setCell ⟨g,j,none⟩ x) u'):RowAt 49 u' p c xs:=(h.keep (ae8 hn)).on k
theorem aO7 {u':World} {p:Option Addr} {c g j:Nat} {xs:Wr} {x:Value} (h:TRow u p c xs) (hn:g∉fpR p) (k:Below (u.setCell ⟨g,j,none⟩ x).heap.size (u.setCell ⟨g,j,none⟩ x) u'):TRow u' p c xs:=(h.keep (ae8 hn)).on k
theorem aN4 (h:Rr.DdAt w 0 D args m) (hn:args.length=na) (b0:na<=1024) (b1:m.reads.length<=1024) (b2:m.buf.length<=1024) (b3:m.out.length<=1024):Calls Tryz.prog 66 #[.agg (dCel th no pr tg na mk nu m D e0 e1 e2 bg en st ah fr to_)] w fun e w'=>∃ D',e=.returned (.agg (dCel th no pr tg na mk nu m D' e0 e1 e2 bg en st ah fr to_))/\Hid (Rr.DdAt w' w.heap.size D' args m/\Bl w w'):=by
 have HA:Hid (∀ u,Bl w u->Calls Tryz.prog 59 #[.slice D.pa na D.ca] u fun e w'=>∃ p' c',e=.returned (.slice p' na c')/\RowAt 49 w' p' c' (fls args)/\Abv u.heap.size (fpR p')/\Bl u w'):=fun u hu=>am7 (h.a.keep (a27 hu h.a.blw)) hn b0
 have HR:Hid (∀ u,Bl w u->Calls Tryz.prog 79 #[.slice D.pr m.reads.length D.cr] u fun e w'=>∃ p' c',e=.returned (.slice p' m.reads.length c')/\TRow w' p' c' m.reads/\Abv u.heap.size (fpR p')/\Bl u w'):=fun u hu=>aq1 (h.r.keep (a27 hu h.r.blw)) rfl b1
 have HW:Hid (∀ u,Bl w u->Calls Tryz.prog 79 #[.slice D.pw m.buf.length D.cw] u fun e w'=>∃ p' c',e=.returned (.slice p' m.buf.length c')/\TRow w' p' c' m.buf/\Abv u.heap.size (fpR p')/\Bl u w'):=fun u hu=>aq1 (h.wr.keep (a27 hu h.wr.blw)) rfl b2
 have HO:Hid (∀ u,Bl w u->Calls Tryz.prog 59 #[.slice D.po m.out.length D.co] u fun e w'=>∃ p' c',e=.returned (.slice p' m.out.length c')/\RowAt 49 w' p' c' (fls m.out)/\Abv u.heap.size (fpR p')/\Bl u w'):=fun u hu=>am7 (h.o.keep (a27 hu h.o.blw)) rfl b3
 have X0:Hid (OBox w ((w.alloc (.cells (dCel th no pr tg na mk nu m D e0 e1 e2 bg en st ah fr to_) 48)).alloc Rr.dZ) (dCel th no pr tg na mk nu m D e0 e1 e2 bg en st ah fr to_)):=⟨Rr.heap_old (zN _ _),ay6 _ _ _,aa4 (by simp)⟩;have k4:=(X0.out.cell 4).trans (rfl:_=some (Value.slice D.pa na D.ca));clear h hn b0 b1 b2 b3;go_enter Tryz.func66,Tryz.ntmps66
 go_wp2_with (first
  | (refine wpList_load_row rfl 48 _ rfl w.heap.size rfl _ _ _ _ X4.out.box Tryz.underlying48 rfl Rr.deedInfo ?_;clear k9 j9)
  | (refine wpList_store_row rfl 48 _ _ rfl (w.heap.size+1) (dCel th no pr tg na mk nu m ⟨p1,c1,p2,c2,p3,c3,p4,c4⟩ e0 e1 e2 bg en st ah fr to_) rfl rfl _ _ X4.out.res Rr.deedInfo rfl (ac0 ..) ?_)
  | (go_at_call 59;refine(HO.out _ X3.out.bl).mono ?_;rintro e u4 ⟨p4,c4,rfl,q1,q2,q3⟩;have A4:=zH (And.intro q1 (And.intro q2 q3));have Y4:=X3.out.on q3;have X4:=zH (Y4.set 9 (.slice p4 m.out.length c4) (dCel th no pr tg na mk nu m ⟨p1,c1,p2,c2,p3,c3,p4,c4⟩ e0 e1 e2 bg en st ah fr to_) rfl);clear k9 j9;have k9:=(Y4.cell 9).trans (rfl:_=some (Value.slice D.po m.out.length D.co));have j9:=Y4.free 9;clear q1 q2 q3 Y4 HO)
  | (go_at_call 79;refine(HW.out _ X2.out.bl).mono ?_;rintro e u3 ⟨p3,c3,rfl,q1,q2,q3⟩;have A3:=zH (And.intro q1 (And.intro q2 q3));have Y3:=X2.out.on q3;have X3:=zH (Y3.set 8 (.slice p3 m.buf.length c3) (dCel th no pr tg na mk nu m ⟨p1,c1,p2,c2,p3,c3,D.po,D.co⟩ e0 e1 e2 bg en st ah fr to_) rfl);clear k8 j8;have k8:=(Y3.cell 8).trans (rfl:_=some (Value.slice D.pw m.buf.length D.cw));have j8:=Y3.free 8;have k9:=(Y3.cell 9).trans (rfl:_=some (Value.slice D.po m.out.length D.co));have j9:=Y3.free 9;clear q1 q2 q3 Y3 HW)
  | (go_at_call 79;refine(HR.out _ X1.out.bl).mono ?_;rintro e u2 ⟨p2,c2,rfl,q1,q2,q3⟩;have A2:=zH (And.intro q1 (And.intro q2 q3));have Y2:=X1.out.on q3;have X2:=zH (Y2.set 7 (.slice p2 m.reads.length c2) (dCel th no pr tg na mk nu m ⟨p1,c1,p2,c2,D.pw,D.cw,D.po,D.co⟩ e0 e1 e2 bg en st ah fr to_) rfl);clear k7 j7;have k7:=(Y2.cell 7).trans (rfl:_=some (Value.slice D.pr m.reads.length D.cr));have j7:=Y2.free 7;have k8:=(Y2.cell 8).trans (rfl:_=some (Value.slice D.pw m.buf.length D.cw));have j8:=Y2.free 8;clear q1 q2 q3 Y2 HR)
  | (go_at_call 59;refine(HA.out _ X0.out.bl).mono ?_;rintro e u1 ⟨p1,c1,rfl,q1,q2,q3⟩;have A1:=zH (And.intro q1 (And.intro q2 q3));have Y1:=X0.out.on q3;have X1:=zH (Y1.set 4 (.slice p1 na c1) (dCel th no pr tg na mk nu m ⟨p1,c1,D.pr,D.cr,D.pw,D.cw,D.po,D.co⟩ e0 e1 e2 bg en st ah fr to_) rfl);clear k4;have k4:=(Y1.cell 4).trans (rfl:_=some (Value.slice D.pa na D.ca));have j4:=Y1.free 4;have k7:=(Y1.cell 7).trans (rfl:_=some (Value.slice D.pr m.reads.length D.cr));have j7:=Y1.free 7;clear q1 q2 q3 Y1 HA))
 refine as6 (D:=⟨p1,c1,p2,c2,p3,c3,p4,c4⟩) rfl (w.heap.size+1) rfl (setRow_heap _ _ _ _ _ _ X4.out.res) rfl ⟨_,rfl,?_⟩;obtain⟨a1,b1,d1⟩:=A1.out;obtain⟨a2,b2,d2⟩:=A2.out;obtain⟨a3,b3,d3⟩:=A3.out;obtain⟨a4,b4,d4⟩:=A4.out;have s1:=d1.size;have s2:=d2.size;have s3:=d3.size;simp only[Array.size_push,World.alloc]at b1 s1;have Z:∀ (u:World) (a:Addr) (x:Value),(u.setCell a x).heap.size=u.heap.size:=fun u a x=>by simp
 rw[Z]at b2 b3 b4 s2 s3;have N:∀ {p:Option Addr} {B:Nat},Abv B (fpR p)->w.heap.size+2<=B->w.heap.size∉fpR p/\w.heap.size+1∉fpR p/\Abv w.heap.size (fpR p):=fun h hB=>⟨fun q=>by have:=h _ q;omega,fun q=>by have:=h _ q;omega,h.mono (by omega)⟩
 have n1:=N b1 (by omega);have n2:=N b2 (by omega);have n3:=N b3 (by omega);have n4:=N b4 (by omega);have e1:=aO1 (aO1 (aO1 a1 n1.1 d2) n1.1 d3) n1.1 d4;have e2:=aO7 (aO7 a2 n2.1 d3) n2.1 d4;have e3:=aO7 a3 n3.1 d4;exact⟨⟨(e1.keep (ae8 n1.1)).keep (a96 n1.2.1),(e2.keep (ae8 n2.1)).keep (a96 n2.2.1),(e3.keep (ae8 n3.1)).keep (a96 n3.2.1),(a4.keep (ae8 n4.1)).keep (a96 n4.2.1),n1.2.2,n2.2.2,n3.2.2,n4.2.2⟩,Md.Ce.bl_setRow X4.out.bl (by omega) _⟩
end
end Go.Proofs.YtipakfjpfjehmaaGreatDoor.En
namespace Go.Proofs.YtipakfjpfjehmaaGreatDoor.Sd
open Go.ChangeShapes Go.WideShapes Go.ChangeAt Go.RowKit
section
variable {w:World} {b:Nat} {m:Rd}
theorem step_in (h:RdAt w b m) (k:Nat) (hk:k<m.n) (hn:m.n<=8) (ho:m.o<9223372036854775807):Calls Tryz.prog 71 #[.pointer (some ⟨b,0,none⟩),.int .i64 (k:Int)] w fun e w'=>e=.returned (.int .i64 0)/\RdAt w' b (stepN m k)/\Turn [b] [b] w w':=by
 have H1:=zH (aa2 h (k:Int));have e:hasT m (k:Int)=true:=zT ⟨by omega,by omega⟩;rw[e]at H1;have hk8:k<8:=by omega
 have k8:(k:Int)<8:=by omega
 have hc:=h.cellG k hk8;have hs:=h.cellS k hk8;have hb:=h.lt;have hf:=h.free (9+k);have HA:=zH h;clear e hk hn
 cases hg:m.g k
 ·have e:stepN m k=m:=by simp[stepN,hg]
  rw[e];rw[hg]at hc;clear e h;go_enter Tryz.func71,Tryz.ntmps71
  go_wp2_with (go_at_call 76;refine H1.out.mono ?_;rintro e w1 ⟨rfl,hw⟩;subst w1)
  go_ret;exact⟨rfl,HA.out,Turn.refl _ _⟩
 ·have e:stepN m k=settleM { m with s:=putF m.s k true }:=by simp[stepN,hg]
  rw[e];rw[hg]at hc;have HS:=zH (aB0 (h.setS k hk8 true) ho);have HT:=zH (a26 w b (9+k) (.bool true));clear e h;go_enter Tryz.func71,Tryz.ntmps71
  go_wp2_with (first
   | (go_at_call 76;refine H1.out.mono ?_;rintro e w1 ⟨rfl,hw⟩;subst w1)
   | (go_at_call 77;refine HS.out.mono ?_;rintro e w2 ⟨rfl,q1,q2⟩;have HQ:=zH (And.intro q1 (HT.out.trans q2));clear q1 q2))
  go_ret;exact⟨rfl,HQ.out.1,HQ.out.2⟩
theorem fin_in (h:RdAt w b m) (k:Nat) (hk:k<m.n) (hn:m.n<=8) (ho:m.o<9223372036854775807):Calls Tryz.prog 60 #[.pointer (some ⟨b,0,none⟩),.int .i64 (k:Int)] w fun e w'=>e=.returned (.int .i64 0)/\RdAt w' b (finN m k)/\Turn [b] [b] w w':=by
 have H1:=zH (aa2 h (k:Int));have e:hasT m (k:Int)=true:=zT ⟨by omega,by omega⟩;rw[e]at H1;have hk8:k<8:=by omega
 have k8:(k:Int)<8:=by omega
 have hc:=h.cellG k hk8;have hs:=h.cellS k hk8;have hb:=h.lt;have hf:=h.free (9+k);have hf2:=h.free (1+k);have HA:=zH h;clear e hk hn
 cases hg:m.g k
 ·have e:finN m k=m:=by simp[finN,hg]
  rw[e];rw[hg]at hc;clear e h;go_enter Tryz.func60,Tryz.ntmps60
  go_wp2_with (go_at_call 76;refine H1.out.mono ?_;rintro e w1 ⟨rfl,hw⟩;subst w1)
  go_ret;exact⟨rfl,HA.out,Turn.refl _ _⟩
 ·have e:finN m k=settleM { m with g:=putF m.g k false,s:=putF m.s k false }:=by simp[finN,hg]
  rw[e];rw[hg]at hc;have HS:Hid (∀ u,Same ((w.setCell ⟨b,1+k,none⟩ (.bool false)).setCell ⟨b,9+k,none⟩ (.bool false)) u->Calls Tryz.prog 77 #[.pointer (some ⟨b,0,none⟩)] u fun e w'=>e=.returned (.tuple #[])/\RdAt w' b (settleM { m with g:=putF m.g k false,s:=putF m.s k false })/\Turn [b] [b] w w'):=fun u hu=>(aB0 (((h.setG k hk8 false).setS k hk8 false).same hu) ho).mono fun e w' ⟨q1,q2,q3⟩=>⟨q1,q2,(((a26 w b (1+k) _).trans (a26 _ b (9+k) _)).trans (hu.turn _)).trans q3⟩
  clear e h;go_enter Tryz.func60,Tryz.ntmps60
  go_wp2_with (go_at_call 76;refine H1.out.mono ?_;rintro e w1 ⟨rfl,hw⟩;subst w1)
  go_region_held (fun _=>True) (go_keep) (fail)
  go_wp2_with (go_at_call 77;refine(HS.out _ (by first | exact Same.refl _ | exact⟨rfl,rfl,rfl,rfl⟩)).mono ?_;rintro e w2 ⟨rfl,q1,q2⟩;have HQ:=zH (And.intro q1 q2);clear q1 q2)
  go_ret;exact⟨rfl,HQ.out.1,HQ.out.2⟩
end
end Go.Proofs.YtipakfjpfjehmaaGreatDoor.Sd
namespace Go.Proofs.YtipakfjpfjehmaaGreatDoor.En
open Go.ChangeShapes Go.WideShapes Go.ChangeAt Go.RowKit Num Ww
open Rr (Rx a19 InX okW u64B Alike step_in newX a43)
theorem aR9:(Tryz.prog.info? 48).map (·.size)=some 19:=Rr.deedInfo
section
variable {w:World} {f:Ex} {v:Ev} {s:Su} {d:Ed} {i t g:Nat} {y:Ty} {N:Int} {th no pr bg ah fr st to_:Int} {K:List Nat}
theorem EnAt.upC (h:EnAt w f v s d) (hi:i<d.dn) (hp:v.pt=some ⟨g,0,none⟩) {x:Value} (e:d.tr i=trU x th no pr bg ah fr):UpC w g (i*20) x th no pr bg ah fr:=by
 obtain⟨g',e',_,A⟩:=h.arr (by omega);obtain rfl:g'=g:=by rw[hp]at e';injection e' with e';injection e' with e';exact e'.symm
 have C:∀ j,j<20->w.cell? ⟨g',i*20+j,none⟩=(d.tr i)[j]?:=fun j hj=>A.cell hi hj
 rw[e]at C;exact⟨(C 0 (by omega)).trans rfl,(C 1 (by omega)).trans rfl,(C 2 (by omega)).trans rfl,(C 3 (by omega)).trans rfl,(C 14 (by omega)).trans rfl,(C 17 (by omega)).trans rfl,(C 18 (by omega)).trans rfl,A.lt⟩
def fpD (D:Rr.Dd):List Nat:=fpR D.pa ++ fpR D.pr ++ fpR D.pw ++ fpR D.po
theorem mem_fpD {D:Rr.Dd} {k:Nat}:k∈fpD D ↔ k∈fpR D.pa∨k∈fpR D.pr∨k∈fpR D.pw∨k∈fpR D.po:=by
 simp only[fpD,List.mem_append,or_assoc]
theorem EnAt.tells (h:EnAt w f v s d) {w1:World} {D:Rr.Dd} {a:List Nat} {m:Mac} (hD:Rr.DdAt w1 w.heap.size D a m) (k:Bl w w1) :
  EnAt w1 f { v with R:=fpD D ++ v.R } s { d with L:=fun j=>if j=i then some (D,a,m) else d.L j }/\Ext f v { v with R:=fpD D ++ v.R } w w1:=by
 obtain⟨h1,x⟩:=h.grow k (L:=fpD D) (fun j hj=>by
  rcases mem_fpD.1 hj with q | q | q | q
  ·exact hD.xa j q
  ·exact hD.xr j q
  ·exact hD.xw j q
  ·exact hD.xo j q) (fun j hj=>by
  rcases mem_fpD.1 hj with q | q | q | q
  ·exact hD.a.blw j q
  ·exact hD.r.blw j q
  ·exact hD.wr.blw j q
  ·exact hD.o.blw j q)
 exact⟨h1.told i ⟨hD.mono (zV _),fun j hj=>List.mem_append.2 (.inl (mem_fpD.2 hj))⟩,x⟩
theorem aQ4 (y:Ty) (D:Rr.Dd) (th no pr bg en ah fr to_:Int):(dTx y D th no pr bg en ah fr to_).size=19:=by kernel_rfl
theorem bb3 (x:Value) (y:Ty) (D:Rr.Dd) (th no pr bg ah fr st to_:Int):((af2 (trU x th no pr bg ah fr) 1 (dTx y D th no pr bg 0 ah fr to_).toList).setIfInBounds 15 (.int .i64 st)).setIfInBounds 0 .nilIface=trO y D th no pr bg st ah fr to_:=by kernel_rfl
theorem aY2 (tr:Nat->Array Value) (i:Nat) (c:Array Value) (P Q:Array Value->Array Value):updA (updA (updA tr i c) i (P (updA tr i c i))) i (Q (updA (updA tr i c) i (P (updA tr i c i)) i))=updA tr i (Q (P c)):=by
 funext k
 by_cases q:k=i
 ·subst q
  rw[a25,a25,a25,a25]
 ·rw[a35 _ _ q,a35 _ _ q,a35 _ _ q,a35 _ _ q]
theorem b13 (h:EnAt w f v s d) (hi:i<d.dn) (hp:v.pt=some ⟨g,0,none⟩) (ht:d.T t=some y) (e:d.tr i=trU (txV y (v.tb t)) th no pr bg ah fr) (hI:TIn s t N y):Calls Tryz.prog 72 #[.pointer (some ⟨g,i*20,none⟩),.int .i64 st,.int .i64 to_] w fun r w'=>r=.returned (.tuple #[])/\Hid (∃ v' D,v'.pt=v.pt/\v'.tb=v.tb/\v'.G=v.G/\EnAt w' f v' s { d with tr:=updA d.tr i (trO y D th no pr bg st ah fr to_),L:=fun j=>if j=i then some (D,af8 y,macT y) else d.L j }/\Ext f v v' w w'):=by
 obtain⟨_,K,tx,hK⟩:=h.tx t y ht;have HT:=zH (bb2 (to_:=to_) tx hI fun u hu=>(h.on hu).upC hi hp e);have HM:Hid (v.ct<=maxLen):=by obtain⟨_,_,q,_⟩:=h.arr (by omega);exact q
 have HX:Hid (∀ w1 D,Rr.DdAt w1 w.heap.size D (af8 y) (macT y)->Bl w w1->∃ arr,w1.heap[g]?=some (.cells arr 94 (0,0))/\i*20+1+(dTx y D th no pr bg 0 ah fr to_).size<=arr.size/\(let w2:=w1.setRow g (af2 arr (i*20+1) (dTx y D th no pr bg 0 ah fr to_).toList);(∀ j,j<20->(∃ x,w2.cell? ⟨g,i*20+j,none⟩=some x)/\w2.frozen? ⟨g,i*20+j,none⟩=false)/\∀ w3,w3=(w2.setCell ⟨g,i*20+15,none⟩ (.int .i64 st)).setCell ⟨g,i*20,none⟩ .nilIface->∃ v' D,v'.pt=v.pt/\v'.tb=v.tb/\v'.G=v.G/\EnAt w3 f v' s { d with tr:=updA d.tr i (trO y D th no pr bg st ah fr to_),L:=fun j=>if j=i then some (D,af8 y,macT y) else d.L j }/\Ext f v v' w w3)):=fun w1 D hD k=>by
  obtain⟨h1,x1⟩:=h.tells (i:=i) hD k;obtain⟨g',e',hm,A⟩:=h1.arr (by show 0<d.dn;omega);obtain rfl:g'=g:=by
   have:v.pt=some ⟨g',0,none⟩:=e';rw[hp]at this;injection this with this;injection this with this;exact this.symm
  obtain⟨arr,a1,a2,a3⟩:=A.puts (i:=i) (j:=1) (cs:=dTx y D th no pr bg 0 ah fr to_) hi (by rw[aQ4];omega);obtain⟨h2,x2⟩:=h1.turned e' hm bo4 a3;refine⟨arr,a1,a2,⟨fun j hj=>⟨?_,a3.free _⟩,fun w3 hw3=>?_⟩⟩
  ·have z:=a3.sz i hi
   exact⟨_,(a3.cell hi hj).trans (Array.getElem?_eq_getElem (by omega))⟩
  ·obtain⟨h3,x3⟩:=h2.turned e' hm (a26 _ _ _ _) (a3.put hi (j:=15) (by omega) (.int .i64 st))
   obtain⟨h4,x4⟩:=h3.turned e' hm (a26 _ _ _ _) ((a3.put hi (j:=15) (by omega) (.int .i64 st)).put hi (j:=0) (by omega) .nilIface);subst hw3;refine⟨{ v with R:=fpD D ++ v.R },D,rfl,rfl,rfl,?_,((x1.trans x2).trans x3).trans x4⟩;have e5:=aY2 d.tr i (af2 (d.tr i) 1 (dTx y D th no pr bg 0 ah fr to_).toList) (fun c=>c.setIfInBounds 15 (.int .i64 st)) (fun c=>c.setIfInBounds 0 .nilIface);rw[e,bb3]at e5;rw[<- e5,<- e];exact h4
 clear h ht hI tx hK;go_enter Tryz.func72,Tryz.ntmps72
 go_wp2_with (first
  | (refine ay9 rfl 48 _ _ rfl g (i*20+1) (dTx y D th no pr bg 0 ah fr to_) rfl rfl _ arr a1 aR9 a2 (ac0 ..) ?_;simp only[Act.put];obtain⟨w2,hw2⟩:∃ w2,w2=w1.setRow g (af2 arr (i*20+1) (dTx y D th no pr bg 0 ah fr to_).toList):=⟨_,rfl⟩;rw[<- hw2]at HZ ⊢;obtain⟨⟨x15,c15⟩,f15⟩:=HZ.out.1 15 (by omega);obtain⟨⟨x0,c0⟩,f0⟩:=HZ.out.1 0 (by omega);have c15:w2.cell? ⟨g,i*20+1+14,none⟩=some x15:=c15;have f15:w2.frozen? ⟨g,i*20+1+14,none⟩=false:=f15;have c0:w2.cell? ⟨g,i*20,none⟩=some x0:=c0;have f0:w2.frozen? ⟨g,i*20,none⟩=false:=f0;clear hw2 a1 a2)
  | (go_at_call 38;refine HT.out.mono ?_;rintro r w1 ⟨D,rfl,q⟩;obtain⟨arr,a1,a2,a3,a4⟩:=HX.out w1 D q.out.1 q.out.2;have HZ:=zH (And.intro a3 a4);clear a3 a4 HT HX))
 go_end0
 exact⟨rfl,HZ.out.2 _ rfl⟩
theorem au1 {nc qc:Nat} {qa:Option Addr} {bgn go:Int} (h:EnAt w f v s d) (hs:SuIn s) (ht:t<s.n) (hn:d.rd.n=s.n) (ho:d.rd.o<9223372036854775807) (hc:d.cr t=#[.slice qa nc qc,.int .i64 bgn,.int .i64 go]):Calls Tryz.prog 33 #[.pointer (some ⟨f.b,0,none⟩),.int .i64 (t:Int)] w fun r w'=>r=.returned (.tuple #[])/\Hid (EnAt w' f v s { d with rd:=if finI bgn go nc then Sd.finN d.rd t else d.rd }/\Ext f v v w w'):=by
 have h8:s.n<=8:=by have:=hs.nb;have:=hs.b8;omega
 obtain⟨c0,c1,c2,lc⟩:=h.course ht hc;have HF:=zH (ad8 c0 c1 c2);have k13:=(h.cell 13).trans (rfl:_=some (Value.slice (some ⟨f.gc,0,none⟩) s.n s.n));have lb:=h.ltB;have hti:(t:Int)<(s.n:Int):=by omega
 have hlb:(s.n:Int)<=8:=by omega
 cases hf:finI bgn go nc with
 | false =>
  rw[hf]at HF;have HE:=zH (fun w' (k:Same w w')=>And.intro (h.same k) (Ext.of_below (f:=f) (v:=v) (k.below _)));clear h c0 c1 c2 hs hc hn ho;go_enter Tryz.func33,Tryz.ntmps33
  go_wp2_with (go_at_call 40;refine HF.out.mono ?_;rintro r w1 ⟨rfl,q⟩;have H1:=zH q;clear q)
  go_end0
  exact⟨rfl,HE.out _ H1.out⟩
 | true =>
  rw[hf]at HF;have HE:=zH (fun w' (k:Same w w')=>And.intro (h.same k) (Ext.of_below (f:=f) (v:=v) (k.below _)));have HR:Hid (∀ w1,Same w w1->Calls Tryz.prog 60 #[.pointer (some ⟨f.rb,0,none⟩),.int .i64 (t:Int)] w1 fun e w'=>e=.returned (.int .i64 0)/\Hid (EnAt w' f v s { d with rd:=Sd.finN d.rd t }/\Ext f v v w w')):=fun w1 k=>by
   have h1:=h.same k;refine(Sd.fin_in h1.rds t (by omega) (by omega) ho).mono ?_;rintro e w' ⟨rfl,q1,q2⟩;obtain⟨h2,x2⟩:=h1.setR q2 q1;exact⟨rfl,h2,(Ext.of_below (k.below _)).trans x2⟩
  have HC:Hid (∀ w1,Same w w1->w1.cell? ⟨f.b,12,none⟩=some (.pointer (some ⟨f.rb,0,none⟩))/\f.b<w1.heap.size):=fun w1 k=>⟨((h.same k).cell 12).trans rfl,(h.same k).ltB⟩
  clear h c0 c1 c2 hs hc hn ho;go_enter Tryz.func33,Tryz.ntmps33
  go_wp2_with (first
   | (go_at_call 60;refine(HR.out _ H1.out).mono ?_;rintro r w2 ⟨rfl,q⟩;have H2:=zH q.out;clear q)
   | (go_at_call 40;refine HF.out.mono ?_;rintro r w1 ⟨rfl,q⟩;have H1:=zH q;obtain⟨k12,lb1⟩:=HC.out _ q;clear q))
  go_end0
  exact⟨rfl,H2.out⟩
end
theorem ba9:(Tryz.prog.info? 94).map (fun i=>(i.zero,i.size,i.bytes))=some (some (.agg (trU .nilIface 0 0 0 0 0 0)),20,232):=by kernel_rfl
theorem bA5 (x:Value) (hx:x.oneCell'=true) (th no pr bg ah fr:Int):∀ u∈(trU x th no pr bg ah fr).toList,u.oneCell'=true:=fun u hu=>by
 simp only[trU,List.mem_cons,List.not_mem_nil,or_false]at hu
 rcases hu with rfl | rfl | rfl | rfl | rfl | rfl | rfl | rfl | rfl | rfl | rfl | rfl | rfl | rfl | rfl | rfl | rfl | rfl | rfl | rfl
 ·exact hx
 all_goals rfl
theorem b12 (w:World) (arr:Array Value) (T:TypeId):∀ (j:Nat) (u:Value),arr.toList[j]?=some u->(w.alloc (.cells arr T)).cell? ((⟨w.heap.size,0,none⟩:Addr).add j)=some u:=fun j u hj=>by
 rw[add_plain,zR _ _ _ _ _ _ (zN _ _),Nat.zero_add]
 simpa using hj
structure Nxt (w:World) (f:Ex) (s:Su) (t B:Nat) (qa:Option Addr) (x:Int × List Nat) (k gl np:Nat) (po ao:Option Addr) (co ca:Nat):Prop where
 at_:qa=some ⟨gl,0,none⟩
 x1:x.1=(k:Int)
 kp:k<s.pg.length
 c0:w.cell? ⟨gl,B*2,none⟩=some (.int .i64 (k:Int))
 c1:w.cell? ⟨gl,B*2+1,none⟩=some (.slice po x.2.length co)
 p0:w.cell? ⟨f.pp,k*2,none⟩=some (.int .i64 (s.prog x.1).1)
 p1:w.cell? ⟨f.pp,k*2+1,none⟩=some (.slice ao np ca)
 len:(s.prog x.1).2.length=np
 lp:np<=9223372036854775807
 code:a39 w ao (s.prog x.1).2
 args:FlAt w po x.2
 lg:gl<w.heap.size
 lf:f.pp<w.heap.size
section
variable {w w':World} {f:Ex} {v:Ev} {s:Su} {d:Ed} {t B:Nat} {qa:Option Addr} {qc:Nat}
theorem Nxt.on {x:Int × List Nat} {k gl np:Nat} {po ao:Option Addr} {co ca:Nat} (h:Nxt w f s t B qa x k gl np po ao co ca) (q:Bl w w'):Nxt w' f s t B qa x k gl np po ao co ca :=
 ⟨h.at_,h.x1,h.kp,(q.cell (p:=⟨gl,_,none⟩) h.lg).trans h.c0,(q.cell (p:=⟨gl,_,none⟩) h.lg).trans h.c1,(q.cell (p:=⟨f.pp,_,none⟩) h.lf).trans h.p0,(q.cell (p:=⟨f.pp,_,none⟩) h.lf).trans h.p1,h.len,h.lp,h.code.on q,h.args.on q,zL h.lg q.size,zL h.lf q.size⟩
theorem EnAt.next (h:EnAt w f v s d) (hs:SuIn s) (ht:t<s.n) (hB:B<(s.cs t).length) {c1 c2:Value} (hc:d.cr t=#[.slice qa (s.cs t).length qc,c1,c2]):∃ k gl np po ao co ca,Nxt w f s t B qa (s.call t B) k gl np po ao co ca:=by
 obtain⟨_,_,a3,a4⟩:=hs.args hB;obtain⟨qa',qc',e,q⟩:=h.fx.cls t ht;rw[hc]at e;have e:Value.slice qa (s.cs t).length qc=.slice qa' (s.cs t).length qc':=Option.some.inj e;injection e with e1 _ _;subst e1;obtain⟨gl,g1,g2,g3,po,co,g4,g5,g6⟩:=q B hB;have hk:(s.call t B).1.toNat<s.pg.length:=by omega
 obtain⟨p1,p2,ao,ca,p3,p4,p5,p6⟩:=h.fx.prg _ hk;have e:(s.call t B).1=((s.call t B).1.toNat:Int):=by omega
 have ep:s.prog (s.call t B).1=s.pg.getD (s.call t B).1.toNat (0,[]):=rfl;exact⟨_,gl,_,po,ao,co,ca,g1,e,hk,by rw[<- e];exact g3,g4,by rw[ep];exact p2,p3,by rw[ep],p6,by rw[ep];exact p4,g5,h.blR _ g2,h.blR _ p1⟩
theorem b01 (h:EnAt w f v s d) (hs:SuIn s) (ht:t<s.n) (hB:B<(s.cs t).length) (hc:d.cr t=#[.slice qa (s.cs t).length qc,.int .i64 (B:Int),.int .i64 (-1)]) (hT:d.T t=none) (hdn:d.dn<=512):Calls Tryz.prog 45 #[.pointer (some ⟨f.b,0,none⟩),.int .i64 (t:Int)] w fun r w'=>r=.returned (.tuple #[])/\Hid (∃ v' bx,v'.tb=updN v.tb t bx/\EnAt w' f v' s { d with T:=upT d.T t (some (newT s t (s.call t B))),dn:=d.dn+1,tr:=updA d.tr d.dn (trU (txV (newT s t (s.call t B)) bx) t B (s.call t B).1 d.N 0 d.rd.o),cr:=updA d.cr t #[.slice qa (s.cs t).length qc,.int .i64 ((B+1:Nat):Int),.int .i64 (d.dn:Int)] }/\Ext f v v' w w'):=by
 have h8:(s.n:Int)<=8:=by have:=hs.nb;have:=hs.b8;omega
 have hti:(t:Int)<(s.n:Int):=by omega
 have hBn:(B:Int)<((s.cs t).length:Int):=by omega
 have hB64:(s.cs t).length<=64:=hs.few t;have hp64:(s.pg.length:Int)<=64:=by have:=hs.pl;omega
 obtain⟨c0,c1,c2,lc⟩:=h.course ht hc;have k13:=(h.cell 13).trans (rfl:_=some (Value.slice (some ⟨f.gc,0,none⟩) s.n s.n));have lb:=h.ltB;obtain⟨k,gl,np,po,ao,co,ca,X⟩:=h.next hs ht hB hc;have HX:=zH X;obtain⟨nl,hnl⟩:∃ nl,(s.cs t).length=nl:=⟨_,rfl⟩
 rw[hnl]at c0 hBn;have eqa:=X.at_;rw[eqa]at c0;have x0:=X.c0;have x1:=X.c1;have lg:=X.lg;have hkp:(k:Int)<(s.pg.length:Int):=by have:=X.kp;omega
 have HH:=zH h;clear X h eqa;go_enter Tryz.func45,Tryz.ntmps45
 go_upto_region 1 with fail
 go_cut [5] (fun v5 wc=>v5=.pointer (some ⟨w.heap.size,0,none⟩)/\Hid (wc=w.drew.alloc (.cells #[.int .i64 (k:Int),.slice po (s.call t B).2.length co] 84)))
 case first =>
  refine a06 (fun u=>u.cell? ⟨f.gc,t*3,none⟩=some (.slice (some ⟨gl,0,none⟩) nl qc)/\u.cell? ⟨f.gc,t*3+1,none⟩=some (.int .i64 (B:Int))/\u.cell? ⟨gl,B*2,none⟩=some (.int .i64 (k:Int))/\u.cell? ⟨gl,B*2+1,none⟩=some (.slice po (s.call t B).2.length co) )  ((0,true)::(1,true)::(2,true)::(3,true)::(4,true)::(5,true)::(6,true)::(7,true)::(8,true)::(9,true)::(10,false)::(11,false)::[])  Md.Cv.follows13 (by kernel_rfl) (fun _ _ _ _ _ h=>h)  ⟨c0,c1,x0,x1⟩ ?_
  (repeat ((first | (refine a02 (v:=?_) rfl (by rfl) (fun wq hSq=>?_) ?_;rotate_left;(focus ((try dsimp only at hSq);go_simp;try with_reducible rfl))) | refine a03 rfl (by rfl) ?_);simp only[Act.put,zA,zB,zC]))
  (refine a04 rfl (by rfl) (fun KK hK=>?_);go_simp)
  have o:∀ (z:Obj) (g j:Nat),g<w.heap.size->(w.alloc z).drew.cell? ⟨g,j,none⟩=w.cell? ⟨g,j,none⟩:=fun z g j hg=>World.cell?_alloc_old _ _ _ (Nat.ne_of_lt hg)
  refine hK.out _ _ ⟨(o _ _ _ lc).trans c0,(o _ _ _ lc).trans c1,(o _ _ _ lg).trans x0,(o _ _ _ lg).trans x1⟩ ?_
  (clear hK KK;try simp only[Act.put,zA,zB,zC])
  (refine a04 rfl (by rfl) (fun KK hK=>?_);go_simp)
  refine hK.out _ _ ⟨(o _ _ _ lc).trans c0,(o _ _ _ lc).trans c1,(o _ _ _ lg).trans x0,(o _ _ _ lg).trans x1⟩ ?_
  (clear hK KK;try simp only[Act.put])
  refine a13 ?_;go_wp2_with fail
  go_meet
  exact⟨rfl,rfl⟩
 case rest =>
  obtain⟨rfl,HW⟩:=hcut;obtain⟨g5,hg5⟩:∃ g5,w.heap.size=g5:=⟨_,rfl⟩
  rw[hg5];have HE1:Hid (EnAt wc f v s d/\Bl w wc/\wc.heap[g5]?=some (.cells #[.int .i64 (k:Int),.slice po (s.call t B).2.length co] 84 (0,0))/\w.heap.size=g5):=by
   have hw:=HW.out;have hb:Bl w wc:=by rw[hw];exact((Same.drew w).below _).trans (show Below w.heap.size w.drew _ from below_alloc w.drew _)
   refine⟨HH.out.on hb,hb,?_,hg5⟩;rw[hw,<- hg5];exact zN _ _
  have HS:Hid (∀ u,Bl wc u->((u.cell? ⟨f.b,0,none⟩=some (.int .i64 s.a)/\u.cell? ⟨f.b,1,none⟩=some (.int .i64 s.b)/\u.cell? ⟨f.b,2,none⟩=some (.int .i64 s.c)/\u.cell? ⟨f.b,3,none⟩=some (.int .i64 s.e))/\u.cell? ⟨f.b,4,none⟩=some (.slice (some ⟨f.pp,0,none⟩) s.pg.length s.pg.length)/\u.cell? ⟨f.b,12,none⟩=some (.pointer (some ⟨f.rb,0,none⟩))/\u.cell? ⟨f.b,14,none⟩=some (.slice v.pt d.dn v.ct)/\u.cell? ⟨f.b,15,none⟩=some (.int .i64 d.N)/\u.cell? ⟨f.gc,t*3+1,none⟩=some (.int .i64 (B:Int))/\(u.cell? ⟨g5,0,none⟩=some (.int .i64 (k:Int))/\u.cell? ⟨g5,1,none⟩=some (.slice po (s.call t B).2.length co))/\u.cell? ⟨f.pp,k*2,none⟩=some (.int .i64 (s.prog (s.call t B).1).1)/\u.cell? ⟨f.pp,k*2+1,none⟩=some (.slice ao np ca))/\f.b<u.heap.size):=fun u hu=>by
   have h1:=HE1.out.1.on hu;have X1:=(HX.out.on HE1.out.2.1).on hu;have hg:u.heap[g5]?=_:=(hu.block _ (lt_of_block HE1.out.2.2.1)).trans HE1.out.2.2.1;exact⟨⟨⟨(h1.cell 0).trans rfl,(h1.cell 1).trans rfl,(h1.cell 2).trans rfl,(h1.cell 3).trans rfl⟩,(h1.cell 4).trans rfl,(h1.cell 12).trans rfl,(h1.cell 14).trans rfl,(h1.cell 15).trans rfl,(h1.course ht hc).2.1,⟨(zR u g5 0 _ _ _ hg).trans rfl,(zR u g5 1 _ _ _ hg).trans rfl⟩,X1.p0,X1.p1⟩,h1.ltB⟩
  have HTR:Hid (∀ u,Bl wc u->Calls Tryz.prog 69 #[cfgV s.a s.b s.c s.e,.int .i64 (t:Int),.agg #[.int .i64 (s.prog (s.call t B).1).1,.slice ao np ca],.slice po (s.call t B).2.length co] u fun r w'=>∃ bx,r=.returned (.iface (txT (newT s t (s.call t B))) (.pointer (some ⟨bx,0,none⟩)))/\Hid (Born u w' bx (newT s t (s.call t B)))):=fun u hu=>by
   have h1:=HE1.out.1.on hu;have X1:=(HX.out.on HE1.out.2.1).on hu;exact bb4 hs ht hB h1.fx.tab rfl X1.len rfl X1.code X1.args X1.lp
  have HOV:Hid (∀ u,Bl wc u->Calls Tryz.prog 39 #[.pointer (some ⟨f.rb,0,none⟩)] u fun e w'=>e=.returned (.int .i64 d.rd.o)/\w'=u):=fun u hu=>Sd.over_any (HE1.out.1.on hu).rds
  clear c0 c1 c2 lc k13 lb x0 x1 lg HW hg5
  go_upto_region 2 with fail
  obtain⟨⟨⟨a0,a1,a2,a3⟩,a4,a12,a14,a15,ac,⟨ag0,ag1⟩,ap0,ap1⟩,lb⟩:=HS.out wc (zF _ _)
  generalize hcl:(s.call t B).2.length=cl at *
  generalize htg:(s.prog (s.call t B).1).1=tg at *
  obtain⟨tt,htt⟩:∃ tt,txT (newT s t (s.call t B))=tt:=⟨_,rfl⟩
  rw[htt]at HTR;refine a47 (fun u=>(u.cell? ⟨f.b,0,none⟩=some (.int .i64 s.a)/\u.cell? ⟨f.b,1,none⟩=some (.int .i64 s.b)/\u.cell? ⟨f.b,2,none⟩=some (.int .i64 s.c)/\u.cell? ⟨f.b,3,none⟩=some (.int .i64 s.e))/\u.cell? ⟨f.b,4,none⟩=some (.slice (some ⟨f.pp,0,none⟩) s.pg.length s.pg.length)/\u.cell? ⟨f.b,12,none⟩=some (.pointer (some ⟨f.rb,0,none⟩))/\u.cell? ⟨f.b,14,none⟩=some (.slice v.pt d.dn v.ct)/\u.cell? ⟨f.b,15,none⟩=some (.int .i64 d.N)/\u.cell? ⟨f.gc,t*3+1,none⟩=some (.int .i64 (B:Int))/\(u.cell? ⟨g5,0,none⟩=some (.int .i64 (k:Int))/\u.cell? ⟨g5,1,none⟩=some (.slice po cl co))/\u.cell? ⟨f.pp,k*2,none⟩=some (.int .i64 tg)/\u.cell? ⟨f.pp,k*2+1,none⟩=some (.slice ao np ca) )  ((0,true)::(1,true)::(2,true)::(3,true)::(4,true)::(5,true)::(6,true)::(7,true)::(8,true)::(9,true)::(10,true)::(11,true)::(12,true)::(13,true)::(14,true)::(15,true)::(16,true)::(17,true)::(18,true)::(19,true)::(21,true)::(22,true)::(23,true)::(24,true)::(25,true)::(26,true)::(27,true)::(28,true)::(29,true)::(30,true)::(31,true)::(32,true)::(33,true)::(34,true)::(35,true)::(20,false)::(36,false)::(37,true)::(38,true)::(39,false)::(40,false)::(41,true)::(42,true)::(43,false)::[])  Md.Cv.follows13 (by kernel_rfl) (fun _ _ _ _ _ h=>h)  (HS.out _ ((Same.drew wc).below _)).1 ?_
  (repeat (refine a33 (v:=?_) rfl (by rfl) (fun wq hSq=>?_) ?_;rotate_left;(focus ((try dsimp only at hSq);go_simp;try with_reducible rfl));simp only[Act.put,zA,zB,zC]))
  (refine a29 rfl (by rfl) (fun KK hK=>?_);go_simp)
  refine(HTR.out _ ((Same.drew wc).below _)).mono ?_;rintro r w2 ⟨bx,rfl,q⟩;obtain⟨G,K,q1,q2,q3,q4⟩:=q.out;have HB2:Hid (TxAt w2 bx G K (newT s t (s.call t B))/\Abv wc.heap.size G/\Abv wc.heap.size K/\Bl wc w2):=⟨q1,q2,q3,((Same.drew wc).below _).trans q4⟩;clear q q1 q2 q3 q4 HTR;refine hK.out _ _ (fun _=>(HS.out _ HB2.out.2.2.2).1) ?_
  (clear hK KK;try simp only[Act.put,zA,zB,zC])
  (refine a29 rfl (by rfl) (fun KK hK=>?_);go_simp)
  refine(HOV.out _ HB2.out.2.2.2).mono ?_;rintro r w3 ⟨rfl,hw3⟩;subst w3;refine hK.out _ _ (fun _=>(HS.out _ HB2.out.2.2.2).1) ?_
  (clear hK KK;try simp only[Act.put,zA,zB,zC])
  (repeat (refine a33 (v:=?_) rfl (by rfl) (fun wq hSq=>?_) ?_;rotate_left;(focus ((try dsimp only at hSq);go_simp;try with_reducible rfl));simp only[Act.put,zA,zB,zC]))
  (refine a29 rfl (by rfl) (fun KK hK=>?_);go_simp)
  have b3:∀ o,Bl wc (w2.alloc o):=fun o=>HB2.out.2.2.2.alloc HB2.out.2.2.2.size o
  refine hK.out _ _ (fun _=>(HS.out _ (b3 _)).1) ?_
  (clear hK KK;try simp only[Act.put,zA,zB,zC])
  have HM:Hid (∀ o,EnAt (w2.alloc o) f { v with tb:=updN v.tb t bx,G:=updG v.G t G,R:=K ++ v.R } s { d with T:=upT d.T t (some (newT s t (s.call t B))) }/\Ext f v { v with tb:=updN v.tb t bx,G:=updG v.G t G,R:=K ++ v.R } w (w2.alloc o)):=fun o=>by
   obtain⟨e2,x2⟩:=HE1.out.1.born HB2.out.2.2.2 (by omega) hT HB2.out.1 HB2.out.2.1 HB2.out.2.2.1;exact⟨e2.on (below_alloc _ _),((Ext.of_below HE1.out.2.1).trans x2).trans (Ext.of_below (below_alloc _ _))⟩
  obtain⟨i0,hi,hz0,hz1,hz2⟩:=info_parts ba9;refine a29 rfl (by rfl) (fun KK hK=>?_);refine ar9 _ _ 76 76 rfl (.slice v.pt d.dn v.ct) (.slice (some ⟨w2.heap.size,0,none⟩) 1 1) rfl rfl (run_append_own_at (P:=Tryz.prog) (w2.alloc (.cells (trU (.iface tt (.pointer (some ⟨bx,0,none⟩))) t B k d.N 0 d.rd.o) 94)) 0 76 76 94 i0 (.agg (trU .nilIface 0 0 0 0 0 0)) 20 232 Tryz.underlying76 hi hz0 hz1 hz2 rfl (by decide) _ d.dn (ag3 d.tr d.dn) (HM.out _).1.trn ⟨w2.heap.size,0,none⟩ 1 1 (trU (.iface tt (.pointer (some ⟨bx,0,none⟩))) t B k d.N 0 d.rd.o).toList rfl (b12 w2 _ _) (bA5 _ rfl _ _ _ _ _ _) (by unfold maxLen;omega) (by omega) (zV _)) ?_;rintro v4 w4 ⟨hown4,hgrow4,hnil4,hat4⟩;obtain⟨p',c',hv4,m1,m2,m3⟩:=(HM.out _).1.more (c:=trU (.iface tt (.pointer (some ⟨bx,0,none⟩))) t B k d.N 0 d.rd.o) rfl hown4 hgrow4 (hat4.imp id (fun q=>⟨_,q,zE _⟩));subst hv4;have blk:∀ j,j<wc.heap.size->j∉fpR v.pt->w4.heap[j]?=wc.heap[j]?:=fun j hj hn=>(hgrow4.block j (zL hj (b3 _).size) (fun q=>hn (a42.2 q.symm))).trans ((b3 _).block j hj)
  have eb:=blk f.b lb (fun q=>HE1.out.1.apart 0 4 (by omega) f.b (by simp[own]) q);have egc:=blk f.gc HE1.out.1.crs.lt (fun q=>HE1.out.1.apart 3 4 (by omega) f.gc (by simp[own]) q);have epp:=blk f.pp (HX.out.on HE1.out.2.1).lf (fun q=>HE1.out.1.apart 5 4 (by omega) f.pp (HE1.out.1.fx.prg k HX.out.kp).1 q);have eg5:=blk g5 (lt_of_block HE1.out.2.2.1) (fun q=>by have:=(aS1 HH.out.trn) g5 q;have:=HE1.out.2.2.2;omega);have HB5:Hid (EnAt (w4.setCell ⟨f.b,14,none⟩ (.slice p' (d.dn+1) c')) f { v with tb:=updN v.tb t bx,G:=updG v.G t G,R:=K ++ v.R,pt:=p',ct:=c' } s { d with T:=upT d.T t (some (newT s t (s.call t B))),dn:=d.dn+1,tr:=updA d.tr d.dn (trU (.iface tt (.pointer (some ⟨bx,0,none⟩))) t B k d.N 0 d.rd.o) }/\Ext f v { v with tb:=updN v.tb t bx,G:=updG v.G t G,R:=K ++ v.R,pt:=p',ct:=c' } w (w4.setCell ⟨f.b,14,none⟩ (.slice p' (d.dn+1) c'))):=⟨m2,(HM.out _).2.trans m3⟩;have c14:=(zR w4 _ 14 _ _ _ m1).trans (rfl:_=some (Value.slice v.pt d.dn v.ct));have f14:=zZ w4 _ 14 _ _ m1;have l4:=lt_of_block m1;have cb:=@World.cell?_of_block;refine hK.out _ _ (fun _=>⟨⟨(cb eb).trans a0,(cb eb).trans a1,(cb eb).trans a2,(cb eb).trans a3⟩,(cb eb).trans a4,(cb eb).trans a12,c14,(cb eb).trans a15,(cb egc).trans ac,⟨(cb eg5).trans ag0,(cb eg5).trans ag1⟩,(cb epp).trans ap0,(cb epp).trans ap1⟩) ?_;clear hown4 hgrow4 hnil4 hat4 m1 m2 m3 blk eb egc epp eg5 cb a0 a1 a2 a3 a4 a12 a14 a15 ac ag0 ag1 ap0 ap1 HS HOV
  (clear hK KK;try simp only[Act.put,zA,zB,zC])
  (repeat (refine a33 (v:=?_) rfl (by rfl) (fun wq hSq=>?_) ?_;rotate_left;(focus ((try dsimp only at hSq);go_simp;try with_reducible rfl));simp only[Act.put,zA,zB,zC]))
  (refine a29 rfl (by rfl) (fun KK hK=>?_);go_simp)
  refine hK.out _ _ (fun hn=>absurd rfl hn) ?_
  (clear hK KK;try simp only[Act.put])
  refine a78 ?_;obtain⟨w5,hw5⟩:∃ w5,w5=w4.setCell ⟨f.b,14,none⟩ (.slice p' (d.dn+1) c'):=⟨_,rfl⟩
  rw[<- hw5]at HB5 ⊢;clear hw5 c14 f14 l4;have s14:=(HB5.out.1.cell 14).trans (rfl:_=some (Value.slice p' (d.dn+1) c'));have s1:=(HB5.out.1.course ht hc).2.1;have s2:=(HB5.out.1.course ht hc).2.2.1;have sg:=(HB5.out.1.course ht hc).2.2.2;have sb:=HB5.out.1.ltB;have f1:=HB5.out.1.crs.free (t*3+1);have f2:=HB5.out.1.crs.free (t*3+2);go_wp2_with fail
  go_end0
  obtain⟨e6,x6⟩:=HB5.out.1.setC ht (j:=2) (by omega) (by omega) (.int .i64 (d.dn:Int));obtain⟨e7,x7⟩:=e6.setC ht (j:=1) (by omega) (by omega) (.int .i64 ((B:Int)+1));refine⟨rfl,{ v with tb:=updN v.tb t bx,G:=updG v.G t G,R:=K ++ v.R,pt:=p',ct:=c' },bx,rfl,?_,(HB5.out.2.trans x6).trans x7⟩;have ecr:updA (updA d.cr t ((d.cr t).setIfInBounds 2 (.int .i64 (d.dn:Int)))) t ((updA d.cr t ((d.cr t).setIfInBounds 2 (.int .i64 (d.dn:Int))) t).setIfInBounds 1 (.int .i64 ((B:Int)+1)))=updA d.cr t #[.slice qa (s.cs t).length qc,.int .i64 ((B+1:Nat):Int),.int .i64 (d.dn:Int)]:=by
   funext u
   by_cases q:u=t
   ·subst q
    rw[a25,a25,a25,hc]
    rfl
   ·rw[a35 _ _ q,a35 _ _ q,a35 _ _ q]
  have e7':=e7;dsimp only at e7';rw[ecr]at e7';unfold txV;rw[htt,HX.out.x1];exact e7'
end
theorem bH9 (y:Ty) (ws:List Int):txT (goS y ws)=txT y:=by rcases y with⟨_,_⟩ | ⟨_,_⟩ <;> rfl
theorem ah6 (y:Ty) (ws:List Int) (b:Nat):txV (goS y ws) b=txV y b:=by unfold txV;rw[bH9]
theorem aO3 (m:Sd.Rd) (t:Nat):(Sd.stepN m t).n=m.n:=by
 unfold Sd.stepN
 split
 ·unfold Sd.settleM
  split <;> rfl
 ·rfl
theorem aO4 (m:Sd.Rd) (t:Nat):(Sd.stepN m t).o<=m.o+1:=by
 unfold Sd.stepN
 split
 ·unfold Sd.settleM
  split
  ·exact zE _
  ·exact Nat.le_succ _
 ·exact Nat.le_succ _
theorem bE3 (m:Sd.Rd) (t:Nat):(Sd.finN m t).o<=m.o+1:=by
 unfold Sd.finN
 split
 ·unfold Sd.settleM
  split
  ·exact zE _
  ·exact Nat.le_succ _
 ·exact Nat.le_succ _
structure Way (w:World) (f:Ex) (v:Ev) (s:Su) (d:Ed) (t i g nc qc:Nat) (qa:Option Addr) (bgn:Int) (y:Ty) (th no pr bg ah fr:Int):Prop where
 at_:EnAt w f v s d
 ht:t<s.n
 hT:d.T t=some y
 hi:i<d.dn
 hc:d.cr t=#[.slice qa nc qc,.int .i64 bgn,.int .i64 (i:Int)]
 tr:d.tr i=trU (txV y (v.tb t)) th no pr bg ah fr
 pt:v.pt=some ⟨g,0,none⟩
section
variable {w w':World} {f:Ex} {v:Ev} {s:Su} {d:Ed} {t i g nc qc:Nat} {qa:Option Addr} {bgn:Int} {y:Ty} {th no pr bg ah fr N:Int}
theorem Way.on (h:Way w f v s d t i g nc qc qa bgn y th no pr bg ah fr) (k:Bl w w'):Way w' f v s d t i g nc qc qa bgn y th no pr bg ah fr:=⟨h.at_.on k,h.ht,h.hT,h.hi,h.hc,h.tr,h.pt⟩
theorem Way.up (h:Way w f v s d t i g nc qc qa bgn y th no pr bg ah fr):UpC w g (i*20) (txV y (v.tb t)) th no pr bg ah fr:=h.at_.upC h.hi h.pt h.tr
def goD (d:Ed) (t:Nat) (y:Ty):Ed:={ d with ws:=goW y d.ws,cnt:=(if goA y d.ws then up d.cnt else d.cnt),T:=upT d.T t (some (goS y d.ws)) }
theorem Way.goes (h:Way w f v s d t i g nc qc qa bgn y th no pr bg ah fr) {K:List Nat} (hK:∀ k∈K,k∈v.R) (q:Went w w' (v.tb t) f.mb f.mg (v.G t) K y d.ws d.cnt):∃ L,Way w' f { v with G:=updG v.G t L } s (goD d t y) t i g nc qc qa bgn (goS y d.ws) th no pr bg ah fr/\Ext f v { v with G:=updG v.G t L } w w':=by
 obtain⟨L,k1,k2⟩:=h.at_.goes h.hT hK q;exact⟨L,⟨k1,h.ht,a08 _ _ _,h.hi,h.hc,by rw[ah6];exact h.tr,h.pt⟩,k2⟩
theorem Way.step (h:Way w f v s d t i g nc qc qa bgn y th no pr bg ah fr) (hI:TIn s t N y) (ho:a51 y=false) (hw:okW d.ws) (hl:(d.ws.length:Int)=3+s.b+3*s.a) (hN:N<9223372036854775807):Calls Tryz.prog (bG7 y) #[.pointer (some ⟨v.tb t,0,none⟩),.pointer (some ⟨f.mb,0,none⟩)] w fun e w'=>e=.returned (.tuple #[.bool (a51 (goS y d.ws)),.int .i64 0])/\Hid (∃ L,Way w' f { v with G:=updG v.G t L } s (goD d t y) t i g nc qc qa bgn (goS y d.ws) th no pr bg ah fr/\Ext f v { v with G:=updG v.G t L } w w'):=by
 obtain⟨t8,K,tx,hK⟩:=h.at_.tx t y h.hT;obtain⟨o,hm⟩:=h.at_.mem;have a1:Sep [f.mb,f.mg] (v.G t):=h.at_.apart 1 (t+6) (by omega);have a2:Sep [f.mb,f.mg] K:=fun k hk q=>h.at_.apart 1 5 (by omega) k hk (hK k q)
 have a3:a87 w (f.mb::f.mg::v.G t):=⟨h.at_.fx.tab,fun q=>by
  simp only[List.mem_cons]at q
  rcases q with q | q | q
  ·exact h.at_.apart 5 1 (by omega) _ h.at_.fx.tin (by simp[own,q])
  ·exact h.at_.apart 5 1 (by omega) _ h.at_.fx.tin (by simp[own,q])
  ·exact h.at_.apart 5 (t+6) (by omega) _ h.at_.fx.tin q⟩
 refine(bB2 tx hm a1 a2 a3 hI ho hw hl hN).mono ?_;rintro e w' ⟨rfl,q⟩;exact⟨rfl,h.goes hK q⟩
theorem Way.ahead (h:Way w f v s d t i g nc qc qa bgn y th no pr bg ah fr) (a:Int):EnAt (w.setCell ⟨g,i*20+17,none⟩ (.int .i64 a)) f v s { d with tr:=updA d.tr i (trU (txV y (v.tb t)) th no pr bg a fr) }/\Ext f v v w (w.setCell ⟨g,i*20+17,none⟩ (.int .i64 a)):=by
 obtain⟨g',e',hm,A⟩:=h.at_.arr (by have:=h.hi;omega);obtain rfl:g'=g:=by
  have:=e'.symm.trans h.pt;injection this with this;injection this
 have:=h.at_.turned e' hm (a26 _ _ _ _) (A.put h.hi (j:=17) (by omega) (.int .i64 a));rw[h.tr]at this;exact this
theorem Way.rest (h:Way w f v s d t i g nc qc qa bgn y th no pr bg ah fr):EnAt (w.setCell ⟨f.gc,t*3+2,none⟩ (.int .i64 (-1))) f v s { d with cr:=updA d.cr t #[.slice qa nc qc,.int .i64 bgn,.int .i64 (-1)] }/\Ext f v v w (w.setCell ⟨f.gc,t*3+2,none⟩ (.int .i64 (-1))):=by
 have:=h.at_.setC h.ht (j:=2) (by omega) (by omega) (.int .i64 (-1));rw[h.hc]at this;exact this
theorem bs1 (h:Way w f v s d t i g nc qc qa bgn y th no pr bg ah fr) (hs:SuIn s) (hI:TIn s t N y) (ho:a51 y=false) (hw:okW d.ws) (hl:(d.ws.length:Int)=3+s.b+3*s.a) (hN:N<9223372036854775807) (hdn:d.dn<=512) (hrn:d.rd.n=s.n) (hro:d.rd.o<9223372036854775806) (hov:a51 (goS y d.ws)=false) (hne:(bg == d.N)=false):Calls Tryz.prog 46 #[.pointer (some ⟨f.b,0,none⟩),.int .i64 (t:Int)] w fun r w'=>r=.returned (.tuple #[])/\Hid (∃ v',v'.tb=v.tb/\EnAt w' f v' s { goD d t y with rd:=Sd.stepN d.rd t }/\Ext f v v' w w'):=by
 have h8:(s.n:Int)<=8:=by have:=hs.nb;have:=hs.b8;omega
 have hti:(t:Int)<(s.n:Int):=by have:=h.ht;omega
 have hii:(i:Int)<(d.dn:Int):=by have:=h.hi;omega
 have hdi:(d.dn:Int)<=512:=by omega
 have HH:=zH h;have HST:=zH (fun u (k:Bl w u)=>(h.on k).step hI ho hw hl hN);rw[hov]at HST;have HI1:=zH (hI.goes ho hw).1;obtain⟨c0,c1,c2,lc⟩:=h.at_.course h.ht h.hc;have k13:=(h.at_.cell 13).trans (rfl:_=some (Value.slice (some ⟨f.gc,0,none⟩) s.n s.n));have k14:=(h.at_.cell 14).trans (rfl:_=some (Value.slice v.pt d.dn v.ct));rw[h.pt]at k14;have lb:=h.at_.ltB;clear h hI ho hw hl hN;go_enter Tryz.func46,Tryz.ntmps46
 go_upto_region 1 with fail
 go_cut [5] (fun v5 wc=>v5=.pointer (some ⟨g,i*20,none⟩)/\Hid (wc=w.drew))
 case first =>
  refine a06 (fun u=>u.cell? ⟨f.b,14,none⟩=some (.slice (some ⟨g,0,none⟩) d.dn v.ct)/\u.cell? ⟨f.gc,t*3+2,none⟩=some (.int .i64 (i:Int)) )  ((0,true)::(1,true)::(2,true)::(3,true)::(4,true)::(5,true)::(6,true)::(7,true)::(8,true)::(9,true)::[])  Md.Cv.follows13 (by kernel_rfl) (fun _ _ _ _ _ h=>h)  ⟨k14,c2⟩ ?_
  (repeat ((first | (refine a02 (v:=?_) rfl (by rfl) (fun wq hSq=>?_) ?_;rotate_left;(focus ((try dsimp only at hSq);go_simp;try with_reducible rfl))) | refine a03 rfl (by rfl) ?_);simp only[Act.put,zA,zB,zC]))
  refine a13 ?_;go_wp2_with fail
  go_meet
  exact⟨rfl,rfl⟩
 case rest =>
  obtain⟨rfl,HW⟩:=hcut;have H1:Hid (Way wc f v s d t i g nc qc qa bgn y th no pr bg ah fr/\Ext f v v w wc/\Bl w wc):=by
   rw[HW.out];exact⟨HH.out.on ((Same.drew w).below _),Ext.of_below ((Same.drew w).below _),(Same.drew w).below _⟩
  clear HW HH c0 c1 c2 lc k13 k14 lb
  go_upto_region 2 with fail
  go_cut [6,7] (fun v6 v7 wd=>v6=.bool false/\v7=.int .i64 0/\Hid (∃ L,Way wd f { v with G:=updG v.G t L } s (goD d t y) t i g nc qc qa bgn (goS y d.ws) th no pr bg ah fr/\Ext f v { v with G:=updG v.G t L } w wd))
  case first =>
   have HS:Hid (∀ u L (d':Ed) y',Way u f { v with G:=L } s d' t i g nc qc qa bgn y' th no pr bg ah fr->txV y' (v.tb t)=txV y (v.tb t)->(u.cell? ⟨g,i*20,none⟩=some (txV y (v.tb t))/\u.cell? ⟨f.b,11,none⟩=some (.pointer (some ⟨f.mb,0,none⟩)))/\g<u.heap.size/\f.b<u.heap.size):=fun u L d' y' q e=>⟨⟨by rw[<- e];exact q.up.c0,(q.at_.cell 11).trans rfl⟩,q.up.lt,q.at_.ltB⟩
   obtain⟨⟨e0,e11⟩,lg,lb⟩:=HS.out wc v.G d y H1.out.1 rfl;have HST2:=zH (HST.out wc.drew (H1.out.2.2.trans ((Same.drew wc).below _)));clear HST
   rcases y with⟨m,x⟩ | ⟨m,x⟩
   ·refine a06 (fun u=>u.cell? ⟨g,i*20,none⟩=some (.iface 148 (.pointer (some ⟨v.tb t,0,none⟩)))/\u.cell? ⟨f.b,11,none⟩=some (.pointer (some ⟨f.mb,0,none⟩)) )  ((0,true)::(1,true)::(2,true)::(3,true)::(4,true)::(5,true)::(6,true)::(7,true)::(8,true)::(9,true)::(10,false)::(11,true)::(12,true)::(13,true)::(14,true)::(15,true)::[])  Md.Cv.follows13 (by kernel_rfl) (fun _ _ _ _ _ h=>h)  ⟨e0,e11⟩ ?_
    (repeat ((first | (refine a02 (v:=?_) rfl (by rfl) (fun wq hSq=>?_) ?_;rotate_left;(focus ((try dsimp only at hSq);go_simp;try with_reducible rfl))) | refine a03 rfl (by rfl) ?_);simp only[Act.put,zA,zB,zC]))
    (refine a04 rfl (by rfl) (fun KK hK=>?_);go_simp)
    go_invoke
    go_simp
    refine HST2.out.mono ?_;rintro r wd ⟨rfl,q⟩;obtain⟨L,q1,q2⟩:=q.out;have HQ:=zH (And.intro q1 q2);clear q q1 q2;refine hK.out _ _ (HS.out _ _ _ _ HQ.out.1 (ah6 _ _ _)).1 ?_
    (clear hK KK;try simp only[Act.put,zA,zB,zC])
    (repeat ((first | (refine a02 (v:=?_) rfl (by rfl) (fun wq hSq=>?_) ?_;rotate_left;(focus ((try dsimp only at hSq);go_simp;try with_reducible rfl))) | refine a03 rfl (by rfl) ?_);simp only[Act.put,zA,zB,zC]))
    refine a13 ?_;go_wp2_with fail
    go_meet
    exact⟨rfl,rfl,L,HQ.out.1,(H1.out.2.1.trans (Ext.of_below ((Same.drew wc).below _))).trans HQ.out.2⟩
   ·refine a06 (fun u=>u.cell? ⟨g,i*20,none⟩=some (.iface 146 (.pointer (some ⟨v.tb t,0,none⟩)))/\u.cell? ⟨f.b,11,none⟩=some (.pointer (some ⟨f.mb,0,none⟩)) )  ((0,true)::(1,true)::(2,true)::(3,true)::(4,true)::(5,true)::(6,true)::(7,true)::(8,true)::(9,true)::(10,false)::(11,true)::(12,true)::(13,true)::(14,true)::(15,true)::[])  Md.Cv.follows13 (by kernel_rfl) (fun _ _ _ _ _ h=>h)  ⟨e0,e11⟩ ?_
    (repeat ((first | (refine a02 (v:=?_) rfl (by rfl) (fun wq hSq=>?_) ?_;rotate_left;(focus ((try dsimp only at hSq);go_simp;try with_reducible rfl))) | refine a03 rfl (by rfl) ?_);simp only[Act.put,zA,zB,zC]))
    (refine a04 rfl (by rfl) (fun KK hK=>?_);go_simp)
    go_invoke
    go_simp
    refine HST2.out.mono ?_;rintro r wd ⟨rfl,q⟩;obtain⟨L,q1,q2⟩:=q.out;have HQ:=zH (And.intro q1 q2);clear q q1 q2;refine hK.out _ _ (HS.out _ _ _ _ HQ.out.1 (ah6 _ _ _)).1 ?_
    (clear hK KK;try simp only[Act.put,zA,zB,zC])
    (repeat ((first | (refine a02 (v:=?_) rfl (by rfl) (fun wq hSq=>?_) ?_;rotate_left;(focus ((try dsimp only at hSq);go_simp;try with_reducible rfl))) | refine a03 rfl (by rfl) ?_);simp only[Act.put,zA,zB,zC]))
    refine a13 ?_;go_wp2_with fail
    go_meet
    exact⟨rfl,rfl,L,HQ.out.1,(H1.out.2.1.trans (Ext.of_below ((Same.drew wc).below _))).trans HQ.out.2⟩
  case rest =>
   obtain⟨rfl,rfl,HW⟩:=hcut;obtain⟨L,q1,q2⟩:=HW.out;have HQ:=zH (And.intro q1 q2);obtain⟨v1,hv1⟩:∃ v1,v1={ v with G:=updG v.G t L }:=⟨_,rfl⟩
   have HV1:Hid (v1.tb=v.tb):=by rw[hv1];trivial
   rw[<- hv1]at HQ q1;have c14:=q1.up.c14;have k15:=(q1.at_.cell 15).trans (rfl:_=some (Value.int .i64 d.N));have k12:=(q1.at_.cell 12).trans (rfl:_=some (Value.pointer (some ⟨f.rb,0,none⟩)));have lb:=q1.at_.ltB;have lg:=q1.up.lt;clear q1 q2 HW hv1 H1 HST;have HR:Hid (Calls Tryz.prog 71 #[.pointer (some ⟨f.rb,0,none⟩),.int .i64 (t:Int)] wc.drew fun e w'=>e=.returned (.int .i64 0)/\Hid (EnAt w' f v1 s { goD d t y with rd:=Sd.stepN d.rd t }/\Ext f v v1 w w')):=by
    have h1:=HQ.out.1.at_.same (Same.drew wc);refine(Sd.step_in h1.rds t (by show t<d.rd.n;rw[hrn];exact HQ.out.1.ht) (by show d.rd.n<=8;omega) (by show d.rd.o<_;omega)).mono ?_;rintro e w' ⟨rfl,r1,r2⟩;obtain⟨h2,x2⟩:=h1.setR r2 r1;exact⟨rfl,h2,(HQ.out.2.trans (Ext.of_below ((Same.drew wc).below _))).trans x2⟩
   have HN:Hid (∀ u,EnAt u f v1 s { goD d t y with rd:=Sd.stepN d.rd t }/\Ext f v v1 w u->Calls Tryz.prog 33 #[.pointer (some ⟨f.b,0,none⟩),.int .i64 (t:Int)] u fun r w'=>r=.returned (.tuple #[])/\Hid (EnAt w' f v1 s { goD d t y with rd:=Sd.stepN d.rd t }/\Ext f v v1 w w')):=fun u hu=>by
    have hf:finI bgn (i:Int) nc=false:=by unfold finI;rw[zU (by omega)];rfl
    have o2:=(aO4 d.rd t);refine(au1 hu.1 hs HQ.out.1.ht ((aO3 d.rd t).trans hrn) (by show (Sd.stepN d.rd t).o<_;omega) HQ.out.1.hc).mono ?_;rintro r w' ⟨rfl,q⟩;have q:=q.out;rw[hf]at q;exact⟨rfl,q.1,hu.2.trans q.2⟩
   go_upto_region 3 with fail
   refine a06 (fun u=>u.cell? ⟨g,i*20+14,none⟩=some (.int .i64 bg)/\u.cell? ⟨f.b,15,none⟩=some (.int .i64 d.N) )  ((0,true)::(1,true)::(2,true)::(3,true)::(4,true)::(5,true)::(6,true)::(7,true)::(8,true)::(9,true)::[])  Md.Cv.follows13 (by kernel_rfl) (fun _ _ _ _ _ h=>h)  ⟨c14,k15⟩ ?_
   (repeat ((first | (refine a02 (v:=?_) rfl (by rfl) (fun wq hSq=>?_) ?_;rotate_left;(focus ((try dsimp only at hSq);go_simp;try with_reducible rfl))) | refine a03 rfl (by rfl) ?_);simp only[Act.put,zA,zB,zC]))
   refine a13 ?_
   go_wp2_with (first
    | (go_at_call 33;refine(HN.out _ H3.out).mono ?_;rintro r w4 ⟨rfl,q⟩;have H4:=zH q.out;clear q HN)
    | (go_at_call 71;refine HR.out.mono ?_;rintro r w3 ⟨rfl,q⟩;have H3:=zH q.out;clear q HR c14 k15 k12 lg lb;have lb:=H3.out.1.ltB))
   go_end0
   exact⟨rfl,v1,HV1.out,H4.out.1,H4.out.2⟩
theorem aZ3 (h:Way w f v s d t i g nc qc qa bgn y th no pr bg ah fr) (hs:SuIn s) (hI:TIn s t N y) (ho:a51 y=false) (hw:okW d.ws) (hl:(d.ws.length:Int)=3+s.b+3*s.a) (hN:N<9223372036854775807) (hdn:d.dn<=512) (hrn:d.rd.n=s.n) (hro:d.rd.o<9223372036854775806) (hov:a51 (goS y d.ws)=false) (hne:(bg == d.N)=true) (h1:∀ m x,goS y d.ws=.inr (m,x)->x.part≠1):Calls Tryz.prog 46 #[.pointer (some ⟨f.b,0,none⟩),.int .i64 (t:Int)] w fun r w'=>r=.returned (.tuple #[])/\Hid (∃ v',v'.tb=v.tb/\EnAt w' f v' s { goD d t y with tr:=updA d.tr i (trU (txV y (v.tb t)) th no pr bg (az8 (goW y d.ws) (goS y d.ws)) fr),rd:=Sd.stepN d.rd t }/\Ext f v v' w w'):=by
 have h8:(s.n:Int)<=8:=by have:=hs.nb;have:=hs.b8;omega
 have hti:(t:Int)<(s.n:Int):=by have:=h.ht;omega
 have hii:(i:Int)<(d.dn:Int):=by have:=h.hi;omega
 have hdi:(d.dn:Int)<=512:=by omega
 have HH:=zH h;have HST:=zH (fun u (k:Bl w u)=>(h.on k).step hI ho hw hl hN);rw[hov]at HST;have HI1:=zH (hI.goes ho hw).1;obtain⟨c0,c1,c2,lc⟩:=h.at_.course h.ht h.hc;have k13:=(h.at_.cell 13).trans (rfl:_=some (Value.slice (some ⟨f.gc,0,none⟩) s.n s.n));have k14:=(h.at_.cell 14).trans (rfl:_=some (Value.slice v.pt d.dn v.ct));rw[h.pt]at k14;have lb:=h.at_.ltB;clear h hI ho hw hl hN;go_enter Tryz.func46,Tryz.ntmps46
 go_upto_region 1 with fail
 go_cut [5] (fun v5 wc=>v5=.pointer (some ⟨g,i*20,none⟩)/\Hid (wc=w.drew))
 case first =>
  refine a06 (fun u=>u.cell? ⟨f.b,14,none⟩=some (.slice (some ⟨g,0,none⟩) d.dn v.ct)/\u.cell? ⟨f.gc,t*3+2,none⟩=some (.int .i64 (i:Int)) )  ((0,true)::(1,true)::(2,true)::(3,true)::(4,true)::(5,true)::(6,true)::(7,true)::(8,true)::(9,true)::[])  Md.Cv.follows13 (by kernel_rfl) (fun _ _ _ _ _ h=>h)  ⟨k14,c2⟩ ?_
  (repeat ((first | (refine a02 (v:=?_) rfl (by rfl) (fun wq hSq=>?_) ?_;rotate_left;(focus ((try dsimp only at hSq);go_simp;try with_reducible rfl))) | refine a03 rfl (by rfl) ?_);simp only[Act.put,zA,zB,zC]))
  refine a13 ?_;go_wp2_with fail
  go_meet
  exact⟨rfl,rfl⟩
 case rest =>
  obtain⟨rfl,HW⟩:=hcut;have H1:Hid (Way wc f v s d t i g nc qc qa bgn y th no pr bg ah fr/\Ext f v v w wc/\Bl w wc):=by
   rw[HW.out];exact⟨HH.out.on ((Same.drew w).below _),Ext.of_below ((Same.drew w).below _),(Same.drew w).below _⟩
  clear HW HH c0 c1 c2 lc k13 k14 lb
  go_upto_region 2 with fail
  go_cut [6,7] (fun v6 v7 wd=>v6=.bool false/\v7=.int .i64 0/\Hid (∃ L,Way wd f { v with G:=updG v.G t L } s (goD d t y) t i g nc qc qa bgn (goS y d.ws) th no pr bg ah fr/\Ext f v { v with G:=updG v.G t L } w wd))
  case first =>
   have HS:Hid (∀ u L (d':Ed) y',Way u f { v with G:=L } s d' t i g nc qc qa bgn y' th no pr bg ah fr->txV y' (v.tb t)=txV y (v.tb t)->(u.cell? ⟨g,i*20,none⟩=some (txV y (v.tb t))/\u.cell? ⟨f.b,11,none⟩=some (.pointer (some ⟨f.mb,0,none⟩)))/\g<u.heap.size/\f.b<u.heap.size):=fun u L d' y' q e=>⟨⟨by rw[<- e];exact q.up.c0,(q.at_.cell 11).trans rfl⟩,q.up.lt,q.at_.ltB⟩
   obtain⟨⟨e0,e11⟩,lg,lb⟩:=HS.out wc v.G d y H1.out.1 rfl;have HST2:=zH (HST.out wc.drew (H1.out.2.2.trans ((Same.drew wc).below _)));clear HST
   rcases y with⟨m,x⟩ | ⟨m,x⟩
   ·refine a06 (fun u=>u.cell? ⟨g,i*20,none⟩=some (.iface 148 (.pointer (some ⟨v.tb t,0,none⟩)))/\u.cell? ⟨f.b,11,none⟩=some (.pointer (some ⟨f.mb,0,none⟩)) )  ((0,true)::(1,true)::(2,true)::(3,true)::(4,true)::(5,true)::(6,true)::(7,true)::(8,true)::(9,true)::(10,false)::(11,true)::(12,true)::(13,true)::(14,true)::(15,true)::[])  Md.Cv.follows13 (by kernel_rfl) (fun _ _ _ _ _ h=>h)  ⟨e0,e11⟩ ?_
    (repeat ((first | (refine a02 (v:=?_) rfl (by rfl) (fun wq hSq=>?_) ?_;rotate_left;(focus ((try dsimp only at hSq);go_simp;try with_reducible rfl))) | refine a03 rfl (by rfl) ?_);simp only[Act.put,zA,zB,zC]))
    (refine a04 rfl (by rfl) (fun KK hK=>?_);go_simp)
    go_invoke
    go_simp
    refine HST2.out.mono ?_;rintro r wd ⟨rfl,q⟩;obtain⟨L,q1,q2⟩:=q.out;have HQ:=zH (And.intro q1 q2);clear q q1 q2;refine hK.out _ _ (HS.out _ _ _ _ HQ.out.1 (ah6 _ _ _)).1 ?_
    (clear hK KK;try simp only[Act.put,zA,zB,zC])
    (repeat ((first | (refine a02 (v:=?_) rfl (by rfl) (fun wq hSq=>?_) ?_;rotate_left;(focus ((try dsimp only at hSq);go_simp;try with_reducible rfl))) | refine a03 rfl (by rfl) ?_);simp only[Act.put,zA,zB,zC]))
    refine a13 ?_;go_wp2_with fail
    go_meet
    exact⟨rfl,rfl,L,HQ.out.1,(H1.out.2.1.trans (Ext.of_below ((Same.drew wc).below _))).trans HQ.out.2⟩
   ·refine a06 (fun u=>u.cell? ⟨g,i*20,none⟩=some (.iface 146 (.pointer (some ⟨v.tb t,0,none⟩)))/\u.cell? ⟨f.b,11,none⟩=some (.pointer (some ⟨f.mb,0,none⟩)) )  ((0,true)::(1,true)::(2,true)::(3,true)::(4,true)::(5,true)::(6,true)::(7,true)::(8,true)::(9,true)::(10,false)::(11,true)::(12,true)::(13,true)::(14,true)::(15,true)::[])  Md.Cv.follows13 (by kernel_rfl) (fun _ _ _ _ _ h=>h)  ⟨e0,e11⟩ ?_
    (repeat ((first | (refine a02 (v:=?_) rfl (by rfl) (fun wq hSq=>?_) ?_;rotate_left;(focus ((try dsimp only at hSq);go_simp;try with_reducible rfl))) | refine a03 rfl (by rfl) ?_);simp only[Act.put,zA,zB,zC]))
    (refine a04 rfl (by rfl) (fun KK hK=>?_);go_simp)
    go_invoke
    go_simp
    refine HST2.out.mono ?_;rintro r wd ⟨rfl,q⟩;obtain⟨L,q1,q2⟩:=q.out;have HQ:=zH (And.intro q1 q2);clear q q1 q2;refine hK.out _ _ (HS.out _ _ _ _ HQ.out.1 (ah6 _ _ _)).1 ?_
    (clear hK KK;try simp only[Act.put,zA,zB,zC])
    (repeat ((first | (refine a02 (v:=?_) rfl (by rfl) (fun wq hSq=>?_) ?_;rotate_left;(focus ((try dsimp only at hSq);go_simp;try with_reducible rfl))) | refine a03 rfl (by rfl) ?_);simp only[Act.put,zA,zB,zC]))
    refine a13 ?_;go_wp2_with fail
    go_meet
    exact⟨rfl,rfl,L,HQ.out.1,(H1.out.2.1.trans (Ext.of_below ((Same.drew wc).below _))).trans HQ.out.2⟩
  case rest =>
   obtain⟨rfl,rfl,HW⟩:=hcut;obtain⟨L,q1,q2⟩:=HW.out;have HQ:=zH (And.intro q1 q2);obtain⟨v1,hv1⟩:∃ v1,v1={ v with G:=updG v.G t L }:=⟨_,rfl⟩
   have HV1:Hid (v1.tb=v.tb):=by rw[hv1];trivial
   rw[<- hv1]at HQ q1;have c14:=q1.up.c14;have k15:=(q1.at_.cell 15).trans (rfl:_=some (Value.int .i64 d.N));have k12:=(q1.at_.cell 12).trans (rfl:_=some (Value.pointer (some ⟨f.rb,0,none⟩)));have lb:=q1.at_.ltB;have lg:=q1.up.lt;clear q1 q2 HW hv1 H1 HST;obtain⟨p4,hp4⟩:∃ p4,3+s.b=p4:=⟨_,rfl⟩
   obtain⟨p5,hp5⟩:∃ p5,p4+3*s.a=p5:=⟨_,rfl⟩
   obtain⟨A,hA⟩:∃ A,az8 (goW y d.ws) (goS y d.ws)=A:=⟨_,rfl⟩
   have HS:Hid (∀ u,Bl wc u->((u.cell? ⟨g,i*20,none⟩=some (txV y (v.tb t))/\u.cell? ⟨f.b,11,none⟩=some (.pointer (some ⟨f.mb,0,none⟩))/\u.cell? ⟨f.b,5,none⟩=some (.int .i64 0)/\u.cell? ⟨f.b,6,none⟩=some (.int .i64 1)/\u.cell? ⟨f.b,7,none⟩=some (.int .i64 2)/\u.cell? ⟨f.b,8,none⟩=some (.int .i64 3)/\u.cell? ⟨f.b,9,none⟩=some (.int .i64 p4)/\u.cell? ⟨f.b,10,none⟩=some (.int .i64 p5))/\u.cell? ⟨g,i*20+1+16,none⟩=some (.int .i64 ah)/\u.frozen? ⟨g,i*20+1+16,none⟩=false/\g<u.heap.size)):=fun u hu=>by
    have z:=HQ.out.1.on hu;have c0:=z.up.c0;rw[ah6,HV1.out]at c0;obtain⟨g',e',_,Ar⟩:=z.at_.arr (by have:=z.hi;omega);obtain rfl:g'=g:=by
     have:=e'.symm.trans z.pt;injection this with this;injection this
    refine⟨⟨c0,(z.at_.cell 11).trans rfl,(z.at_.cell 5).trans rfl,(z.at_.cell 6).trans rfl,(z.at_.cell 7).trans rfl,(z.at_.cell 8).trans rfl,(z.at_.cell 9).trans ?_,(z.at_.cell 10).trans ?_⟩,z.up.c17,Ar.free _,z.up.lt⟩
    ·rw[<- hp4];rfl
    ·rw[<- hp5,<- hp4];rfl
   have HAH:Hid (∀ u,Bl wc u->Calls Tryz.prog 70 #[txV y (v.tb t),.pointer (some ⟨f.mb,0,none⟩),plV p4 p5] u fun r w'=>r=.returned (.int .i64 A)/\Bl u w'):=fun u hu=>by
    have z:=HQ.out.1.on hu;obtain⟨_,K,tx,_⟩:=z.at_.tx t _ z.hT;obtain⟨o,hm⟩:=z.at_.mem;have:=ahead_any (p4:=p4) (p5:=p5) tx HI1.out h1 hm;rw[ah6,HV1.out]at this;rw[<- hA];exact this
   have HP:Hid (∀ u,Bl wc u->EnAt (u.setCell ⟨g,i*20+1+16,none⟩ (.int .i64 A)) f v1 s { goD d t y with tr:=updA d.tr i (trU (txV y (v.tb t)) th no pr bg A fr) }/\Ext f v v1 w (u.setCell ⟨g,i*20+1+16,none⟩ (.int .i64 A))):=fun u hu=>by
    have z:=(HQ.out.1.on hu).ahead A;rw[ah6,HV1.out]at z;exact⟨z.1,(HQ.out.2.trans (Ext.of_below hu)).trans z.2⟩
   have HR:Hid (∀ u,EnAt u f v1 s { goD d t y with tr:=updA d.tr i (trU (txV y (v.tb t)) th no pr bg A fr) }/\Ext f v v1 w u->Calls Tryz.prog 71 #[.pointer (some ⟨f.rb,0,none⟩),.int .i64 (t:Int)] u fun e w'=>e=.returned (.int .i64 0)/\Hid (EnAt w' f v1 s { goD d t y with tr:=updA d.tr i (trU (txV y (v.tb t)) th no pr bg A fr),rd:=Sd.stepN d.rd t }/\Ext f v v1 w w')):=fun u hu=>by
    refine(Sd.step_in hu.1.rds t (by show t<d.rd.n;rw[hrn];exact HQ.out.1.ht) (by show d.rd.n<=8;omega) (by show d.rd.o<_;omega)).mono ?_;rintro e w' ⟨rfl,r1,r2⟩;obtain⟨h2,x2⟩:=hu.1.setR r2 r1;exact⟨rfl,h2,hu.2.trans x2⟩
   have HN:Hid (∀ u,EnAt u f v1 s { goD d t y with tr:=updA d.tr i (trU (txV y (v.tb t)) th no pr bg A fr),rd:=Sd.stepN d.rd t }/\Ext f v v1 w u->Calls Tryz.prog 33 #[.pointer (some ⟨f.b,0,none⟩),.int .i64 (t:Int)] u fun r w'=>r=.returned (.tuple #[])/\Hid (EnAt w' f v1 s { goD d t y with tr:=updA d.tr i (trU (txV y (v.tb t)) th no pr bg A fr),rd:=Sd.stepN d.rd t }/\Ext f v v1 w w')):=fun u hu=>by
    have hf:finI bgn (i:Int) nc=false:=by unfold finI;rw[zU (by omega)];rfl
    have o2:=(aO4 d.rd t);refine(au1 hu.1 hs HQ.out.1.ht ((aO3 d.rd t).trans hrn) (by show (Sd.stepN d.rd t).o<_;omega) HQ.out.1.hc).mono ?_;rintro r w' ⟨rfl,q⟩;have q:=q.out;rw[hf]at q;exact⟨rfl,q.1,hu.2.trans q.2⟩
   have HAE:=zH hA;clear h1 hA hp4 hp5 HI1
   go_upto_region 3 with fail
   refine a06 (fun u=>u.cell? ⟨g,i*20+14,none⟩=some (.int .i64 bg)/\u.cell? ⟨f.b,15,none⟩=some (.int .i64 d.N) )  ((0,true)::(1,true)::(2,true)::(3,true)::(4,true)::(5,true)::(6,true)::(7,true)::(8,true)::(9,true)::[])  Md.Cv.follows13 (by kernel_rfl) (fun _ _ _ _ _ h=>h)  ⟨c14,k15⟩ ?_
   (repeat ((first | (refine a02 (v:=?_) rfl (by rfl) (fun wq hSq=>?_) ?_;rotate_left;(focus ((try dsimp only at hSq);go_simp;try with_reducible rfl))) | refine a03 rfl (by rfl) ?_);simp only[Act.put,zA,zB,zC]))
   refine a13 ?_;obtain⟨u1,hu1⟩:∃ u1,u1=wc.drew:=⟨_,rfl⟩
   rw[<- hu1];have HU1:Hid (Bl wc u1):=by rw[hu1];exact(Same.drew wc).below _
   clear hu1 c14 k15 k12 lb
   go_upto_region 4 with fail
   refine a06 (fun u=>u.cell? ⟨g,i*20,none⟩=some (txV y (v.tb t))/\u.cell? ⟨f.b,11,none⟩=some (.pointer (some ⟨f.mb,0,none⟩))/\u.cell? ⟨f.b,5,none⟩=some (.int .i64 0)/\u.cell? ⟨f.b,6,none⟩=some (.int .i64 1)/\u.cell? ⟨f.b,7,none⟩=some (.int .i64 2)/\u.cell? ⟨f.b,8,none⟩=some (.int .i64 3)/\u.cell? ⟨f.b,9,none⟩=some (.int .i64 p4)/\u.cell? ⟨f.b,10,none⟩=some (.int .i64 p5) )  ((0,true)::(1,true)::(2,true)::(3,true)::(4,true)::(5,true)::(6,true)::(7,true)::(8,true)::(9,true)::(10,true)::(11,true)::(12,true)::(13,false)::(14,true)::(15,true)::(16,true)::(17,false)::[])  Md.Cv.follows13 (by kernel_rfl) (fun _ _ _ _ _ h=>h)  (HS.out _ (HU1.out.trans ((Same.drew u1).below _))).1 ?_
   (repeat ((first | (refine a02 (v:=?_) rfl (by rfl) (fun wq hSq=>?_) ?_;rotate_left;(focus ((try dsimp only at hSq);go_simp;try with_reducible rfl))) | refine a03 rfl (by rfl) ?_);simp only[Act.put,zA,zB,zC]))
   (refine a04 rfl (by rfl) (fun KK hK=>?_);go_simp)
   refine(HAH.out _ (HU1.out.trans ((Same.drew u1).below _))).mono ?_;rintro r u2 ⟨rfl,q⟩;have HU2:Hid (Bl wc u2):=(HU1.out.trans ((Same.drew u1).below _)).trans (q.mono HU1.out.size);clear q;obtain⟨sa,s17,f17,lg2⟩:=HS.out _ HU2.out;refine hK.out _ _ sa ?_;clear sa
   (clear hK KK;try simp only[Act.put,zA,zB,zC])
   (repeat ((first | (refine a02 (v:=?_) rfl (by rfl) (fun wq hSq=>?_) ?_;rotate_left;(focus ((try dsimp only at hSq);go_simp;try with_reducible rfl))) | refine a03 rfl (by rfl) ?_);simp only[Act.put,zA,zB,zC]))
   (refine a04 rfl (by rfl) (fun KK hK=>?_);go_simp)
   have HE:=zH (HP.out _ HU2.out);have sb:(u2.setCell ⟨g,i*20+1+16,none⟩ (.int .i64 A)).cell? ⟨g,i*20,none⟩=some (txV y (v.tb t)):=by
    rw[World.cell?_setCell_other _ _ _ _ (by intro e;injection e with _ e _;omega)];exact(HS.out _ HU2.out).1.1
   have sc:∀ j,(u2.setCell ⟨g,i*20+1+16,none⟩ (.int .i64 A)).cell? ⟨f.b,j,none⟩=u2.cell? ⟨f.b,j,none⟩:=fun j=>World.cell?_setCell_other _ _ _ _ (by intro e;injection e with e _ _;exact HQ.out.1.at_.apart 0 4 (by omega) f.b (by simp[own]) (by simp[own,HQ.out.1.pt,fpR,e]))
   obtain⟨_,s11,s5,s6,s7,s8,s9,s10⟩:=(HS.out _ HU2.out).1;refine hK.out _ _ ⟨sb,(sc _).trans s11,(sc _).trans s5,(sc _).trans s6,(sc _).trans s7,(sc _).trans s8,(sc _).trans s9,(sc _).trans s10⟩ ?_;clear sb sc s11 s5 s6 s7 s8 s9 s10
   (clear hK KK;try simp only[Act.put])
   refine a13 ?_;obtain⟨u3,hu3⟩:∃ u3,u3=u2.setCell ⟨g,i*20+1+16,none⟩ (.int .i64 A):=⟨_,rfl⟩
   rw[<- hu3]at HE ⊢;clear hu3 s17 f17 lg2 HS HAH HP;have k12:=(HE.out.1.cell 12).trans (rfl:_=some (Value.pointer (some ⟨f.rb,0,none⟩)));have lb:=HE.out.1.ltB
   go_wp2_with (first
    | (go_at_call 33;refine(HN.out _ H3.out).mono ?_;rintro r w4 ⟨rfl,q⟩;have H4:=zH q.out;clear q HN)
    | (go_at_call 71;refine(HR.out _ HE.out).mono ?_;rintro r w3 ⟨rfl,q⟩;have H3:=zH q.out;clear q HR k12 lb;have lb:=H3.out.1.ltB))
   go_end0
   refine⟨rfl,v1,HV1.out,?_,H4.out.2⟩;rw[HAE.out];exact H4.out.1
end
section
variable {w w':World} {f:Ex} {v:Ev} {s:Su} {d:Ed} {t i g nc qc:Nat} {qa:Option Addr} {bgn:Int} {y:Ty} {th no pr bg ah fr N:Int}
theorem bd2 (h:Way w f v s d t i g nc qc qa bgn y th no pr bg ah fr) (hs:SuIn s) (hI:TIn s t N y) (ho:a51 y=false) (hw:okW d.ws) (hl:(d.ws.length:Int)=3+s.b+3*s.a) (hN:N<9223372036854775807) (hdn:d.dn<=512) (hrn:d.rd.n=s.n) (hro:d.rd.o<9223372036854775806) (hov:a51 (goS y d.ws)=true) (hne:(bg == d.N)=false) {rd':Sd.Rd} (hrd:(if finI bgn (-1) nc then Sd.finN (Sd.stepN d.rd t) t else Sd.stepN d.rd t)=rd'):Calls Tryz.prog 46 #[.pointer (some ⟨f.b,0,none⟩),.int .i64 (t:Int)] w fun r w'=>r=.returned (.tuple #[])/\Hid (∃ v' D,v'.tb=v.tb/\EnAt w' f v' s { goD d t y with T:=upT d.T t none,cr:=updA d.cr t #[.slice qa nc qc,.int .i64 bgn,.int .i64 (-1)],rd:=rd',tr:=updA d.tr i (trO (goS y d.ws) D th no pr bg d.N ah fr rd'.o),L:=fun j=>if j=i then some (D,af8 (goS y d.ws),macT (goS y d.ws)) else d.L j }/\Ext f v v' w w'):=by
 have h8:(s.n:Int)<=8:=by have:=hs.nb;have:=hs.b8;omega
 have hti:(t:Int)<(s.n:Int):=by have:=h.ht;omega
 have hii:(i:Int)<(d.dn:Int):=by have:=h.hi;omega
 have hdi:(d.dn:Int)<=512:=by omega
 have HRD:=zH hrd;clear hrd;have HH:=zH h;have HST:=zH (fun u (k:Bl w u)=>(h.on k).step hI ho hw hl hN);rw[hov]at HST;have HI1:=zH (hI.goes ho hw).1;obtain⟨c0,c1,c2,lc⟩:=h.at_.course h.ht h.hc;have k13:=(h.at_.cell 13).trans (rfl:_=some (Value.slice (some ⟨f.gc,0,none⟩) s.n s.n));have k14:=(h.at_.cell 14).trans (rfl:_=some (Value.slice v.pt d.dn v.ct));rw[h.pt]at k14;have lb:=h.at_.ltB;clear h hI ho hw hl hN;go_enter Tryz.func46,Tryz.ntmps46
 go_upto_region 1 with fail
 go_cut [5] (fun v5 wc=>v5=.pointer (some ⟨g,i*20,none⟩)/\Hid (wc=w.drew))
 case first =>
  refine a06 (fun u=>u.cell? ⟨f.b,14,none⟩=some (.slice (some ⟨g,0,none⟩) d.dn v.ct)/\u.cell? ⟨f.gc,t*3+2,none⟩=some (.int .i64 (i:Int)) )  ((0,true)::(1,true)::(2,true)::(3,true)::(4,true)::(5,true)::(6,true)::(7,true)::(8,true)::(9,true)::[])  Md.Cv.follows13 (by kernel_rfl) (fun _ _ _ _ _ h=>h)  ⟨k14,c2⟩ ?_
  (repeat ((first | (refine a02 (v:=?_) rfl (by rfl) (fun wq hSq=>?_) ?_;rotate_left;(focus ((try dsimp only at hSq);go_simp;try with_reducible rfl))) | refine a03 rfl (by rfl) ?_);simp only[Act.put,zA,zB,zC]))
  refine a13 ?_;go_wp2_with fail
  go_meet
  exact⟨rfl,rfl⟩
 case rest =>
  obtain⟨rfl,HW⟩:=hcut;have H1:Hid (Way wc f v s d t i g nc qc qa bgn y th no pr bg ah fr/\Ext f v v w wc/\Bl w wc):=by
   rw[HW.out];exact⟨HH.out.on ((Same.drew w).below _),Ext.of_below ((Same.drew w).below _),(Same.drew w).below _⟩
  clear HW HH c0 c1 c2 lc k13 k14 lb
  go_upto_region 2 with fail
  go_cut [6,7] (fun v6 v7 wd=>v6=.bool true/\v7=.int .i64 0/\Hid (∃ L,Way wd f { v with G:=updG v.G t L } s (goD d t y) t i g nc qc qa bgn (goS y d.ws) th no pr bg ah fr/\Ext f v { v with G:=updG v.G t L } w wd))
  case first =>
   have HS:Hid (∀ u L (d':Ed) y',Way u f { v with G:=L } s d' t i g nc qc qa bgn y' th no pr bg ah fr->txV y' (v.tb t)=txV y (v.tb t)->(u.cell? ⟨g,i*20,none⟩=some (txV y (v.tb t))/\u.cell? ⟨f.b,11,none⟩=some (.pointer (some ⟨f.mb,0,none⟩)))/\g<u.heap.size/\f.b<u.heap.size):=fun u L d' y' q e=>⟨⟨by rw[<- e];exact q.up.c0,(q.at_.cell 11).trans rfl⟩,q.up.lt,q.at_.ltB⟩
   obtain⟨⟨e0,e11⟩,lg,lb⟩:=HS.out wc v.G d y H1.out.1 rfl;have HST2:=zH (HST.out wc.drew (H1.out.2.2.trans ((Same.drew wc).below _)));clear HST
   rcases y with⟨m,x⟩ | ⟨m,x⟩
   ·refine a06 (fun u=>u.cell? ⟨g,i*20,none⟩=some (.iface 148 (.pointer (some ⟨v.tb t,0,none⟩)))/\u.cell? ⟨f.b,11,none⟩=some (.pointer (some ⟨f.mb,0,none⟩)) )  ((0,true)::(1,true)::(2,true)::(3,true)::(4,true)::(5,true)::(6,true)::(7,true)::(8,true)::(9,true)::(10,false)::(11,true)::(12,true)::(13,true)::(14,true)::(15,true)::[])  Md.Cv.follows13 (by kernel_rfl) (fun _ _ _ _ _ h=>h)  ⟨e0,e11⟩ ?_
    (repeat ((first | (refine a02 (v:=?_) rfl (by rfl) (fun wq hSq=>?_) ?_;rotate_left;(focus ((try dsimp only at hSq);go_simp;try with_reducible rfl))) | refine a03 rfl (by rfl) ?_);simp only[Act.put,zA,zB,zC]))
    (refine a04 rfl (by rfl) (fun KK hK=>?_);go_simp)
    go_invoke
    go_simp
    refine HST2.out.mono ?_;rintro r wd ⟨rfl,q⟩;obtain⟨L,q1,q2⟩:=q.out;have HQ:=zH (And.intro q1 q2);clear q q1 q2;refine hK.out _ _ (HS.out _ _ _ _ HQ.out.1 (ah6 _ _ _)).1 ?_
    (clear hK KK;try simp only[Act.put,zA,zB,zC])
    (repeat ((first | (refine a02 (v:=?_) rfl (by rfl) (fun wq hSq=>?_) ?_;rotate_left;(focus ((try dsimp only at hSq);go_simp;try with_reducible rfl))) | refine a03 rfl (by rfl) ?_);simp only[Act.put,zA,zB,zC]))
    refine a13 ?_;go_wp2_with fail
    go_meet
    exact⟨rfl,rfl,L,HQ.out.1,(H1.out.2.1.trans (Ext.of_below ((Same.drew wc).below _))).trans HQ.out.2⟩
   ·refine a06 (fun u=>u.cell? ⟨g,i*20,none⟩=some (.iface 146 (.pointer (some ⟨v.tb t,0,none⟩)))/\u.cell? ⟨f.b,11,none⟩=some (.pointer (some ⟨f.mb,0,none⟩)) )  ((0,true)::(1,true)::(2,true)::(3,true)::(4,true)::(5,true)::(6,true)::(7,true)::(8,true)::(9,true)::(10,false)::(11,true)::(12,true)::(13,true)::(14,true)::(15,true)::[])  Md.Cv.follows13 (by kernel_rfl) (fun _ _ _ _ _ h=>h)  ⟨e0,e11⟩ ?_
    (repeat ((first | (refine a02 (v:=?_) rfl (by rfl) (fun wq hSq=>?_) ?_;rotate_left;(focus ((try dsimp only at hSq);go_simp;try with_reducible rfl))) | refine a03 rfl (by rfl) ?_);simp only[Act.put,zA,zB,zC]))
    (refine a04 rfl (by rfl) (fun KK hK=>?_);go_simp)
    go_invoke
    go_simp
    refine HST2.out.mono ?_;rintro r wd ⟨rfl,q⟩;obtain⟨L,q1,q2⟩:=q.out;have HQ:=zH (And.intro q1 q2);clear q q1 q2;refine hK.out _ _ (HS.out _ _ _ _ HQ.out.1 (ah6 _ _ _)).1 ?_
    (clear hK KK;try simp only[Act.put,zA,zB,zC])
    (repeat ((first | (refine a02 (v:=?_) rfl (by rfl) (fun wq hSq=>?_) ?_;rotate_left;(focus ((try dsimp only at hSq);go_simp;try with_reducible rfl))) | refine a03 rfl (by rfl) ?_);simp only[Act.put,zA,zB,zC]))
    refine a13 ?_;go_wp2_with fail
    go_meet
    exact⟨rfl,rfl,L,HQ.out.1,(H1.out.2.1.trans (Ext.of_below ((Same.drew wc).below _))).trans HQ.out.2⟩
  case rest =>
   obtain⟨rfl,rfl,HW⟩:=hcut;obtain⟨L,q1,q2⟩:=HW.out;have HQ:=zH (And.intro q1 q2);obtain⟨v1,hv1⟩:∃ v1,v1={ v with G:=updG v.G t L }:=⟨_,rfl⟩
   have HV1:Hid (v1.tb=v.tb):=by rw[hv1];trivial
   rw[<- hv1]at HQ q1;have c14:=q1.up.c14;have k15:=(q1.at_.cell 15).trans (rfl:_=some (Value.int .i64 d.N));have k12:=(q1.at_.cell 12).trans (rfl:_=some (Value.pointer (some ⟨f.rb,0,none⟩)));have lb:=q1.at_.ltB;have lg:=q1.up.lt;clear q1 q2 HW hv1 H1 HST;have ht:=HQ.out.1.ht;have o2:=aO4 d.rd t;have o3:=bE3 (Sd.stepN d.rd t) t;have HP:Hid (∀ u,Bl wc u->EnAt (u.setCell ⟨f.gc,t*3+2,none⟩ (.int .i64 (-1))) f v1 s { goD d t y with cr:=updA d.cr t #[.slice qa nc qc,.int .i64 bgn,.int .i64 (-1)] }/\Ext f v v1 w (u.setCell ⟨f.gc,t*3+2,none⟩ (.int .i64 (-1)))):=fun u hu=>by
    have z:=(HQ.out.1.on hu).rest;exact⟨z.1,(HQ.out.2.trans (Ext.of_below hu)).trans z.2⟩
   have HR:Hid (∀ u,EnAt u f v1 s { goD d t y with cr:=updA d.cr t #[.slice qa nc qc,.int .i64 bgn,.int .i64 (-1)] }/\Ext f v v1 w u->Calls Tryz.prog 71 #[.pointer (some ⟨f.rb,0,none⟩),.int .i64 (t:Int)] u fun e w'=>e=.returned (.int .i64 0)/\Hid (EnAt w' f v1 s { goD d t y with cr:=updA d.cr t #[.slice qa nc qc,.int .i64 bgn,.int .i64 (-1)],rd:=Sd.stepN d.rd t }/\Ext f v v1 w w')):=fun u hu=>by
    refine(Sd.step_in hu.1.rds t (by show t<d.rd.n;omega) (by show d.rd.n<=8;omega) (by show d.rd.o<_;omega)).mono ?_;rintro e w' ⟨rfl,r1,r2⟩;obtain⟨h2,x2⟩:=hu.1.setR r2 r1;exact⟨rfl,h2,hu.2.trans x2⟩
   have HN:Hid (∀ u,EnAt u f v1 s { goD d t y with cr:=updA d.cr t #[.slice qa nc qc,.int .i64 bgn,.int .i64 (-1)],rd:=Sd.stepN d.rd t }/\Ext f v v1 w u->Calls Tryz.prog 33 #[.pointer (some ⟨f.b,0,none⟩),.int .i64 (t:Int)] u fun r w'=>r=.returned (.tuple #[])/\Hid (EnAt w' f v1 s { goD d t y with cr:=updA d.cr t #[.slice qa nc qc,.int .i64 bgn,.int .i64 (-1)],rd:=rd' }/\Ext f v v1 w w')):=fun u hu=>by
    refine(au1 hu.1 hs ht ((aO3 d.rd t).trans hrn) (by show (Sd.stepN d.rd t).o<_;omega) (qa:=qa) (nc:=nc) (qc:=qc) (bgn:=bgn) (go:=-1) (a25 _ _ _)).mono ?_;rintro r w' ⟨rfl,q⟩;have q:=q.out;dsimp only at q;rw[HRD.out]at q;exact⟨rfl,q.1,hu.2.trans q.2⟩
   have HO:Hid (∀ u,EnAt u f v1 s { goD d t y with cr:=updA d.cr t #[.slice qa nc qc,.int .i64 bgn,.int .i64 (-1)],rd:=rd' }/\Ext f v v1 w u->Calls Tryz.prog 39 #[.pointer (some ⟨f.rb,0,none⟩)] u fun e w'=>e=.returned (.int .i64 (rd'.o:Int))/\w'=u):=fun u hu=>Sd.over_any hu.1.rds
   have HCL:Hid (∀ u,EnAt u f v1 s { goD d t y with cr:=updA d.cr t #[.slice qa nc qc,.int .i64 bgn,.int .i64 (-1)],rd:=rd' }/\Ext f v v1 w u->Calls Tryz.prog 72 #[.pointer (some ⟨g,i*20,none⟩),.int .i64 d.N,.int .i64 (rd'.o:Int)] u fun r w'=>r=.returned (.tuple #[])/\Hid (∃ v' D,v'.tb=v.tb/\EnAt w' f v' s { goD d t y with T:=upT d.T t none,cr:=updA d.cr t #[.slice qa nc qc,.int .i64 bgn,.int .i64 (-1)],rd:=rd',tr:=updA d.tr i (trO (goS y d.ws) D th no pr bg d.N ah fr rd'.o),L:=fun j=>if j=i then some (D,af8 (goS y d.ws),macT (goS y d.ws)) else d.L j }/\Ext f v v' w w')):=fun u hu=>by
    refine(b13 hu.1 HQ.out.1.hi HQ.out.1.pt HQ.out.1.hT HQ.out.1.tr HI1.out).mono ?_;rintro r w' ⟨rfl,q⟩;obtain⟨v2,D,e1,e2,e3,k1,k2⟩:=q.out;obtain⟨k3,k4⟩:=k1.died t;refine⟨rfl,{ v2 with G:=updG v2.G t [] },D,e2.trans HV1.out,?_,(hu.2.trans k2).trans k4⟩;have eT:upT (upT d.T t (some (goS y d.ws))) t none=upT d.T t none:=by
     funext u
     by_cases q:u=t
     ·subst q;rw[a08,a08]
     ·rw[a24 _ _ q,a24 _ _ q,a24 _ _ q]
    have k5:=k3;dsimp only[goD]at k5;rw[eT]at k5;exact k5
   have HC:Hid (∀ u,EnAt u f v1 s { goD d t y with cr:=updA d.cr t #[.slice qa nc qc,.int .i64 bgn,.int .i64 (-1)],rd:=rd' }/\Ext f v v1 w u->u.cell? ⟨f.b,15,none⟩=some (.int .i64 d.N)/\u.cell? ⟨f.b,12,none⟩=some (.pointer (some ⟨f.rb,0,none⟩))/\f.b<u.heap.size):=fun u hu=>⟨(hu.1.cell 15).trans rfl,(hu.1.cell 12).trans rfl,hu.1.ltB⟩
   have sc:=(HQ.out.1.at_.course ht HQ.out.1.hc).2.2.1;have lc:=(HQ.out.1.at_.course ht HQ.out.1.hc).2.2.2;have fc:=HQ.out.1.at_.crs.free (t*3+2);clear o2 o3 HI1
   go_upto_region 3 with fail
   refine a06 (fun u=>u.cell? ⟨g,i*20+14,none⟩=some (.int .i64 bg)/\u.cell? ⟨f.b,15,none⟩=some (.int .i64 d.N) )  ((0,true)::(1,true)::(2,true)::(3,true)::(4,true)::(5,true)::(6,true)::(7,true)::(8,true)::(9,true)::[])  Md.Cv.follows13 (by kernel_rfl) (fun _ _ _ _ _ h=>h)  ⟨c14,k15⟩ ?_
   (repeat ((first | (refine a02 (v:=?_) rfl (by rfl) (fun wq hSq=>?_) ?_;rotate_left;(focus ((try dsimp only at hSq);go_simp;try with_reducible rfl))) | refine a03 rfl (by rfl) ?_);simp only[Act.put,zA,zB,zC]))
   refine a13 ?_;obtain⟨u1,hu1⟩:∃ u1,u1=wc.drew:=⟨_,rfl⟩
   rw[<- hu1];have HU1:Hid (Bl wc u1):=by rw[hu1];exact(Same.drew wc).below _
   have sc1:u1.cell? ⟨f.gc,t*3+2,none⟩=some (.int .i64 (i:Int)):=by rw[hu1];exact sc
   have fc1:u1.frozen? ⟨f.gc,t*3+2,none⟩=false:=by rw[hu1];exact fc
   have lc1:f.gc<u1.heap.size:=zL lc HU1.out.size;clear hu1 c14 k15 k12 lb sc fc lc
   go_upto_region 7 with fail
   have HE:=zH (HP.out _ HU1.out);obtain⟨u2,hu2⟩:∃ u2,u2=u1.setCell ⟨f.gc,t*3+2,none⟩ (.int .i64 (-1)):=⟨_,rfl⟩
   rw[<- hu2]at HE ⊢;clear hu2 HP sc1 fc1 lc1;have k12:=(HE.out.1.cell 12).trans (rfl:_=some (Value.pointer (some ⟨f.rb,0,none⟩)));have lb:=HE.out.1.ltB
   go_upto_region 10 with(first
    | (go_at_call 33;refine(HN.out _ H3.out).mono ?_;rintro r w4 ⟨rfl,q⟩;have H4:=zH q.out;clear q HN)
    | (go_at_call 71;refine(HR.out _ HE.out).mono ?_;rintro r w3 ⟨rfl,q⟩;have H3:=zH q.out;clear q HR k12 lb;have lb:=H3.out.1.ltB))
   clear lb;obtain⟨k15,k12,lb⟩:=HC.out _ H4.out;have H5:Hid (EnAt w4.drew f v1 s { goD d t y with cr:=updA d.cr t #[.slice qa nc qc,.int .i64 bgn,.int .i64 (-1)],rd:=rd' }/\Ext f v v1 w w4.drew):=⟨H4.out.1.same (Same.drew w4),H4.out.2.trans (Ext.of_below ((Same.drew w4).below _))⟩;refine a47 (fun u=>u.cell? ⟨f.b,15,none⟩=some (.int .i64 d.N)/\u.cell? ⟨f.b,12,none⟩=some (.pointer (some ⟨f.rb,0,none⟩)) )  ((0,true)::(1,true)::(2,true)::(3,true)::(4,true)::(5,true)::(6,true)::(7,true)::(8,true)::(9,false)::(10,false)::[])  Md.Cv.follows13 (by kernel_rfl) (fun _ _ _ _ _ h=>h)  ⟨k15,k12⟩ ?_
   (repeat (refine a33 (v:=?_) rfl (by rfl) (fun wq hSq=>?_) ?_;rotate_left;(focus ((try dsimp only at hSq);go_simp;try with_reducible rfl));simp only[Act.put,zA,zB,zC]))
   (refine a29 rfl (by rfl) (fun KK hK=>?_);go_simp)
   refine(HO.out _ H5.out).mono ?_;rintro r w5 ⟨rfl,hw5⟩;subst w5;refine hK.out _ _ (fun _=>⟨k15,k12⟩) ?_
   (clear hK KK;try simp only[Act.put,zA,zB,zC])
   (refine a29 rfl (by rfl) (fun KK hK=>?_);go_simp)
   refine(HCL.out _ H5.out).mono ?_;rintro r w6 ⟨rfl,q⟩;have H6:=zH q.out;clear q;refine hK.out _ _ (fun hn=>absurd rfl hn) ?_
   (clear hK KK;try simp only[Act.put,zA,zB,zC])
   refine a78 ?_;go_wp2_with fail
   go_end0
   obtain⟨v',D,z1,z2,z3⟩:=H6.out;exact⟨rfl,v',z1,⟨D,z2⟩,z3⟩
end
theorem aQ5 (s:Su) (t:Nat) (x:Int × List Nat) (ws:List Int):a51 (goS (newT s t x) ws)=false/\∀ m z,goS (newT s t x) ws=.inr (m,z)->z.part≠1:=by
 unfold newT
 by_cases q:(s.prog x.1).1=2
 ·rw[if_pos q]
  refine⟨rfl,fun m z e=>?_⟩;have e:z=(a09 (newY s.a s.b s.c s.e (s.prog x.1).1 (s.prog x.1).2 x.2 t) ws).1:=by
   injection e with e;injection e with _ e;exact e.symm
  rw[e]
  show (2:Nat)≠1
  omega
 ·rw[if_neg q]
  exact⟨rfl,fun m z e=>by cases e⟩
section
variable {s:Su} {v v':Ev} {d:Ed} {Z:Es} {t:Nat}
theorem aj5 {X:Rs} (h:X.H.E.T t=none):goI X t=-1:=if_pos (by rw[h];rfl)
theorem ac2 {X:Rs} {y:Ty} (h:X.H.E.T t=some y):goI X t=(X.H.at_ t:Int):=if_neg (by rw[h];exact Bool.false_ne_true)
theorem aD3 {X X':Rs} {u:Nat} (h:X'.H.E.T u=X.H.E.T u) (k:X'.H.at_ u=X.H.at_ u):goI X' u=goI X u:=by
 cases e:X.H.E.T u with
 | none=>rw[aj5 e,aj5 (h.trans e)]
 | some y=>rw[ac2 e,ac2 (h.trans e),k]
structure Came (X X':Rs) (t:Nat) (y:Ty) (T:Nat->Tx) (B at_:Nat->Nat) (D:Nat->Dd) (dn i:Nat):Prop where
 N:X'.H.N=X.H.N+1
 ws:X'.H.E.ws=goW y X.H.E.ws
 cnt:X'.H.E.cnt=if goA y X.H.E.ws then up X.H.E.cnt else X.H.E.cnt
 T:X'.H.E.T=upT T t (if a51 (goS y X.H.E.ws) then none else some (goS y X.H.E.ws))
 B:X'.H.E.B=B
 dn:X'.H.dn=dn
 at_:X'.H.at_=at_
 D:X'.H.D=updD D i { D i with tx:=goS y X.H.E.ws,en:=if a51 (goS y X.H.E.ws) then X.H.N+1 else 0 }
theorem am3 (h:WI s Z.X) (hT:Z.X.H.E.T t=none) {y:Ty} (hy:newT s t (s.call t (Z.X.H.E.B t))=y):Came Z.X (stepR Z.X t) t y (upT Z.X.H.E.T t (some y)) (updN Z.X.H.E.B t (Z.X.H.E.B t+1)) (updN Z.X.H.at_ t Z.X.H.dn) (updD Z.X.H.D Z.X.H.dn ⟨t,Z.X.H.E.B t,Z.X.H.N+1,0,y⟩) (Z.X.H.dn+1) Z.X.H.dn:=by
 have e1:=as4 h hT;rw[hy]at e1;have e2:=aD2 (t:=t) (H:=begH Z.X.H t) (y:=y) (by rw[e1];exact a08 _ _ _);have e:=(show (stepR Z.X t).H=goH (begH Z.X.H t) t from rfl).trans e2;refine⟨?_,?_,?_,?_,?_,?_,?_,?_⟩
 ·rw[e,e1]
 ·rw[e,e1]
 ·rw[e,e1]
 ·rw[e,e1]
 ·rw[e,e1]
 ·rw[e,e1]
 ·rw[e,e1]
 ·rw[e,e1]
  dsimp only;rw[a41]
theorem aj1 {y:Ty} (hT:Z.X.H.E.T t=some y):Came Z.X (stepR Z.X t) t y Z.X.H.E.T Z.X.H.E.B Z.X.H.at_ Z.X.H.D Z.X.H.dn (Z.X.H.at_ t):=by
 have e1:=aC4 (X:=Z.X) hT;have e2:=aD2 (t:=t) (H:=begH Z.X.H t) (y:=y) (by rw[e1];exact hT);have e:=(show (stepR Z.X t).H=goH (begH Z.X.H t) t from rfl).trans e2;refine⟨?_,?_,?_,?_,?_,?_,?_,?_⟩ <;> rw[e,e1]
theorem bf3 (h:Fits s v d Z) (wi:WI s Z.X) (hT:Z.X.H.E.T t=none) {bx:Nat} (hv:v'.tb=updN v.tb t bx) {qa:Option Addr} {qc:Nat}
  {y:Ty} (hy:newT s t (s.call t (Z.X.H.E.B t))=y) {d':Ed} (hd:d'={ N:=d.N+1,ws:=goW y d.ws,cnt:=(if goA y d.ws then up d.cnt else d.cnt),rd:=rdZ s (stepR Z.X t),cr:=updA d.cr t #[.slice qa (s.cs t).length qc,.int .i64 ((Z.X.H.E.B t+1:Nat):Int),.int .i64 (d.dn:Int)],dn:=d.dn+1,tr:=updA (updA d.tr d.dn (trU (txV y bx) t (Z.X.H.E.B t) (s.call t (Z.X.H.E.B t)).1 (d.N+1) 0 d.rd.o)) d.dn (trU (txV y bx) t (Z.X.H.E.B t) (s.call t (Z.X.H.E.B t)).1 (d.N+1) (az8 (goW y d.ws) (goS y d.ws)) d.rd.o),T:=upT (upT d.T t (some y)) t (some (goS y d.ws)),L:=d.L }):Fits s v' d' (ad6 s Z t):=by
 subst hd;have C:=am3 wi hT hy;have fg:=(aQ5 s t (s.call t (Z.X.H.E.B t)) Z.X.H.E.ws).1;rw[hy]at fg;have hA:(ad6 s Z t).A=updI Z.A Z.X.H.dn (az8 (goW y Z.X.H.E.ws) (goS y Z.X.H.E.ws)):=by
  rw[<- hy];exact if_pos (by rw[hT];rfl)
 have hfr:(ad6 s Z t).X.fr=updN Z.X.fr Z.X.H.dn Z.X.R:=if_pos (by rw[hT];rfl);have eT:(stepR Z.X t).H.E.T=upT (upT Z.X.H.E.T t (some y)) t (some (goS y Z.X.H.E.ws)):=by rw[C.T,fg];rfl
 have hto:(ad6 s Z t).X.to_=Z.X.to_:=if_neg (by
  show ¬ ((stepR Z.X t).H.E.T t).isNone=true
  rw[eT,a08];exact Bool.false_ne_true)
 have eD:(ad6 s Z t).X.H.D=updD (updD Z.X.H.D Z.X.H.dn ⟨t,Z.X.H.E.B t,Z.X.H.N+1,0,y⟩) Z.X.H.dn ⟨t,Z.X.H.E.B t,Z.X.H.N+1,0,goS y Z.X.H.E.ws⟩:=by
  show (stepR Z.X t).H.D=_
  rw[C.D,fg,a18]
  rfl
 have hro:(d.rd.o:Int)=(Z.X.R:Int):=by rw[h.rd];rfl
 have en:∀ i,i<Z.X.H.dn->(Z.X.H.D i).en=0->(Z.X.H.D i).th≠t:=fun i hi e0 q=>by
  have:=(wi.un i hi e0).1;rw[q,hT]at this
  cases this
 refine⟨?_,?_,?_,rfl,?_,?_,fun u hu=>?_,fun i hi e0=>?_,fun i hi e0=>?_⟩
 ·show d.N+1=((stepR Z.X t).H.N:Int);rw[C.N,h.N];rfl
 ·show goW y d.ws=(stepR Z.X t).H.E.ws;rw[C.ws,h.ws]
 ·show (if goA y d.ws then up d.cnt else d.cnt)=(stepR Z.X t).H.E.cnt;rw[C.cnt,h.ws,h.cnt]
 ·show upT (upT d.T t (some y)) t (some (goS y d.ws))=(stepR Z.X t).H.E.T;rw[eT,h.T,h.ws]
 ·show d.dn+1=(stepR Z.X t).H.dn;rw[C.dn,h.dn]
 ·show ∃ qa qc,updA d.cr t _ u=#[_,.int .i64 ((stepR Z.X t).H.E.B u:Int),.int .i64 (goI (stepR Z.X t) u)]
  rw[C.B]
  by_cases q:u=t
  ·subst q
   refine⟨qa,qc,?_⟩;rw[a25,a41,ac2 (X:=stepR Z.X u) (y:=goS y Z.X.H.E.ws) (by rw[eT];exact a08 _ _ _),C.at_,a41,h.dn]
  ·obtain⟨qa',qc',k⟩:=h.cr u hu
   refine⟨qa',qc',?_⟩;rw[a35 _ _ q,k,a67 _ _ q,aD3 (X:=Z.X) (X':=stepR Z.X t) (by rw[eT,a24 _ _ q,a24 _ _ q]) (by rw[C.at_,a67 _ _ q])]
 ·have hi:i<(stepR Z.X t).H.dn:=hi
  rw[C.dn]at hi;rw[eD]at e0 ⊢;rw[hA,hfr];dsimp only
  rcases Nat.lt_or_eq_of_le (Nat.le_of_lt_succ hi) with c | c
  ·rw[a40 _ _ (by omega),a40 _ _ (by omega)]at e0 ⊢
   rw[bc0 _ _ (by omega),a67 _ _ (by omega),hv,a67 _ _ (en i c e0),a35 _ _ (by rw[h.dn];omega),a35 _ _ (by rw[h.dn];omega)];exact h.up i c e0
  ·subst c
   rw[a18,bc1,a41,hv,<- h.dn,a25];dsimp only;rw[a41,ah6,hro,h.ws,h.N]
   rfl
 ·have hi:i<(stepR Z.X t).H.dn:=hi
  rw[C.dn]at hi;rw[eD]at e0 ⊢;rw[hA,hfr,hto];dsimp only
  rcases Nat.lt_or_eq_of_le (Nat.le_of_lt_succ hi) with c | c
  ·rw[a40 _ _ (by omega),a40 _ _ (by omega)]at e0 ⊢
   rw[bc0 _ _ (by omega),a67 _ _ (by omega),a35 _ _ (by rw[h.dn];omega),a35 _ _ (by rw[h.dn];omega)];exact h.ov i c e0
  ·subst c
   rw[a18]at e0;exact absurd rfl e0
theorem bf2 (h:Fits s v d Z) (wi:WI s Z.X) (ht:t<s.n) {y:Ty} (hT:Z.X.H.E.T t=some y) (ho:a51 (goS y Z.X.H.E.ws)=false) (hv:v'.tb=v.tb)
  {d':Ed} (hd:d'={ d with N:=d.N+1,ws:=goW y d.ws,cnt:=(if goA y d.ws then up d.cnt else d.cnt),rd:=rdZ s (stepR Z.X t),T:=upT d.T t (some (goS y d.ws)) }):Fits s v' d' (ad6 s Z t):=by
 subst hd;have C:=aj1 hT;obtain⟨u1,u2,u3,u4⟩:=wi.up t y ht hT;have hA:(ad6 s Z t).A=Z.A:=if_neg (by rw[hT];exact Bool.false_ne_true);have hfr:(ad6 s Z t).X.fr=Z.X.fr:=if_neg (by rw[hT];exact Bool.false_ne_true);have eT:(stepR Z.X t).H.E.T=upT Z.X.H.E.T t (some (goS y Z.X.H.E.ws)):=by rw[C.T,ho];rfl
 have hto:(ad6 s Z t).X.to_=Z.X.to_:=if_neg (by
  show ¬ ((stepR Z.X t).H.E.T t).isNone=true
  rw[eT,a08];exact Bool.false_ne_true)
 have eD:(ad6 s Z t).X.H.D=updD Z.X.H.D (Z.X.H.at_ t) { Z.X.H.D (Z.X.H.at_ t) with tx:=goS y Z.X.H.E.ws,en:=0 }:=by
  show (stepR Z.X t).H.D=_
  rw[C.D,ho]
  rfl
 refine⟨?_,?_,?_,rfl,?_,?_,fun u hu=>?_,fun i hi e0=>?_,fun i hi e0=>?_⟩
 ·show d.N+1=((stepR Z.X t).H.N:Int);rw[C.N,h.N];rfl
 ·show goW y d.ws=(stepR Z.X t).H.E.ws;rw[C.ws,h.ws]
 ·show (if goA y d.ws then up d.cnt else d.cnt)=(stepR Z.X t).H.E.cnt;rw[C.cnt,h.ws,h.cnt]
 ·show upT d.T t (some (goS y d.ws))=(stepR Z.X t).H.E.T;rw[eT,h.T,h.ws]
 ·show d.dn=(stepR Z.X t).H.dn;rw[C.dn,h.dn]
 ·show ∃ qa qc,d.cr u=#[_,.int .i64 ((stepR Z.X t).H.E.B u:Int),.int .i64 (goI (stepR Z.X t) u)]
  rw[C.B];obtain⟨qa',qc',k⟩:=h.cr u hu;refine⟨qa',qc',?_⟩;rw[k]
  by_cases q:u=t
  ·subst q
   rw[ac2 (X:=stepR Z.X u) (y:=goS y Z.X.H.E.ws) (by rw[eT];exact a08 _ _ _),C.at_,ac2 hT]
  ·rw[aD3 (X:=Z.X) (X':=stepR Z.X t) (by rw[eT,a24 _ _ q]) (by rw[C.at_])]
 ·have hi:i<(stepR Z.X t).H.dn:=hi
  rw[C.dn]at hi;rw[eD]at e0 ⊢;rw[hA,hfr,hv]
  by_cases c:i=Z.X.H.at_ t
  ·rw[c,a18]
   dsimp only;rw[ah6,<- u4];exact h.up _ u1 u3
  ·rw[a40 _ _ c]at e0 ⊢
   exact h.up i hi e0
 ·have hi:i<(stepR Z.X t).H.dn:=hi
  rw[C.dn]at hi;rw[eD]at e0 ⊢;rw[hA,hfr,hto]
  by_cases c:i=Z.X.H.at_ t
  ·rw[c,a18]at e0
   exact absurd rfl e0
  ·rw[a40 _ _ c]at e0 ⊢
   exact h.ov i hi e0
theorem b32 (h:Fits s v d Z) (wi:WI s Z.X) (ht:t<s.n) {y:Ty} (hT:Z.X.H.E.T t=some y) (ho:a51 (goS y Z.X.H.E.ws)=true) (hv:v'.tb=v.tb) {qa:Option Addr} {qc:Nat} {D:Rr.Dd}
  {d':Ed} (hd:d'={ d with N:=d.N+1,ws:=goW y d.ws,cnt:=(if goA y d.ws then up d.cnt else d.cnt),rd:=rdZ s (stepR Z.X t),T:=upT d.T t none,cr:=updA d.cr t #[.slice qa (s.cs t).length qc,.int .i64 (Z.X.H.E.B t:Int),.int .i64 (-1)],tr:=updA d.tr (Z.X.H.at_ t) (trO (goS y d.ws) D t (Z.X.H.D (Z.X.H.at_ t)).no (s.call t (Z.X.H.D (Z.X.H.at_ t)).no).1 (Z.X.H.D (Z.X.H.at_ t)).bg (d.N+1) (Z.A (Z.X.H.at_ t)) (Z.X.fr (Z.X.H.at_ t)) ((stepR Z.X t).R:Int)),L:=fun j=>if j=Z.X.H.at_ t then some (D,af8 (goS y d.ws),macT (goS y d.ws)) else d.L j }):Fits s v' d' (ad6 s Z t):=by
 subst hd;have C:=aj1 hT;obtain⟨u1,u2,u3,u4⟩:=wi.up t y ht hT;have hA:(ad6 s Z t).A=Z.A:=if_neg (by rw[hT];exact Bool.false_ne_true);have hfr:(ad6 s Z t).X.fr=Z.X.fr:=if_neg (by rw[hT];exact Bool.false_ne_true);have eT:(stepR Z.X t).H.E.T=upT Z.X.H.E.T t none:=by rw[C.T,ho];rfl
 have hto:(ad6 s Z t).X.to_=updN Z.X.to_ (Z.X.H.at_ t) (stepR Z.X t).R:=by
  have e:(ad6 s Z t).X.to_=updN Z.X.to_ ((stepR Z.X t).H.at_ t) (stepR Z.X t).R:=if_pos (by
   show ((stepR Z.X t).H.E.T t).isNone=true
   rw[eT,a08]
   rfl)
  rw[e,C.at_]
 have eD:(ad6 s Z t).X.H.D=updD Z.X.H.D (Z.X.H.at_ t) { Z.X.H.D (Z.X.H.at_ t) with tx:=goS y Z.X.H.E.ws,en:=Z.X.H.N+1 }:=by
  show (stepR Z.X t).H.D=_
  rw[C.D,ho]
  rfl
 refine⟨?_,?_,?_,rfl,?_,?_,fun u hu=>?_,fun i hi e0=>?_,fun i hi e0=>?_⟩
 ·show d.N+1=((stepR Z.X t).H.N:Int);rw[C.N,h.N];rfl
 ·show goW y d.ws=(stepR Z.X t).H.E.ws;rw[C.ws,h.ws]
 ·show (if goA y d.ws then up d.cnt else d.cnt)=(stepR Z.X t).H.E.cnt;rw[C.cnt,h.ws,h.cnt]
 ·show upT d.T t none=(stepR Z.X t).H.E.T;rw[eT,h.T]
 ·show d.dn=(stepR Z.X t).H.dn;rw[C.dn,h.dn]
 ·show ∃ qa qc,updA d.cr t _ u=#[_,.int .i64 ((stepR Z.X t).H.E.B u:Int),.int .i64 (goI (stepR Z.X t) u)]
  rw[C.B]
  by_cases q:u=t
  ·subst q
   refine⟨qa,qc,?_⟩;rw[a25,aj5 (X:=stepR Z.X u) (by rw[eT];exact a08 _ _ _)]
  ·obtain⟨qa',qc',k⟩:=h.cr u hu
   refine⟨qa',qc',?_⟩;rw[a35 _ _ q,k,aD3 (X:=Z.X) (X':=stepR Z.X t) (by rw[eT,a24 _ _ q]) (by rw[C.at_])]
 ·have hi:i<(stepR Z.X t).H.dn:=hi
  rw[C.dn]at hi;rw[eD]at e0 ⊢;rw[hA,hfr,hv]
  by_cases c:i=Z.X.H.at_ t
  ·rw[c,a18]at e0
   dsimp only at e0;omega
  ·rw[a40 _ _ c]at e0 ⊢
   dsimp only;rw[a35 _ _ c];exact h.up i hi e0
 ·have hi:i<(stepR Z.X t).H.dn:=hi
  rw[C.dn]at hi;rw[eD]at e0 ⊢;rw[hA,hfr,hto]
  by_cases c:i=Z.X.H.at_ t
  ·rw[c,a18,a41]
   dsimp only;rw[if_pos rfl,a25,u2,h.ws,h.N];exact⟨D,rfl,rfl⟩
  ·rw[a40 _ _ c,a67 _ _ c]at *
   dsimp only;rw[if_neg c,a35 _ _ c];exact h.ov i hi e0
end
section
variable {w w':World} {f:Ex} {v v':Ev} {s:Su} {d:Ed} {Z:Es} {t:Nat}
theorem bp5 (X:Rs) (t:Nat):(stepR X t).R<=X.R+1:=by
 show (if aL8 (ak5 X.H t).E _ (ak5 X.H t).E.n then X.R+1 else X.R)<=X.R+1
 split <;> omega
theorem av5 {E:Eg} {y:Ty} (h:E.T t=some y):finB E t=false:=zU fun q=>by rw[q.1]at h;cases h
theorem av4 {E:Eg} (h:E.T t=none):finB E t=decide (E.B t=E.nc t):=decide_eq_decide.2 ⟨fun q=>q.2,fun q=>⟨h,q⟩⟩
theorem EnAt.reRd (h:EnAt w f v s d) {r:Sd.Rd} (a:Alk d.rd r):EnAt w f v s { d with rd:=r }:=(h.setR (Turn.refl _ _) (a.at_ h.rds)).1
theorem WI.n8 (h:WI s Z.X) (hs:SuIn s):Z.X.H.E.n=s.n/\s.n<=8:=⟨h.n,by have:=hs.nb;have:=hs.b8;omega⟩
theorem bs2 (fi:Fits s v d Z) (wi:WI s Z.X) (rn:Z.X.R<=Z.X.H.N) (hs:SuIn s) (ht:t<s.n) (hT:Z.X.H.E.T t=none) (hB:Z.X.H.E.B t<(s.cs t).length) (hN:Z.X.H.N<4611686018427387904) {bx:Nat} (hv:v'.tb=updN v.tb t bx) {qa:Option Addr} {qc:Nat} {y:Ty} (hy:newT s t (s.call t (Z.X.H.E.B t))=y)
  (h:EnAt w f v' s { d with N:=d.N+1,T:=upT d.T t (some y),dn:=d.dn+1,tr:=updA d.tr d.dn (trU (txV y bx) t (Z.X.H.E.B t) (s.call t (Z.X.H.E.B t)).1 (d.N+1) 0 d.rd.o),cr:=updA d.cr t #[.slice qa (s.cs t).length qc,.int .i64 ((Z.X.H.E.B t+1:Nat):Int),.int .i64 (d.dn:Int)] }) :
  Calls Tryz.prog 46 #[.pointer (some ⟨f.b,0,none⟩),.int .i64 (t:Int)] w fun r w'=>r=.returned (.tuple #[])/\Hid (∃ v'',Eng w' f v'' s (ad6 s Z t)/\Ext f v' v'' w w'):=by
 obtain⟨n1,n8⟩:=wi.n8 hs;have hf:¬ finE Z.X.H.E t:=fun q=>by have:=q.2;rw[wi.nc]at this;dsimp only at this;omega
 obtain⟨g,hp,_,_⟩:=h.arr (by show 0<d.dn+1;omega);obtain⟨i1,i2⟩:=bi5 hs ht hB;have fg:=aQ5 s t (s.call t (Z.X.H.E.B t)) d.ws;rw[hy]at i1 i2 fg;have few:=(wi.begins hs ht hf).1.few hs;have e1:(begR Z.X t).H.dn=Z.X.H.dn+1:=by
  show (begH Z.X.H t).dn=_
  rw[as4 wi hT]
 rw[e1,<- fi.dn]at few;have W:Way w f v' s { d with N:=d.N+1,T:=upT d.T t (some y),dn:=d.dn+1,tr:=updA d.tr d.dn (trU (txV y bx) t (Z.X.H.E.B t) (s.call t (Z.X.H.E.B t)).1 (d.N+1) 0 d.rd.o),cr:=updA d.cr t #[.slice qa (s.cs t).length qc,.int .i64 ((Z.X.H.E.B t+1:Nat):Int),.int .i64 (d.dn:Int)] } t d.dn g (s.cs t).length qc qa ((Z.X.H.E.B t+1:Nat):Int) y t (Z.X.H.E.B t) (s.call t (Z.X.H.E.B t)).1 (d.N+1) 0 d.rd.o:=⟨h,ht,a08 _ _ _,Nat.lt_succ_self _,a25 _ _ _,by dsimp only;rw[a25,hv,a41],hp⟩;refine(aZ3 W hs i1 i2 (by show okW d.ws;rw[fi.ws];exact wi.ok) (by show ((d.ws.length:Nat):Int)=_;rw[fi.ws];exact wi.len) (by omega) (by show d.dn+1<=512;omega) (by show d.rd.n=s.n;rw[fi.rd];rfl) (by show d.rd.o<_;rw[fi.rd];show Z.X.R<_;omega) fg.1 (by simp) fg.2).mono ?_;rintro r w' ⟨rfl,q⟩;obtain⟨v'',e2,k1,k2⟩:=q.out;have C:=am3 wi hT hy;have fb:finB (stepR Z.X t).H.E t=false:=av5 (y:=goS y Z.X.H.E.ws) (by rw[C.T];rw[<- fi.ws,fg.1];exact a08 _ _ _);have al:=b84 (s:=s) (X:=Z.X) n1 n8 ht (zU hf);rw[fb,if_neg Bool.false_ne_true,<- fi.rd]at al;refine⟨rfl,v'',⟨⟨_,k1.reRd al,bf3 fi wi hT (bx:=bx) (qa:=qa) (qc:=qc) (e2.trans hv) hy ?_⟩,wi.step hs ht hf,?_⟩,k2⟩
 ·dsimp only[goD]
  rw[hv,a41]
 ·have:=bp5 Z.X t
  show (stepR Z.X t).R<=(stepR Z.X t).H.N
  rw[C.N];omega
theorem bs3 (fi:Fits s v d Z) (wi:WI s Z.X) (rn:Z.X.R<=Z.X.H.N) (hs:SuIn s) (ht:t<s.n) {y:Ty} (hT:Z.X.H.E.T t=some y) (hN:Z.X.H.N<4611686018427387904) (h:EnAt w f v s { d with N:=d.N+1 }) :
  Calls Tryz.prog 46 #[.pointer (some ⟨f.b,0,none⟩),.int .i64 (t:Int)] w fun r w'=>r=.returned (.tuple #[])/\Hid (∃ v'',Eng w' f v'' s (ad6 s Z t)/\Ext f v v'' w w'):=by
 obtain⟨n1,n8⟩:=wi.n8 hs;have hf:¬ finE Z.X.H.E t:=fun q=>by rw[q.1]at hT;cases hT
 obtain⟨u1,u2,u3,u4⟩:=wi.up t y ht hT;obtain⟨i1,i2⟩:=wi.T t y ht hT;obtain⟨g,hp,_,_⟩:=h.arr (by show 0<d.dn;rw[fi.dn];omega);obtain⟨qa,qc,hc⟩:=fi.cr t ht;rw[ac2 hT]at hc;obtain⟨_,_,_,b4,_⟩:=wi.D _ u1;have hup:=fi.up _ u1 u3;rw[u2,u4]at hup;have few:=wi.few hs;have C:=aj1 hT;have W:Way w f v s { d with N:=d.N+1 } t (Z.X.H.at_ t) g (s.cs t).length qc qa (Z.X.H.E.B t) y t (Z.X.H.D (Z.X.H.at_ t)).no (s.call t (Z.X.H.D (Z.X.H.at_ t)).no).1 (Z.X.H.D (Z.X.H.at_ t)).bg (Z.A (Z.X.H.at_ t)) (Z.X.fr (Z.X.H.at_ t)):=⟨h,ht,by show d.T t=_;rw[fi.T];exact hT,by show _<d.dn;rw[fi.dn];exact u1,hc,hup,hp⟩;have hne:(((Z.X.H.D (Z.X.H.at_ t)).bg:Int) == d.N+1)=false:=by
  rw[fi.N]
  simp
  omega
 have p1:okW d.ws:=by rw[fi.ws];exact wi.ok
 have p2:((d.ws.length:Nat):Int)=3+s.b+3*s.a:=by rw[fi.ws];exact wi.len
 have p3:d.dn<=512:=by rw[fi.dn];exact few
 have p4:d.rd.n=s.n:=by rw[fi.rd];rfl
 have p5:d.rd.o<9223372036854775806:=by rw[fi.rd];show Z.X.R<_;omega
 have rn':(stepR Z.X t).R<=(stepR Z.X t).H.N:=by
  have:=bp5 Z.X t;rw[C.N];omega
 have al:=b84 (s:=s) (X:=Z.X) n1 n8 ht (zU hf)
 cases ho:a51 (goS y Z.X.H.E.ws) with
 | false =>
  refine(bs1 W hs i1 i2 p1 p2 (by omega) p3 p4 p5 (by show a51 (goS y d.ws)=false;rw[fi.ws];exact ho) hne).mono ?_;rintro r w' ⟨rfl,q⟩;obtain⟨v'',e2,k1,k2⟩:=q.out;have fb:finB (stepR Z.X t).H.E t=false:=av5 (y:=goS y Z.X.H.E.ws) (by rw[C.T,ho];exact a08 _ _ _);rw[fb,if_neg Bool.false_ne_true,<- fi.rd]at al;exact⟨rfl,v'',⟨⟨_,k1.reRd al,bf2 fi wi ht hT ho e2 rfl⟩,wi.step hs ht hf,rn'⟩,k2⟩
 | true =>
  have fb:finB (stepR Z.X t).H.E t=finI (Z.X.H.E.B t) (-1) (s.cs t).length:=by
   rw[av4 (by rw[C.T,ho];exact a08 _ _ _),C.B];have e:(stepR Z.X t).H.E.nc=fun t=>(s.cs t).length:=(wi.step hs ht hf).nc
   rw[e];unfold finI;rw[zT rfl,Bool.true_and]
   show decide (Z.X.H.E.B t=(s.cs t).length)=decide ((Z.X.H.E.B t:Int)=((s.cs t).length:Int))
   exact decide_eq_decide.2 ⟨fun q=>by omega,fun q=>by omega⟩
  rw[fb,<- fi.rd]at al;refine(bd2 W hs i1 i2 p1 p2 (by omega) p3 p4 p5 (by show a51 (goS y d.ws)=true;rw[fi.ws];exact ho) hne rfl).mono ?_;rintro r w' ⟨rfl,q⟩;obtain⟨v'',D,e2,k1,k2⟩:=q.out;refine⟨rfl,v'',⟨⟨_,k1.reRd al,b32 fi wi ht hT ho e2 (qa:=qa) (qc:=qc) (D:=D) ?_⟩,wi.step hs ht hf,rn'⟩,k2⟩;dsimp only[goD];rw[al.o]
  rfl
theorem bn8 (h:Eng w f v s Z) (hs:SuIn s) (ht:t<s.n) (hf:finE Z.X.H.E t):Calls Tryz.prog 20 #[.pointer (some ⟨f.b,0,none⟩),.int .i64 (t:Int)] w fun r w'=>r=.returned (.tuple #[.bool false,.int .i64 0])/\Same w w':=by
 have wi:=h.wi;obtain⟨d,h,fi⟩:=h.at_;have HA:=zH (aa2 h hs (t:Int));rw[show (decide (0<=(t:Int)) && decide ((t:Int)<(s.n:Int)))=true by simp;omega]at HA;obtain⟨qa,qc,hc⟩:=fi.cr t ht;obtain⟨c0,c1,c2,lc⟩:=h.course ht hc;have HF:=zH (ad8 c0 c1 c2);rw[show finI (Z.X.H.E.B t:Int) (goI Z.X t) (s.cs t).length=true by
  have e:=hf.2;rw[wi.nc]at e;rw[aj5 hf.1];unfold finI;rw[zT rfl,Bool.true_and];exact zT (by dsimp only at e;omega)]at HF
 have k13:=(h.cell 13).trans (rfl:_=some (Value.slice (some ⟨f.gc,0,none⟩) s.n s.n));have lb:=h.ltB;have hti:(t:Int)<(s.n:Int):=by omega
 have h8:(s.n:Int)<=8:=by have:=(wi.n8 hs).2;omega
 clear h c0 c1 c2 fi wi hf hs hc;go_enter Tryz.func20,Tryz.ntmps20
 go_wp2_with (first
  | (go_at_call 40;refine HF.out.mono ?_;rintro r w2 ⟨rfl,q⟩;have H2:=zH q;clear q)
  | (go_at_call 44;refine HA.out.mono ?_;rintro r w1 ⟨rfl,hw⟩;subst w1))
 go_ret2;exact⟨rfl,H2.out⟩
theorem bn9 (h:Eng w f v s Z) (hs:SuIn s) (ht:t<s.n) (hf:¬ finE Z.X.H.E t) (hN:Z.X.H.N<4611686018427387904):Calls Tryz.prog 20 #[.pointer (some ⟨f.b,0,none⟩),.int .i64 (t:Int)] w fun r w'=>r=.returned (.tuple #[.bool true,.int .i64 0])/\Hid (∃ v',Eng w' f v' s (ad6 s Z t)/\Ext f v v' w w'):=by
 have wi:=h.wi;have rn:=h.rn;obtain⟨d,h,fi⟩:=h.at_;have HA:=zH (aa2 h hs (t:Int));rw[show (decide (0<=(t:Int)) && decide ((t:Int)<(s.n:Int)))=true by simp;omega]at HA;obtain⟨qa,qc,hc⟩:=fi.cr t ht;obtain⟨c0,c1,c2,lc⟩:=h.course ht hc;have HF:=zH (ad8 c0 c1 c2);rw[show finI (Z.X.H.E.B t:Int) (goI Z.X t) (s.cs t).length=false by
  unfold finI;rw[Bool.and_eq_false_iff]
  cases e:Z.X.H.E.T t with
  | none =>
   refine .inr (zU fun q=>hf ⟨e,?_⟩);rw[wi.nc];dsimp only;omega
  | some y =>
   refine .inl (zU fun q=>?_);rw[ac2 e]at q;omega]at HF
 have k13:=(h.cell 13).trans (rfl:_=some (Value.slice (some ⟨f.gc,0,none⟩) s.n s.n));have lb:=h.ltB;have hti:(t:Int)<(s.n:Int):=by omega
 have h8:(s.n:Int)<=8:=by have:=(wi.n8 hs).2;omega
 have n0:0<=d.N:=by rw[fi.N];omega
 have n1:d.N<4611686018427387904:=by rw[fi.N];omega
 have HS:Hid (∀ u,Same w u->(u.cell? ⟨f.b,15,none⟩=some (.int .i64 d.N)/\u.frozen? ⟨f.b,15,none⟩=false/\u.cell? ⟨f.gc,t*3+2,none⟩=some (.int .i64 (goI Z.X t))/\f.b<u.heap.size/\f.gc<u.heap.size/\¬ f.gc=f.b)/\EnAt (u.setCell ⟨f.b,15,none⟩ (.int .i64 (d.N+1))) f v s { d with N:=d.N+1 }/\Ext f v v w (u.setCell ⟨f.b,15,none⟩ (.int .i64 (d.N+1)))):=fun u hu=>by
  have h1:=h.same hu;obtain⟨k1,k2⟩:=h1.setN (d.N+1);exact⟨⟨(h1.cell 15).trans rfl,h1.free 15,(h1.course ht hc).2.2.1,h1.ltB,h1.crs.lt,fun e=>h1.apart 3 0 (by omega) f.gc (by simp[own]) (by simp[own,e])⟩,k1,(Ext.of_below (hu.below _)).trans k2⟩
 cases hT:Z.X.H.E.T t with
 | none =>
  have hB:=wi.less ht hf hT;rw[aj5 hT]at HS hc;obtain⟨y,hy⟩:∃ y,newT s t (s.call t (Z.X.H.E.B t))=y:=⟨_,rfl⟩
  have HBG:Hid (∀ u,EnAt u f v s { d with N:=d.N+1 }/\Ext f v v w u->Calls Tryz.prog 45 #[.pointer (some ⟨f.b,0,none⟩),.int .i64 (t:Int)] u fun r w'=>r=.returned (.tuple #[])/\Hid (∃ v' bx,v'.tb=updN v.tb t bx/\EnAt w' f v' s { d with N:=d.N+1,T:=upT d.T t (some y),dn:=d.dn+1,tr:=updA d.tr d.dn (trU (txV y bx) t (Z.X.H.E.B t) (s.call t (Z.X.H.E.B t)).1 (d.N+1) 0 d.rd.o),cr:=updA d.cr t #[.slice qa (s.cs t).length qc,.int .i64 ((Z.X.H.E.B t+1:Nat):Int),.int .i64 (d.dn:Int)] }/\Ext f v v' w w')):=fun u hu=>by
   refine(b01 hu.1 hs ht hB hc (by show d.T t=none;rw[fi.T];exact hT) (by show d.dn<=512;rw[fi.dn];exact wi.few hs)).mono ?_;rintro r w' ⟨rfl,q⟩;obtain⟨v',bx,k1,k2,k3⟩:=q.out;rw[hy]at k2;exact⟨rfl,v',bx,k1,k2,hu.2.trans k3⟩
  have HAD:Hid (∀ u,(∃ v' bx,v'.tb=updN v.tb t bx/\EnAt u f v' s { d with N:=d.N+1,T:=upT d.T t (some y),dn:=d.dn+1,tr:=updA d.tr d.dn (trU (txV y bx) t (Z.X.H.E.B t) (s.call t (Z.X.H.E.B t)).1 (d.N+1) 0 d.rd.o),cr:=updA d.cr t #[.slice qa (s.cs t).length qc,.int .i64 ((Z.X.H.E.B t+1:Nat):Int),.int .i64 (d.dn:Int)] }/\Ext f v v' w u)->Calls Tryz.prog 46 #[.pointer (some ⟨f.b,0,none⟩),.int .i64 (t:Int)] u fun r w'=>r=.returned (.tuple #[])/\Hid (∃ v',Eng w' f v' s (ad6 s Z t)/\Ext f v v' w w')):=fun u hu=>by
   obtain⟨v',bx,k1,k2,k3⟩:=hu;refine(bs2 fi wi rn hs ht hT hB hN k1 hy k2).mono ?_;rintro r w' ⟨rfl,q⟩;obtain⟨v'',j1,j2⟩:=q.out;exact⟨rfl,v'',j1,k3.trans j2⟩
  clear h c0 c1 c2 fi wi hf hs hc rn hy hT hB hN;go_enter Tryz.func20,Tryz.ntmps20
  go_wp2_with (first
   | (go_at_call 46;refine(HAD.out _ H4.out).mono ?_;rintro r w5 ⟨rfl,q⟩;have H5:=zH q.out;clear q)
   | (go_at_call 45;refine(HBG.out _ (HS.out _ H2.out).2).mono ?_;rintro r w4 ⟨rfl,q⟩;have H4:=zH q.out;clear q k15 f15 k2 lb lc hgb;obtain⟨v4,bx4,_,z2,_⟩:=H4.out;have lb:=z2.ltB;clear z2)
   | (go_at_call 40;refine HF.out.mono ?_;rintro r w2 ⟨rfl,q⟩;have H2:=zH q;clear k13 lb lc;obtain⟨k15,f15,k2,lb,lc,hgb⟩:=(HS.out _ q).1;clear q)
   | (go_at_call 44;refine HA.out.mono ?_;rintro r w1 ⟨rfl,hw⟩;subst w1))
  go_ret2;exact⟨rfl,H5.out⟩
 | some y =>
  have HAD:Hid (∀ u,EnAt u f v s { d with N:=d.N+1 }/\Ext f v v w u->Calls Tryz.prog 46 #[.pointer (some ⟨f.b,0,none⟩),.int .i64 (t:Int)] u fun r w'=>r=.returned (.tuple #[])/\Hid (∃ v',Eng w' f v' s (ad6 s Z t)/\Ext f v v' w w')):=fun u hu=>by
   refine(bs3 fi wi rn hs ht hT hN hu.1).mono ?_;rintro r w' ⟨rfl,q⟩;obtain⟨v'',j1,j2⟩:=q.out;exact⟨rfl,v'',j1,hu.2.trans j2⟩
  rw[ac2 hT]at HS;obtain⟨i,hi⟩:∃ i,Z.X.H.at_ t=i:=⟨_,rfl⟩
  rw[hi]at HS;have hib:((i:Int) == -1)=false:=by simp
  clear h c0 c1 c2 fi wi hf hs hc rn hT hN hi;go_enter Tryz.func20,Tryz.ntmps20
  go_wp2_with (first
   | (go_at_call 46;refine(HAD.out _ (HS.out _ H2.out).2).mono ?_;rintro r w5 ⟨rfl,q⟩;have H5:=zH q.out;clear q)
   | (go_at_call 40;refine HF.out.mono ?_;rintro r w2 ⟨rfl,q⟩;have H2:=zH q;clear k13 lb lc;obtain⟨k15,f15,k2,lb,lc,hgb⟩:=(HS.out _ q).1;clear q)
   | (go_at_call 44;refine HA.out.mono ?_;rintro r w1 ⟨rfl,hw⟩;subst w1))
  go_ret2;exact⟨rfl,H5.out⟩
end
end Go.Proofs.YtipakfjpfjehmaaGreatDoor.En
namespace Go.Proofs.YtipakfjpfjehmaaGreatDoor.Sd
open Go.ChangeShapes Go.WideShapes Go.ChangeAt Go.RowKit
theorem b45:(Tryz.prog.info? 3).map (fun i=>(i.zero,i.size,i.bytes))=some (some (.int .i64 0),1,8):=by kernel_rfl
def IntsAt (w:World) (p:Option Addr) (n:Nat) (x:Nat->Int):Prop :=
 ∀ i,i<n->∃ g o,p=some ⟨g,o,none⟩/\g<w.heap.size/\w.cell? ⟨g,o+i,none⟩=some (.int .i64 (x i))
theorem bL0 (n:Nat) (hn:n<=65536) (w:World):(Instr.makeSlice 29 (.int .i64 (n:Int)) (.int .i64 (n:Int))).run Tryz.prog w=.ok (.slice (some ⟨w.heap.size,0,none⟩) n n) (w.alloc (.cells (i64s (List.replicate n 0)).toArray 3)):=by
 obtain⟨i,hi,hz0,hz1,hz2⟩:=info_parts b45;rw[run_make w 29 3 i (.int .i64 0) Tryz.underlying29 hi hz0 .i64 .i64 n n (by omega) (zW _) (by rw[hz2];omega) (by omega)];have e:(madeCells (.int .i64 0:Value).cells (((n:Int)).toNat*i.size))=(i64s (List.replicate n 0)).toArray:=by
  rw[hz1,Nat.mul_one,Int.toNat_natCast]
  apply Array.toList_inj.1
  rw[show (.int .i64 0:Value).cells=#[.int .i64 0] from rfl,toList_madeCells_one]
  simp[i64s]
 rw[e,Int.toNat_natCast]
theorem row_put {E:TypeId} {w:World} {g c:Nat} {xs:List Value} (h:RowAt E w (some ⟨g,0,none⟩) c xs) (i:Nat) (z:Value):RowAt E (w.setCell ⟨g,i,none⟩ z) (some ⟨g,0,none⟩) c (xs.set i z)/\Turn [g] [g] w (w.setCell ⟨g,i,none⟩ z):=by
 obtain⟨hs,_⟩:=h.own.stored i z;refine⟨⟨?_⟩,a26 w g i z⟩;rw[List.length_set];exact hs
theorem row_get {E:TypeId} {w:World} {g c:Nat} {xs:List Value} (h:RowAt E w (some ⟨g,0,none⟩) c xs) {j:Nat} {v:Value} (hv:xs[j]?=some v):w.cell? ⟨g,j,none⟩=some v/\w.frozen? ⟨g,j,none⟩=false/\g<w.heap.size:=by
 rcases h.own.2 with⟨q,_⟩ | ⟨g',cap,cur,hq,_,hg,_⟩
 ·cases q
 ·cases hq
  refine⟨?_,zZ w g j _ _ hg,lt_of_block hg⟩;have:=World.ownsRow.cells h.own (g:=g) rfl j v hv;rwa[show (⟨g,0,none⟩:Addr).add j=⟨g,j,none⟩ by unfold Addr.add;split <;> simp_all]at this
theorem aB4 (n t:Int) (h1:1<=t):-t<n.tmod t/\n.tmod t<t:=by
 refine⟨?_,Int.tmod_lt_of_pos n (by omega)⟩;have h:=Int.tmod_lt_of_pos (-n) (b:=t) (by omega);rw[Int.neg_tmod]at h;omega
theorem aX9 (n t:Int):n.tmod t % t=n % t:=by
 have h:=Int.mul_tdiv_add_tmod n t
 conv=>rhs;rw[<- h]
 rw[Int.mul_add_emod_self_left]
theorem bf8 (n t:Int) (h1:1<=t):(n.tmod t+t).tmod t=n % t:=by
 have r:=aB4 n t h1;have e:(n.tmod t+t) % t=n.tmod t % t:=by simp
 rw[Int.tmod_eq_emod_of_nonneg (by omega),e,aX9]
theorem bf7 (n t:Int) (h1:1<=t) (h8:t<=8) (w:World):Calls Tryz.prog 62 #[.int .i64 n,.int .i64 t] w fun e w'=>e=.returned (.int .i64 (n % t))/\w'=w:=by
 have r:=aB4 n t h1;have e:(wrap64 (n.tmod t+t)).tmod t=n % t:=by
  rw[Go.IntWalk.wrap64_in _ ⟨by omega,by omega⟩];exact bf8 n t h1
 have HE:=zH e;clear e r;go_enter Tryz.func62,Tryz.ntmps62
 go_wp2
 go_ret;exact⟨by rw[HE.out];rfl,rfl⟩
def mix (y:Nat->Int) (n i:Nat):List Int:=(List.range n).map fun k=>if k<i then y k else 0
theorem b62 (y:Nat->Int) (n i:Nat):(mix y n i).length=n:=by simp[mix]
theorem bh6 (y:Nat->Int) (n:Nat):List.replicate n 0=mix y n 0:=by
 apply List.ext_getElem
 ·simp[mix]
 ·intro k h1 h2
  simp[mix]
theorem bv9 (y:Nat->Int) (n i:Nat):(mix y n i).set i (y i)=mix y n (i+1):=by
 apply List.ext_getElem
 ·simp[mix]
 ·intro k h1 h2
  rw[List.getElem_set]
  by_cases h:i=k
  ·subst h
   simp[mix]
  ·have e:(k<i+1)=(k<i):=by simp;omega
   simp[mix,h,e]
theorem bg2 (l:List Int) (i:Nat) (x:Int):(i64s l).set i (.int .i64 x)=i64s (l.set i x):=by simp[i64s,List.map_set]
theorem row_made (w:World) (n:Nat) (hn:n<=65536) (y:Nat->Int):RowAt 3 (w.alloc (.cells (i64s (List.replicate n 0)).toArray 3)) (some ⟨w.heap.size,0,none⟩) n (i64s (mix y n 0)):=by
 rw[bh6 y n];refine⟨?_⟩;rw[a37,b62];exact World.ownsRow_lit w _ n (zV _) (by unfold maxLen;omega) (by rw[List.size_toArray,a37,b62,Nat.mul_one])
section
variable {w:World} {p:Option Addr} {n c:Nat} {x:Nat->Int} {t:Int}
theorem Fold_yes (h1:1<=t) (h8:t<=8) (hn:n<=65536) (hx:IntsAt w p n x):Calls Tryz.prog 35 #[.slice p n c,.int .i64 t] w fun e w'=>∃ g,e=.returned (.tuple #[.slice (some ⟨g,0,none⟩) n n,.int .i64 0])/\g=w.heap.size/\RowAt 3 w' (some ⟨g,0,none⟩) n (i64s (mix (fun i=>x i % t) n n))/\Bl w w':=by
 have H1:=zH (a91 t);have ht:mayT t=true:=zT ⟨h1,h8⟩;rw[ht]at H1;clear ht;have hn':¬ (65536:Int)<(n:Int):=by omega
 have HX:=zH hx;have hmk:=bL0 n hn w;have HR:=zH (row_made w n hn (fun i=>x i % t));have HB:=zH ((zF w.heap.size w).alloc (zE _) (.cells (i64s (List.replicate n 0)).toArray 3));have HF:=zH (fun a w=>bf7 a t h1 h8 w);clear hx
 generalize hWW:w.alloc (.cells (i64s (List.replicate n 0)).toArray 3)=w0 at hmk HR HB
 clear hWW;obtain⟨g,hg⟩:∃ g,g=w.heap.size:=⟨_,rfl⟩
 rw[<- hg]at hmk HR;have HG:=zH hg;clear hg;go_enter Tryz.func35,Tryz.ntmps35
 go_wp2_with (go_at_call 57;refine(H1.out _).mono ?_;rintro e w1 ⟨rfl,hw⟩;subst w1)
 go_loopw [20] (fun vi wr=>∃ i:Nat,vi=.int .i64 i/\i<=n/\Hid (RowAt 3 wr (some ⟨g,0,none⟩) n (i64s (mix (fun i=>x i % t) n i))/\Bl w wr)) (fun vi _=>n - (intOf vi).toNat)
 case atStart=>exact⟨0,rfl,zV _,HR.out,HB.out⟩
 case round =>
  obtain⟨i,rfl,hi,HQ⟩:=hrel
  by_cases hlt:i<n
  ·have hlt':(i:Int)<(n:Int):=by omega
   obtain⟨ga,oa,hpa,ga1,hca⟩:=HX.out i hlt;subst hpa;rw[<- HQ.out.2.cell (p:=⟨ga,oa+i,none⟩) ga1]at hca;have ga2:=zL ga1 HQ.out.2.size;obtain⟨j1,j2,j3⟩:=row_get HQ.out.1 (j:=i) (v:=.int .i64 0) (by simp[i64s,mix,hlt]);have HN:Hid (RowAt 3 (wr.setCell ⟨g,i,none⟩ (.int .i64 (x i % t))) (some ⟨g,0,none⟩) n (i64s (mix (fun i=>x i % t) n (i+1)))/\Bl w (wr.setCell ⟨g,i,none⟩ (.int .i64 (x i % t)))):=by
    obtain⟨q1,q2⟩:=row_put HQ.out.1 i (.int .i64 (x i % t));rw[bg2,bv9 (fun i=>x i % t)]at q1;exact⟨q1,HQ.out.2.trans (q2.below (fun k hk=>by simp at hk;have:=HG.out;omega) HQ.out.2.size)⟩
   clear HQ HR HB hmk HX ga1
   generalize x i=y at hca HN
   go_wp2_with (go_at_call 62;refine(HF.out _ _).mono ?_;rintro e w1 ⟨rfl,hw⟩;subst w1)
   exact⟨⟨i+1,by first | rfl | (congr 1),by omega,HN⟩,by simp[intOf];omega⟩
  ·have hlt':¬ (i:Int)<(n:Int):=by omega
   obtain rfl:i=n:=by omega
   clear hmk
   go_wp2
   go_ret2;exact⟨_,rfl,HG.out,HQ.out.1,HQ.out.2⟩
end
end Go.Proofs.YtipakfjpfjehmaaGreatDoor.Sd
namespace Go.Proofs.YtipakfjpfjehmaaGreatDoor.En
open Go.ChangeShapes Go.WideShapes Go.ChangeAt Go.RowKit Num Ww
open Rr (Rx a19 InX okW u64B Alike step_in newX a43)
def oneZ (s:Su) (Z:Es) (t:Nat):Es:=if finB Z.X.H.E t then Z else ad6 s Z t
def runZ (s:Su) (Z:Es) (y:Nat->Nat):Nat->Es
 | 0=>Z
 | k+1=>oneZ s (runZ s Z y k) (y k)
def didZ (s:Su) (Z:Es) (y:Nat->Nat):Nat->Nat
 | 0=>0
 | k+1=>didZ s Z y k+(!finB (runZ s Z y k).X.H.E (y k)).toNat
theorem b25 (s:Su) (Z:Es) (y:Nat->Nat):∀ k,didZ s Z y k<=k
 | 0=>zE _
 | k+1=>by
  have:=b25 s Z y k
  show didZ s Z y k+(!finB (runZ s Z y k).X.H.E (y k)).toNat<=k+1
  cases finB (runZ s Z y k).X.H.E (y k) <;> simp <;> omega
section
variable {w w':World} {f:Ex} {v v':Ev} {s:Su} {Z:Es} {t:Nat}
theorem Eng.on (h:Eng w f v s Z) (k:Bl w w'):Eng w' f v s Z:=by
 obtain⟨⟨d,h1,h2⟩,h3,h4⟩:=h;exact⟨⟨d,h1.on k,h2⟩,h3,h4⟩
theorem Eng.same (h:Eng w f v s Z) (k:Same w w'):Eng w' f v s Z:=h.on (k.below _)
theorem bF4 (s:Su) (Z:Es) (t:Nat) (wi:WI s Z.X):(oneZ s Z t).X.H.N<=Z.X.H.N+1:=by
 unfold oneZ
 cases hf:finB Z.X.H.E t with
 | true=>exact Nat.le_succ _
 | false =>
  show (stepR Z.X t).H.N<=_
  cases hT:Z.X.H.E.T t with
  | none=>rw[(am3 wi hT rfl).N];exact zE _
  | some y=>rw[(aj1 hT).N];exact zE _
theorem step_any (h:Eng w f v s Z) (hs:SuIn s) (ht:t<s.n) (hN:Z.X.H.N<4611686018427387904):Calls Tryz.prog 20 #[.pointer (some ⟨f.b,0,none⟩),.int .i64 (t:Int)] w fun r w'=>r=.returned (.tuple #[.bool (!finB Z.X.H.E t),.int .i64 0])/\Hid (∃ v',Eng w' f v' s (oneZ s Z t)/\Ext f v v' w w'):=by
 unfold oneZ
 cases hf:finB Z.X.H.E t with
 | true =>
  refine(bn8 h hs ht (zP hf)).mono ?_;rintro r w' ⟨rfl,k⟩;exact⟨rfl,v,h.same k,Ext.of_below (k.below _)⟩
 | false=>exact bn9 h hs ht (zM hf) hN
theorem al7 (hs:SuIn s) (wi:WI s Z.X) {y:Nat->Nat}:∀ k,(∀ i,i<k->y i<s.n)->WI s (runZ s Z y k).X/\(runZ s Z y k).X.H.N<=Z.X.H.N+k
 | 0,_=>⟨wi,zE _⟩
 | k+1,hy=>by
  obtain⟨h1,h2⟩:=al7 hs wi k (fun i hi=>hy i (by omega));have hk:=hy k (by omega);have:=bF4 s _ (y k) h1;refine⟨?_,by show (oneZ s (runZ s Z y k) (y k)).X.H.N<=_;omega⟩
  show WI s (oneZ s (runZ s Z y k) (y k)).X
  unfold oneZ
  cases hf:finB (runZ s Z y k).X.H.E (y k) with
  | true=>exact h1
  | false=>exact h1.step hs hk (zM hf)
theorem b94 {g c:Nat} {xs:List Value} (h:RowAt 3 w (some ⟨g,0,none⟩) c xs) (e:Ext f v v' w w') (hn:g∉fF f v):RowAt 3 w' (some ⟨g,0,none⟩) c xs:=h.keep ⟨e.turn.size,fun i hi=>by
 have:i=g:=by simpa[fpR]using hi
 subst this;exact e.turn.block i (h.blw i hi) hn⟩
theorem bz1 (h:Eng w f v s Z) (hs:SuIn s) {p:Option Addr} {n c:Nat} {x:Nat->Int} (hx:Sd.IntsAt w p n x) (hn:n<=65536) (hN:Z.X.H.N+65536<4611686018427387904) {y:Nat->Nat} (hy:∀ i,i<n->x i % s.b=(y i:Int)/\y i<s.n) :
  Calls Tryz.prog 12 #[.pointer (some ⟨f.b,0,none⟩),.slice p n c] w fun r w'=>r=.returned (.tuple #[.int .i64 (didZ s Z y n:Int),.int .i64 0])/\Hid (∃ v',Eng w' f v' s (runZ s Z y n)/\Ext f v v' w w'):=by
 have b8:=hs.b8;have hnb:=hs.nb;obtain⟨d,h0,fi⟩:=h.at_;have wi:=h.wi;have HF:=zH (Sd.Fold_yes (c:=c) b8.1 b8.2 hn hx);rw[<- hnb]at HF;have k13:=(h0.cell 13).trans (rfl:_=some (Value.slice (some ⟨f.gc,0,none⟩) s.n s.n));have lb:=h0.ltB;have hn1:(s.n:Int)<=8:=by omega
 have HG:Hid (w.heap.size∉fF f v):=fun q=>by
  obtain⟨j,_,_,q⟩:=aH9.1 q;exact h0.new (zE _) j q
 have HE:=zH h;have HST:Hid (∀ (k:Nat) (wr:World) v',k<n->Eng wr f v' s (runZ s Z y k)->Calls Tryz.prog 20 #[.pointer (some ⟨f.b,0,none⟩),.int .i64 (y k:Int)] wr fun r w'=>r=.returned (.tuple #[.bool (!finB (runZ s Z y k).X.H.E (y k)),.int .i64 0])/\Hid (∃ v'',Eng w' f v'' s (runZ s Z y (k+1))/\Ext f v' v'' wr w')):=fun k wr v' hk e=>by
  have:=(al7 hs wi k (fun i hi=>(hy i (by omega)).2)).2;exact step_any e hs (hy k hk).2 (by omega)
 have HY:Hid (∀ i,i<n->x i % (s.n:Int)=(y i:Int)):=fun i hi=>by rw[hnb];exact(hy i hi).1
 have HD:=zH (b25 s Z y);clear h h0 fi wi b8 hnb hx hy hs hN;go_enter Tryz.func12,Tryz.ntmps12
 go_wp2_with (go_at_call 35;refine HF.out.mono ?_;rintro r w1 ⟨g,rfl,hg,q1,q2⟩;have H1:=zH (And.intro q1 (And.intro q2 hg));clear q1 q2 hg HF k13)
 have H0:Hid (∃ v',Eng w1 f v' s (runZ s Z y 0)/\Ext f v v' w w1/\RowAt 3 w1 (some ⟨g,0,none⟩) n (i64s (Sd.mix (fun i=>x i % (s.n:Int)) n n))/\g∉fF f v'):=⟨v,HE.out.on H1.out.2.1,Ext.of_below H1.out.2.1,H1.out.1,by rw[H1.out.2.2];exact HG.out⟩;clear lb H1 HE HG
 go_loopw [8,28] (fun v8 v28 wr=>∃ k:Nat,v28=.int .i64 (k:Int)/\v8=.int .i64 (didZ s Z y k:Int)/\k<=n/\Hid (∃ v',Eng wr f v' s (runZ s Z y k)/\Ext f v v' w wr/\RowAt 3 wr (some ⟨g,0,none⟩) n (i64s (Sd.mix (fun i=>x i % (s.n:Int)) n n))/\g∉fF f v')) (fun v8 v28 _=>n - (intOf v28).toNat)
 case atStart=>exact⟨0,rfl,rfl,zV _,H0.out⟩
 case round =>
  obtain⟨k,rfl,rfl,hk,HR⟩:=hrel;clear H0
  by_cases hlt:k<n
  ·have hlt':(k:Int)<(n:Int):=by omega
   obtain⟨v',z1,z2,z3,z4⟩:=HR.out;have hcell:(i64s (Sd.mix (fun i=>x i % (s.n:Int)) n n))[k]?=some (.int .i64 (y k:Int)):=by
    unfold i64s Sd.mix
    simp[hlt]
    exact HY.out k hlt
   obtain⟨ck,_,lg⟩:=Sd.row_get z3 hcell;have HQ:=zH (And.intro z1 (And.intro z2 (And.intro z3 z4)));have HS1:=zH (HST.out k wr v' hlt z1);have HB:Hid (didZ s Z y (k+1)=didZ s Z y k+(!finB (runZ s Z y k).X.H.E (y k)).toNat):=rfl;have hd:=HD.out k;clear z1 z2 z3 z4 hcell HR HST HY
   generalize finB (runZ s Z y k).X.H.E (y k)=fb at *
   cases fb with
   | true =>
    go_wp2_with (go_at_call 20;refine HS1.out.mono ?_;rintro r w2 ⟨rfl,q⟩;have H2:=zH q.out;clear q HS1)
    obtain⟨v'',j1,j2⟩:=H2.out;refine⟨⟨k+1,by first | rfl | (congr 1),by rw[HB.out];rfl,by omega,v'',j1,HQ.out.2.1.trans j2,b94 HQ.out.2.2.1 j2 HQ.out.2.2.2,fun q=>?_⟩,by simp[intOf];omega⟩
    rcases j2.turn.own g q with q | q
    ·exact HQ.out.2.2.2 q
    ·omega
   | false =>
    go_wp2_with (go_at_call 20;refine HS1.out.mono ?_;rintro r w2 ⟨rfl,q⟩;have H2:=zH q.out;clear q HS1)
    obtain⟨v'',j1,j2⟩:=H2.out;refine⟨⟨k+1,by first | rfl | (congr 1),by rw[HB.out];first | rfl | (congr 1),by omega,v'',j1,HQ.out.2.1.trans j2,b94 HQ.out.2.2.1 j2 HQ.out.2.2.2,fun q=>?_⟩,by simp[intOf];omega⟩
    rcases j2.turn.own g q with q | q
    ·exact HQ.out.2.2.2 q
    ·omega
  ·obtain rfl:k=n:=by omega
   have hlt':¬ (k:Int)<(k:Int):=by omega
   clear HST HY;go_wp2_with fail;go_ret2;obtain⟨v',z1,z2,_,_⟩:=HR.out;exact⟨rfl,v',z1,z2⟩
end
def ovB (E:Eg):Nat->Bool
 | 0=>true
 | k+1=>ovB E k && finB E k
theorem br1 {E:Eg} {k:Nat} (h:finB E k=false):∀ n,k<n->ovB E n=false
 | 0,q=>absurd q (zI _)
 | n+1,q=>by
  show (ovB E n && finB E n)=false
  by_cases e:k=n
  ·rw[<- e,h,Bool.and_false]
  ·rw[br1 h n (by omega),Bool.false_and]
section
variable {w w':World} {f:Ex} {v v':Ev} {s:Su} {Z:Es} {t:Nat}
theorem Eng.fin (h:Eng w f v s Z) (ht:t<s.n):Calls Tryz.prog 40 #[.pointer (some ⟨f.gc,t*3,none⟩)] w fun e w'=>e=.returned (.bool (finB Z.X.H.E t))/\Same w w':=by
 have wi:=h.wi;obtain⟨d,h,fi⟩:=h.at_;obtain⟨qa,qc,hc⟩:=fi.cr t ht;obtain⟨c0,c1,c2,lc⟩:=h.course ht hc;have:=ad8 c0 c1 c2;rw[show finI (Z.X.H.E.B t:Int) (goI Z.X t) (s.cs t).length=finB Z.X.H.E t by
  unfold finI
  cases e:Z.X.H.E.T t with
  | none =>
   rw[aj5 e,av4 e,wi.nc,zT rfl,Bool.true_and]
   show decide ((Z.X.H.E.B t:Int)=((s.cs t).length:Int))=decide (Z.X.H.E.B t=(s.cs t).length)
   exact decide_eq_decide.2 ⟨fun q=>by omega,fun q=>by omega⟩
  | some y =>
   rw[ac2 e,av5 e,zU (by omega),Bool.false_and]]at this
 exact this
theorem Eng.cells (h:Eng w f v s Z):(w.cell? ⟨f.b,11,none⟩=some (.pointer (some ⟨f.mb,0,none⟩))/\w.cell? ⟨f.b,12,none⟩=some (.pointer (some ⟨f.rb,0,none⟩))/\w.cell? ⟨f.b,13,none⟩=some (.slice (some ⟨f.gc,0,none⟩) s.n s.n)/\w.cell? ⟨f.b,15,none⟩=some (.int .i64 (Z.X.H.N:Int))/\f.b<w.heap.size)/\(∃ o,MemAt 106 w f.mb f.mg Z.X.H.E.ws o Z.X.H.E.cnt)/\Sd.RdAt w f.rb (rdZ s Z.X):=by
 obtain⟨d,h,fi⟩:=h.at_;have hm:=h.mem;have hr:=h.rds;rw[fi.ws,fi.cnt]at hm;rw[fi.rd]at hr;exact⟨⟨(h.cell 11).trans rfl,(h.cell 12).trans rfl,(h.cell 13).trans rfl,by rw[<- fi.N];exact(h.cell 15).trans rfl,h.ltB⟩,hm,hr⟩
theorem over_any (h:Eng w f v s Z) (hs:SuIn s):Calls Tryz.prog 15 #[.pointer (some ⟨f.b,0,none⟩)] w fun r w'=>r=.returned (.bool (ovB Z.X.H.E s.n))/\Same w w':=by
 have HC:Hid (∀ u,Same w u->u.cell? ⟨f.b,13,none⟩=some (.slice (some ⟨f.gc,0,none⟩) s.n s.n)/\f.b<u.heap.size):=fun u hu=>⟨((h.same hu).cells).1.2.2.1,((h.same hu).cells).1.2.2.2.2⟩
 have HF:Hid (∀ u k,Same w u->k<s.n->Calls Tryz.prog 40 #[.pointer (some ⟨f.gc,k*3,none⟩)] u fun e w'=>e=.returned (.bool (finB Z.X.H.E k))/\Same w w'):=fun u k hu hk=>((h.same hu).fin hk).mono fun e w' q=>⟨q.1,hu.trans q.2⟩
 obtain⟨k13,lb⟩:=HC.out w (Same.refl w);have h8:(s.n:Int)<=8:=by have:=hs.nb;have:=hs.b8;omega
 clear h hs;go_enter Tryz.func15,Tryz.ntmps15;go_wp2_with fail;clear k13 lb
 go_loopw [2,9] (fun v2 v9 wr=>∃ k:Nat,v9=.int .i64 (k:Int)/\v2=.bool false/\k<=s.n/\Hid (Same w wr/\ovB Z.X.H.E k=true)) (fun v2 v9 _=>s.n - (intOf v9).toNat)
 case atStart=>exact⟨0,rfl,rfl,zV _,Same.refl w,rfl⟩
 case round =>
  obtain⟨k,rfl,rfl,hk,HR⟩:=hrel
  by_cases hlt:k<s.n
  ·have hlt':(k:Int)<(s.n:Int):=by omega
   obtain⟨k13,lb⟩:=HC.out wr HR.out.1;have HF1:=zH (HF.out wr k HR.out.1 hlt);have HE:Hid (∀ b,finB Z.X.H.E k=b->(b=false->ovB Z.X.H.E s.n=false)/\(b=true->ovB Z.X.H.E (k+1)=true)):=fun b e=>⟨fun q=>br1 (e.trans q) _ hlt,fun q=>by show (ovB Z.X.H.E k && finB Z.X.H.E k)=true;rw[HR.out.2,e,q];rfl⟩
   clear HF
   cases fb:finB Z.X.H.E k with
   | true =>
    rw[fb]at HF1
    go_wp2_with (go_at_call 40;refine HF1.out.mono ?_;rintro r w2 ⟨rfl,q⟩;have H2:=zH q;clear q HF1)
    exact⟨⟨k+1,by first | rfl | (congr 1),rfl,by omega,H2.out,(HE.out _ fb).2 rfl⟩,by simp[intOf];omega⟩
   | false =>
    rw[fb]at HF1
    go_wp2_with (go_at_call 40;refine HF1.out.mono ?_;rintro r w2 ⟨rfl,q⟩;have H2:=zH q;clear q HF1)
    go_ret;exact⟨by rw[(HE.out _ fb).1 rfl];rfl,H2.out⟩
  ·obtain rfl:k=s.n:=by omega
   have hlt':¬ (s.n:Int)<(s.n:Int):=by omega
   clear HF HC;go_wp2_with fail;go_ret;exact⟨by rw[HR.out.2];rfl,HR.out.1⟩
end
def b07 (s:Su) (ws:List Int) (c:Nat):Nat:=Md.Ce.atV (Md.Ce.peekW ws (3+s.b) c 0) (Md.Ce.peekW ws (3+s.b) c 1) (Md.Ce.peekW ws (3+s.b) c 2) (wordAt ws 2)
def ab3 (s:Su) (ws:List Int) (k:Nat):List Nat:=(List.range s.a.toNat).map fun c=>if c<k then b07 s ws c else 0
def aB2 (s:Su) (ws:List Int):List Nat:=(List.range s.a.toNat).map (b07 s ws)
theorem stateU_len (s:Su) (ws:List Int) (k:Nat):(ab3 s ws k).length=s.a.toNat:=by simp[ab3]
theorem stateU_zero (s:Su) (ws:List Int):ab3 s ws 0=List.replicate s.a.toNat 0:=by
 unfold ab3
 apply List.ext_getElem
 ·simp
 ·intro i h1 h2
  simp
theorem stateU_all (s:Su) (ws:List Int):ab3 s ws s.a.toNat=aB2 s ws:=by
 unfold ab3 aB2
 apply List.map_congr_left
 intro c hc;rw[if_pos (List.mem_range.1 hc)]
theorem aX5 (s:Su) (ws:List Int) (k:Nat):(ab3 s ws k).set k (b07 s ws k)=ab3 s ws (k+1):=by
 unfold ab3
 apply List.ext_getElem
 ·simp
 ·intro i h1 h2
  simp only[List.getElem_set,List.getElem_map,List.getElem_range]
  by_cases e:k=i
  ·subst e
   rw[if_pos rfl,if_pos (by omega)]
  ·rw[if_neg e]
   by_cases q:i<k
   ·rw[if_pos q,if_pos (by omega)]
   ·rw[if_neg q,if_neg (by omega)]
section
variable {w w':World} {f:Ex} {v v':Ev} {s:Su} {Z:Es} {t:Nat}
theorem Eng.plan (h:Eng w f v s Z):w.cell? ⟨f.b,0,none⟩=some (.int .i64 s.a)/\w.cell? ⟨f.b,5,none⟩=some (.int .i64 0)/\w.cell? ⟨f.b,6,none⟩=some (.int .i64 1)/\w.cell? ⟨f.b,7,none⟩=some (.int .i64 2)/\w.cell? ⟨f.b,8,none⟩=some (.int .i64 3)/\w.cell? ⟨f.b,9,none⟩=some (.int .i64 (3+s.b))/\w.cell? ⟨f.b,10,none⟩=some (.int .i64 (3+s.b+3*s.a)):=by
 obtain⟨d,h,_⟩:=h.at_;exact⟨(h.cell 0).trans rfl,(h.cell 5).trans rfl,(h.cell 6).trans rfl,(h.cell 7).trans rfl,(h.cell 8).trans rfl,(h.cell 9).trans rfl,(h.cell 10).trans rfl⟩
attribute [local go_sem] a00
abbrev trpO (a b c:Int):Obj:=.cells #[.int .u64 a,.int .u64 b,.int .u64 c] 108
theorem ba4 (h:Eng w f v s Z) (hs:SuIn s):Calls Tryz.prog 43 #[.pointer (some ⟨f.b,0,none⟩)] w fun r w'=>∃ g,r=.returned (.slice (some ⟨g,0,none⟩) s.a.toNat s.a.toNat)/\Hid (w.heap.size<=g/\RowAt 49 w' (some ⟨g,0,none⟩) s.a.toNat (fls (aB2 s Z.X.H.E.ws))/\Bl w w'):=by
 have a256:=hs.a256;obtain⟨na,hna⟩:∃ na:Nat,s.a.toNat=na:=⟨_,rfl⟩
 have ea:s.a=(na:Int):=by omega
 have hn:na<=256:=by omega
 have hni:(na:Int)<=256:=by omega
 have hlen:=h.wi.len;have HP:Hid (∀ u,Bl w u->Calls Tryz.prog 67 #[.pointer (some ⟨f.mb,0,none⟩),.int .i64 2] u fun e w'=>e=.returned (.tuple #[.int .u64 (wordAt Z.X.H.E.ws 2),.int .i64 (errP Z.X.H.E.ws 2)])/\w'=u):=fun u hu=>by
  obtain⟨_,⟨o,hm⟩,_⟩:=(h.on hu).cells;have:=Md.peek_any hm 2;have b8:=hs.b8;rw[show hasB Z.X.H.E.ws 2=true from zT ⟨by omega,by omega⟩]at this;exact this
 obtain⟨p4,hp4⟩:∃ p4,3+s.b=p4:=⟨_,rfl⟩
 obtain⟨p5,hp5⟩:∃ p5,p4+3*s.a=p5:=⟨_,rfl⟩
 have HC:Hid (∀ u,Bl w u->(u.cell? ⟨f.b,11,none⟩=some (.pointer (some ⟨f.mb,0,none⟩))/\u.cell? ⟨f.b,5,none⟩=some (.int .i64 0)/\u.cell? ⟨f.b,6,none⟩=some (.int .i64 1)/\u.cell? ⟨f.b,7,none⟩=some (.int .i64 2)/\u.cell? ⟨f.b,8,none⟩=some (.int .i64 3)/\u.cell? ⟨f.b,9,none⟩=some (.int .i64 p4)/\u.cell? ⟨f.b,10,none⟩=some (.int .i64 p5))/\u.cell? ⟨f.b,0,none⟩=some (.int .i64 (na:Int))/\f.b<u.heap.size):=fun u hu=>by
  obtain⟨q0,q5,q6,q7,q8,q9,q10⟩:=(h.on hu).plan;obtain⟨⟨q11,_,_,_,lb⟩,_⟩:=(h.on hu).cells;exact⟨⟨q11,q5,q6,q7,q8,by rw[<- hp4];exact q9,by rw[<- hp5,<- hp4];exact q10⟩,by rw[<- ea];exact q0,lb⟩
 have HK:Hid (∀ u (c:Nat),Bl w u->Calls Tryz.prog 53 #[.pointer (some ⟨f.mb,0,none⟩),plV p4 p5,.int .i64 (c:Int)] u fun e w'=>e=.returned (.tuple #[.agg #[.int .u64 (Md.Ce.peekW Z.X.H.E.ws p4 c 0),.int .u64 (Md.Ce.peekW Z.X.H.E.ws p4 c 1),.int .u64 (Md.Ce.peekW Z.X.H.E.ws p4 c 2)],.int .i64 (Md.Ce.peekE Z.X.H.E.ws p4 c)])/\Bl u w'):=fun u c hu=>by
  obtain⟨_,⟨o,hm⟩,_⟩:=(h.on hu).cells;exact Md.Ce.cpeek_any hm 0 1 2 3 p4 p5 c
 have HA:Hid (∀ u (c:Nat),Calls Tryz.prog 68 #[.agg #[.int .u64 (Md.Ce.peekW Z.X.H.E.ws p4 c 0),.int .u64 (Md.Ce.peekW Z.X.H.E.ws p4 c 1),.int .u64 (Md.Ce.peekW Z.X.H.E.ws p4 c 2)],.int .u64 (wordAt Z.X.H.E.ws 2)] u fun e w'=>e=.returned (.float .f64 (b07 s Z.X.H.E.ws c))/\Bl u w'):=fun u c=>by
  have:=Md.Ce.cat_any (Md.Ce.peekW Z.X.H.E.ws p4 c 0) (Md.Ce.peekW Z.X.H.E.ws p4 c 1) (Md.Ce.peekW Z.X.H.E.ws p4 c 2) (wordAt Z.X.H.E.ws 2) u;rw[<- hp4]at this ⊢;exact this
 have hmk:=Sx.fMake na hn;have HL:=zH (And.intro hna (And.intro (stateU_len s Z.X.H.E.ws) (And.intro (stateU_zero s Z.X.H.E.ws) (And.intro (stateU_all s Z.X.H.E.ws) (aX5 s Z.X.H.E.ws)))));rw[hna];obtain⟨⟨a11,a5,a6,a7,a8,a9,a10⟩,a0,lb⟩:=HC.out w (zF _ _);clear h hs a256 hp4 hp5 ea hlen hna
 generalize wordAt Z.X.H.E.ws 2=st at *
 generalize errP Z.X.H.E.ws 2=er at *
 go_enter Tryz.func43,Tryz.ntmps43
 go_upto_region 1 with fail
 refine a06 (fun u=>u.cell? ⟨f.b,11,none⟩=some (.pointer (some ⟨f.mb,0,none⟩))/\u.cell? ⟨f.b,7,none⟩=some (.int .i64 2) )  ((0,true)::(1,true)::(2,true)::(3,true)::(4,true)::(5,true)::(6,true)::(7,true)::(8,true)::(9,false)::(10,true)::(11,true)::(12,true)::(13,true)::(14,true)::[])  Md.Cv.follows13 (by kernel_rfl) (fun _ _ _ _ _ h=>h)  ⟨a11,a7⟩ ?_
 (repeat ((first | (refine a02 (v:=?_) rfl (by rfl) (fun wq hSq=>?_) ?_;rotate_left;(focus ((try dsimp only at hSq);go_simp;try with_reducible rfl))) | refine a03 rfl (by rfl) ?_);simp only[Act.put,zA,zB,zC]))
 (refine a04 rfl (by rfl) (fun KK hK=>?_);go_simp)
 refine(HP.out _ ((Same.drew w).below _)).mono ?_;rintro r u1 ⟨rfl,hu1⟩;subst u1;refine hK.out _ _ ⟨a11,a7⟩ ?_
 (clear hK KK;try simp only[Act.put,zA,zB,zC])
 (repeat ((first | (refine a02 (v:=?_) rfl (by rfl) (fun wq hSq=>?_) ?_;rotate_left;(focus ((try dsimp only at hSq);go_simp;try with_reducible rfl))) | refine a03 rfl (by rfl) ?_);simp only[Act.put,zA,zB,zC]))
 refine a13 ?_;go_wp2_with fail;obtain⟨g,hg⟩:∃ g,w.heap.size=g:=⟨_,rfl⟩
 rw[hg];have HG:=zH (Nat.le_of_eq hg);have H0:Hid (Bl w (w.alloc (.cells (fls (List.replicate na 0)).toArray 49)).drew/\RowAt 49 (w.alloc (.cells (fls (List.replicate na 0)).toArray 49)).drew (some ⟨g,0,none⟩) na (fls (ab3 s Z.X.H.E.ws 0))):=by
  refine⟨(below_alloc w _).trans ((Same.drew _).below _),?_⟩;rw[HL.out.2.2.1,HL.out.1];refine RowAt.on ?_ ((Same.drew _).below _);rw[<- hg];exact Rr.row_made List.length_replicate hn
 clear a11 a5 a6 a7 a8 a9 a10 a0 lb hmk HP hg
 go_loopw [30] (fun v30 wr=>∃ k:Nat,v30=.int .i64 (k:Int)/\k<=na/\Hid (Bl w wr/\RowAt 49 wr (some ⟨g,0,none⟩) na (fls (ab3 s Z.X.H.E.ws k)))) (fun v30 _=>na - (intOf v30).toNat)
 case atStart=>exact⟨0,rfl,zV _,H0.out⟩
 case round =>
  obtain⟨k,rfl,hk,HR⟩:=hrel;clear H0
  by_cases hlt:k<na
  ·have hlt':(k:Int)<(na:Int):=by omega
   obtain⟨⟨a11,a5,a6,a7,a8,a9,a10⟩,a0,lb⟩:=HC.out wr HR.out.1;have HKK:=zH (fun u (hu:Bl wr u)=>HK.out u k (HR.out.1.trans (hu.mono HR.out.1.size)));have HCC:=zH (fun u (hu:Bl wr u)=>(HC.out u (HR.out.1.trans (hu.mono HR.out.1.size))).1);have HAA:=zH (fun u=>HA.out u k);have HCV:=zH (HL.out.2.2.2.2 k);obtain⟨x0,hx0⟩:∃ x0,Md.Ce.peekW Z.X.H.E.ws p4 k 0=x0:=⟨_,rfl⟩
   obtain⟨x1,hx1⟩:∃ x1,Md.Ce.peekW Z.X.H.E.ws p4 k 1=x1:=⟨_,rfl⟩
   obtain⟨x2,hx2⟩:∃ x2,Md.Ce.peekW Z.X.H.E.ws p4 k 2=x2:=⟨_,rfl⟩
   obtain⟨ex,hex⟩:∃ ex,Md.Ce.peekE Z.X.H.E.ws p4 k=ex:=⟨_,rfl⟩
   obtain⟨cv,hcv⟩:∃ cv,b07 s Z.X.H.E.ws k=cv:=⟨_,rfl⟩
   rw[hx0,hx1,hx2,hex]at HKK;rw[hx0,hx1,hx2,hcv]at HAA;rw[hcv]at HCV;clear hx0 hx1 hx2 hex hcv HK HC HA
   go_upto_region 6 with fail
   go_cut [7,8] (fun v7 v8 wc=>∃ g7,v7=.pointer (some ⟨g7,0,none⟩)/\v8=.int .i64 ex/\Hid (Bl wr wc/\wc.heap[g7]?=some (trpO x0 x1 x2)))
   case first =>
    refine as0 (fun u=>u.cell? ⟨f.b,11,none⟩=some (.pointer (some ⟨f.mb,0,none⟩))/\u.cell? ⟨f.b,5,none⟩=some (.int .i64 0)/\u.cell? ⟨f.b,6,none⟩=some (.int .i64 1)/\u.cell? ⟨f.b,7,none⟩=some (.int .i64 2)/\u.cell? ⟨f.b,8,none⟩=some (.int .i64 3)/\u.cell? ⟨f.b,9,none⟩=some (.int .i64 p4)/\u.cell? ⟨f.b,10,none⟩=some (.int .i64 p5)) ((0,true)::(1,true)::(2,true)::(3,true)::(4,true)::(5,true)::(6,true)::(7,true)::(8,true)::(9,false)::(10,true)::(11,true)::(12,true)::[]) 13 ((14,false)::(15,true)::[]) Md.Cv.follows13 (by kernel_rfl) (fun _ _ _ _ _ h=>h) ⟨a11,a5,a6,a7,a8,a9,a10⟩ ?_
    (repeat (refine ap7 (v:=?_) rfl (by rfl) (fun wq hSq=>?_) ?_;rotate_left;(focus ((try dsimp only at hSq);go_simp;try with_reducible rfl));simp only[Act.put,zA,zB,zC]))
    refine ay8 rfl (by rfl) (fun KK hK=>?_) ?_
    ·go_simp
     refine(HKK.out _ ((Same.drew wr).below _)).mono ?_;rintro r u2 ⟨rfl,q⟩;have B2:Hid (Bl wr u2):=((Same.drew wr).below _).trans q;clear q;refine hK.out _ _ (HCC.out _ B2.out) ?_
     (clear hK KK;try simp only[Act.put,zA,zB,zC])
     (repeat (refine ap7 (v:=?_) rfl (by rfl) (fun wq hSq=>?_) ?_;rotate_left;(focus ((try dsimp only at hSq);go_simp;try with_reducible rfl));simp only[Act.put,zA,zB,zC]))
     refine aT9 ?_
     (refine a04 rfl (by rfl) (fun KK hK=>?_);go_simp)
     have B3:∀ o,Bl wr (u2.alloc o):=fun o=>B2.out.alloc B2.out.size o
     refine hK.out _ _ (HCC.out _ (B3 _)) ?_
     (clear hK KK;try simp only[Act.put,zA,zB,zC])
     (refine a04 rfl (by rfl) (fun KK hK=>?_);go_simp)
     refine hK.out _ _ (HCC.out _ (B3 _)) ?_
     (clear hK KK;try simp only[Act.put])
     (repeat ((first | (refine a02 (v:=?_) rfl (by rfl) (fun wq hSq=>?_) ?_;rotate_left;(focus ((try dsimp only at hSq);go_simp;try with_reducible rfl))) | refine a03 rfl (by rfl) ?_);simp only[Act.put,zA,zB,zC]))
     refine a13 ?_;go_wp2_with fail
     go_meet
     exact⟨_,rfl,rfl,B3 _,zN _ _⟩
    ·(refine a04 rfl (by rfl) (fun KK hK=>?_);go_simp)
     have B1:Bl wr wr.drew:=(Same.drew wr).below _;have B3:∀ o,Bl wr (wr.alloc o).drew:=fun o=>(below_alloc wr o).trans ((Same.drew _).below _)
     refine hK.out _ _ (HCC.out _ (B3 _)) ?_
     (clear hK KK;try simp only[Act.put,zA,zB,zC])
     (refine a04 rfl (by rfl) (fun KK hK=>?_);go_simp)
     refine(HKK.out _ (B3 _)).mono ?_;rintro r u2 ⟨rfl,q⟩;have B2:Hid (Bl wr u2/\u2.heap[wr.heap.size]?=some (trpO 0 0 0)):=⟨(B3 _).trans (q.mono (B3 _).size),(q.block _ (by simp)).trans (zN _ _)⟩;clear q;refine hK.out _ _ (HCC.out _ B2.out.1) ?_
     (clear hK KK;try simp only[Act.put,zA,zB,zC])
     (repeat ((first | (refine a02 (v:=?_) rfl (by rfl) (fun wq hSq=>?_) ?_;rotate_left;(focus ((try dsimp only at hSq);go_simp;try with_reducible rfl))) | refine a03 rfl (by rfl) ?_);simp only[Act.put,zA,zB,zC]))
     have t0:=(zR u2 wr.heap.size 0 _ _ _ B2.out.2).trans (rfl:_=some (Value.int .u64 0));have t1:=(zR u2 wr.heap.size 1 _ _ _ B2.out.2).trans (rfl:_=some (Value.int .u64 0));have t2:=(zR u2 wr.heap.size 2 _ _ _ B2.out.2).trans (rfl:_=some (Value.int .u64 0));have j0:=zZ u2 wr.heap.size 0 _ _ B2.out.2;have j1:=zZ u2 wr.heap.size 1 _ _ B2.out.2;have j2:=zZ u2 wr.heap.size 2 _ _ B2.out.2;have B4:Hid (Bl wr (((u2.setCell ⟨wr.heap.size,0,none⟩ (.int .u64 x0)).setCell ⟨wr.heap.size,1,none⟩ (.int .u64 x1)).setCell ⟨wr.heap.size,2,none⟩ (.int .u64 x2))/\(((u2.setCell ⟨wr.heap.size,0,none⟩ (.int .u64 x0)).setCell ⟨wr.heap.size,1,none⟩ (.int .u64 x1)).setCell ⟨wr.heap.size,2,none⟩ (.int .u64 x2)).heap[wr.heap.size]?=some (trpO x0 x1 x2)):=by
      refine⟨((B2.out.1.setCell (zE _) _).setCell (zE _) _).setCell (zE _) _,?_⟩;have h0:=(zS _ wr.heap.size 0 _ _ (.int .u64 x0) B2.out.2).trans (show _=some (trpO x0 0 0) from rfl);have h1:=(zS _ wr.heap.size 1 _ _ (.int .u64 x1) h0).trans (show _=some (trpO x0 x1 0) from rfl);exact(zS _ wr.heap.size 2 _ _ (.int .u64 x2) h1).trans rfl
     (refine a04 rfl (by rfl) (fun KK hK=>?_);go_simp)
     refine hK.out _ _ (HCC.out _ B4.out.1) ?_
     (clear hK KK;try simp only[Act.put])
     (repeat ((first | (refine a02 (v:=?_) rfl (by rfl) (fun wq hSq=>?_) ?_;rotate_left;(focus ((try dsimp only at hSq);go_simp;try with_reducible rfl))) | refine a03 rfl (by rfl) ?_);simp only[Act.put,zA,zB,zC]))
     refine a13 ?_;go_wp2_with fail
     go_meet
     exact⟨_,rfl,rfl,B4.out.1,B4.out.2⟩
   case rest =>
    obtain⟨g7,rfl,rfl,HW⟩:=hcut;have t0:=(zR wc g7 0 _ _ _ HW.out.2).trans (rfl:_=some (Value.int .u64 x0));have t1:=(zR wc g7 1 _ _ _ HW.out.2).trans (rfl:_=some (Value.int .u64 x1));have t2:=(zR wc g7 2 _ _ _ HW.out.2).trans (rfl:_=some (Value.int .u64 x2));have l7:=lt_of_block HW.out.2;have HRW:Hid (∀ u,Bl wc u->RowAt 49 u (some ⟨g,0,none⟩) na (fls (ab3 s Z.X.H.E.ws k))):=fun u hu=>(HR.out.2.on HW.out.1).on hu
    have hval:(fls (ab3 s Z.X.H.E.ws k))[k]?=some (.float .f64 ((ab3 s Z.X.H.E.ws k).getD k 0)):=by
     have hl:=HL.out.2.1 k;rw[HL.out.1]at hl;unfold fls;rw[List.getElem?_map,zG,List.getElem?_eq_getElem (by omega)]
     rfl
    have HGT:Hid (∀ u,Bl wc u->u.cell? ⟨g,k,none⟩=some (.float .f64 ((ab3 s Z.X.H.E.ws k).getD k 0))/\u.frozen? ⟨g,k,none⟩=false/\g<u.heap.size):=fun u hu=>Sd.row_get (HRW.out u hu) hval
    clear hval a11 a5 a6 a7 a8 a9 a10 a0 lb HCC HKK
    go_wp2_with (go_at_call 68;refine(HAA.out _).mono ?_;rintro r u3 ⟨rfl,q⟩;have H3:=zH q;obtain⟨gk,gf,gl⟩:=HGT.out _ q;clear q)
    obtain⟨r1,r2⟩:=Sd.row_put (HRW.out _ H3.out) k (.float .f64 cv);have es:(fls (ab3 s Z.X.H.E.ws k)).set k (.float .f64 cv)=fls (ab3 s Z.X.H.E.ws (k+1)):=by
     rw[<- HCV.out]
     simp[fls,List.map_set]
    rw[es]at r1;refine⟨⟨k+1,by first | rfl | (congr 1),by omega,?_,r1⟩,by simp[intOf];omega⟩;exact((HR.out.1.trans (HW.out.1.mono HR.out.1.size)).trans (H3.out.mono (HR.out.1.trans (HW.out.1.mono HR.out.1.size)).size)).setCell HG.out _
  ·obtain rfl:k=na:=by omega
   have hlt':¬ (k:Int)<(k:Int):=by omega
   clear HK HC HA;go_wp2_with fail;go_ret;refine⟨g,rfl,HG.out,?_,HR.out.1⟩;rw[<- HL.out.2.2.2.1,HL.out.1];exact HR.out.2
end
theorem TIn.sizes {s:Su} {t:Nat} {N:Int} {y:Ty} (h:TIn s t N y):(af8 y).length<=8/\(macT y).reads.length<=1024/\(macT y).buf.length<=1024/\(macT y).out.length<=1024:=by
 have K:∀ m:Mac,Inv m->m.reads.length<=1024/\m.buf.length<=1024/\m.out.length<=1024:=fun m i=>by
  have h1:=i.fuel;have h2:=i.used;have h3:=i.out;have h4:=i.reads;have h5:=i.few;have h6:=i.wmax;refine⟨?_,by omega,by omega⟩
  split at h4 <;> omega
 rcases y with⟨_,x⟩ | ⟨_,x⟩
 ·exact⟨h.1.few,K _ h.1.inv⟩
 ·exact⟨h.1.few,K _ h.1.rest.inv⟩
section
variable {w:World} {g o:Nat} {y:Ty} {D:Rr.Dd} {th no pr bg en ah fr tt to_:Int}
theorem bA4 (hc:∀ u,Bl w u->u.cell? ⟨g,o,none⟩=some .nilIface/\(∀ j,j<19->u.cell? ⟨g,o+1+j,none⟩=(dTx y D th no pr bg en ah fr tt)[j]?)/\g<u.heap.size) (hD:Rr.DdAt w 0 D (af8 y) (macT y)) (b0:(af8 y).length<=8) (b1:(macT y).reads.length<=1024) (b2:(macT y).buf.length<=1024) (b3:(macT y).out.length<=1024) :
  Calls Tryz.prog 38 #[.pointer (some ⟨g,o,none⟩),.int .i64 to_] w fun e w'=>∃ D',e=.returned (.agg (dTx y D' th no pr bg en ah fr tt))/\Hid (Rr.DdAt w' w.heap.size D' (af8 y) (macT y)/\Bl w w'):=by
 have HB:=zH (below_alloc w Rr.dZ);obtain⟨c0,cj,lg⟩:=hc _ HB.out;have HC:=zH cj;have HO:Hid (Calls Tryz.prog 66 #[.agg (dTx y D th no pr bg en ah fr tt)] (w.alloc Rr.dZ) fun e w'=>∃ D',e=.returned (.agg (dTx y D' th no pr bg en ah fr tt))/\Hid (Rr.DdAt w' (w.alloc Rr.dZ).heap.size D' (af8 y) (macT y)/\Below (w.alloc Rr.dZ).heap.size (w.alloc Rr.dZ) w')):=aN4 ⟨hD.a.on HB.out,hD.r.on HB.out,hD.wr.on HB.out,hD.o.on HB.out,hD.xa,hD.xr,hD.xw,hD.xo⟩ rfl (by omega) b1 b2 b3;clear hc hD cj b0 b1 b2 b3;go_enter Tryz.func38,Tryz.ntmps38
 go_wp2_with (first
  | (refine ae4 rfl 48 _ rfl g (o+1) rfl (dTx y D th no pr bg en ah fr tt) _ (fun j hj=>HC.out j hj) Tryz.underlying48 rfl Rr.deedInfo ?_;simp only[Act.put,zA,zB,zC])
  | (refine wpList_store_row rfl 48 _ _ rfl w.heap.size (dTx y D' th no pr bg en ah fr tt) rfl rfl _ _ HZ.out Rr.deedInfo rfl (ac0 ..) ?_)
  | (go_at_call 66;refine HO.out.mono ?_;rintro r w1 ⟨D',rfl,q⟩;have H1:=zH q.out;have HZ:Hid (w1.heap[w.heap.size]?=some Rr.dZ):=(q.out.2.block _ (by simp)).trans (zN _ _);clear q HO c0 lg))
 refine as6 (D:=D') rfl w.heap.size rfl (setRow_heap _ _ _ _ _ _ HZ.out) rfl ⟨D',rfl,?_⟩;have hl:w.heap.size<(w.alloc Rr.dZ).heap.size:=by simp
 exact⟨(H1.out.1.keep (fun i hi _=>setRow_other _ _ _ _ (by omega)) (by simp)).mono (by omega),Md.Ce.bl_setRow (HB.out.trans (H1.out.2.mono HB.out.size)) (zE _) _⟩
end
theorem b16 (x:Value) (a:Array Value):(#[x] ++ a)[0]?=some x:=by
 rw[Array.getElem?_append_left (by simp)]
 rfl
theorem b15 (x:Value) (a:Array Value) (j:Nat):(#[x] ++ a)[1+j]?=a[j]?:=by
 rw[Array.getElem?_append_right (by simp)]
 simp
def as1 (s:Su) (Z:Es) (i:Nat) (D:Rr.Dd) (to_:Int):Array Value:=dTx (Z.X.H.D i).tx D (Z.X.H.D i).th (Z.X.H.D i).no (s.call (Z.X.H.D i).th (Z.X.H.D i).no).1 (Z.X.H.D i).bg (Z.X.H.D i).en (Z.A i) (Z.X.fr i) (if (Z.X.H.D i).en=0 then to_ else (Z.X.to_ i:Int))
section
variable {w w':World} {f:Ex} {v v':Ev} {s:Su} {Z:Es} {i g:Nat}
theorem Eng.told (h:Eng w f v s Z) (hi:i<Z.X.H.dn) (hp:v.pt=some ⟨g,0,none⟩) (to_:Int):Calls Tryz.prog 38 #[.pointer (some ⟨g,i*20,none⟩),.int .i64 to_] w fun e w'=>∃ D,e=.returned (.agg (as1 s Z i D to_))/\Hid (Rr.DdAt w' w.heap.size D (af8 (Z.X.H.D i).tx) (macT (Z.X.H.D i).tx)/\Bl w w'):=by
 have wi:=h.wi;obtain⟨d,h,fi⟩:=h.at_;obtain⟨D1,D2,_⟩:=wi.D i hi;have hid:i<d.dn:=by rw[fi.dn];exact hi
 unfold as1
 by_cases e0:(Z.X.H.D i).en=0
 ·obtain⟨q1,q2⟩:=wi.un i hi e0
  have hT:d.T (Z.X.H.D i).th=some (Z.X.H.D i).tx:=by rw[fi.T];exact q1
  obtain⟨_,K,tx,_⟩:=h.tx _ _ hT;rw[if_pos e0,e0];exact bb2 tx D2 fun u hu=>(h.on hu).upC hid hp (fi.up i hi e0)
 ·obtain⟨D,l1,l2⟩:=fi.ov i hi e0
  have hd:=(h.dl i _ _ _ l1).1;obtain⟨b0,b1,b2,b3⟩:=D2.sizes;rw[if_neg e0];refine bA4 (fun u hu=>?_) hd b0 b1 b2 b3;have hu1:=h.on hu;obtain⟨g',e',_,A⟩:=hu1.arr (by omega);obtain rfl:g'=g:=by
   have:=e'.symm.trans hp;injection this with this;injection this
  have C:∀ j,j<20->u.cell? ⟨g',i*20+j,none⟩=(d.tr i)[j]?:=fun j hj=>A.cell hid hj
  rw[l2]at C;unfold trO at C;refine⟨(C 0 (by omega)).trans (b16 _ _),fun j hj=>?_,A.lt⟩;rw[show i*20+1+j=i*20+(1+j) by omega,C (1+j) (by omega)];exact b15 _ _ _
theorem bJ2:(Tryz.prog.info? 48).map (fun i=>(i.zero,i.size,i.bytes))=some (some (.agg #[.int .i64 0,.int .i64 0,.int .i64 0,.int .i64 0,.slice none 0 0,.int .i64 0,.int .i64 0,.slice none 0 0,.slice none 0 0,.slice none 0 0,.int .i64 0,.int .i64 0,.int .i64 0,.int .i64 0,.int .i64 0,.int .i64 0,.int .i64 0,.int .i64 0,.int .i64 0]),19,216):=by kernel_rfl
theorem bJ3 (n:Nat) (hn:n<=512):∃ arr:Array Value,arr.size=n*19/\∀ w:World,(Instr.makeSlice 39 (.int .i64 (n:Int)) (.int .i64 (n:Int))).run Tryz.prog w=.ok (.slice (some ⟨w.heap.size,0,none⟩) n n) (w.alloc (.cells arr 48)):=by
 obtain⟨i,hi,hz0,hz1,hz2⟩:=info_parts bJ2;refine⟨madeCells (Value.agg #[.int .i64 0,.int .i64 0,.int .i64 0,.int .i64 0,.slice none 0 0,.int .i64 0,.int .i64 0,.slice none 0 0,.slice none 0 0,.slice none 0 0,.int .i64 0,.int .i64 0,.int .i64 0,.int .i64 0,.int .i64 0,.int .i64 0,.int .i64 0,.int .i64 0,.int .i64 0]).cells (n*i.size),by rw[size_madeCells,hz1],fun w=>?_⟩;rw[run_make w 39 48 i _ Tryz.underlying39 hi hz0 .i64 .i64 n n (by omega) (zW _) (by rw[hz2];omega) (by omega)];rw[Int.toNat_natCast]
theorem Arr.next {T:TypeId} {sz m n:Nat} {F:Nat->Array Value} (h:Arr w g T sz m n F) (hn:n<m) {cs:Array Value} (hc:cs.size=sz):∃ arr,w.heap[g]?=some (.cells arr T (0,0))/\n*sz+cs.size<=arr.size/\Arr (w.setRow g (af2 arr (n*sz) cs.toList)) g T sz m (n+1) (updA F n cs):=by
 obtain⟨arr,h1,h2,h3⟩:=h.blk;have hl:n*sz+sz<=m*sz:=by
  have:(n+1)*sz<=m*sz:=Nat.mul_le_mul_right _ hn;rwa[Nat.add_mul,Nat.one_mul]at this
 refine⟨arr,h1,by omega,⟨⟨_,setRow_heap w g _ _ _ _ h1,by rw[aj9];exact h2,fun i j hi hj=>?_⟩,hn,fun i hi=>?_⟩⟩
 ·rw[ao6 _ _ _ _ (by simp;omega)]
  simp only[Array.length_toList]
  by_cases e:i=n
  ·subst e
   rw[a25,if_pos (by omega),show i*sz+j - i*sz=j by omega]
   simp
  ·rw[a35 _ _ e,if_neg]
   ·exact h3 i j (by omega) hj
   ·have:(i+1)*sz<=n*sz:=Nat.mul_le_mul_right _ (by omega)
    rw[Nat.add_mul,Nat.one_mul]at this;omega
 ·by_cases e:i=n
  ·rw[e,a25,hc]
  ·rw[a35 _ _ e]
   exact h.sz i (by omega)
structure DdsAt (w:World) (B g m n:Nat) (s:Su) (Z:Es) (D:Nat->Rr.Dd):Prop where
 row:Arr w g 48 19 m n (fun i=>as1 s Z i (D i) (Z.X.R:Int))
 dd:∀ i,i<n->Rr.DdAt w (g+1) (D i) (af8 (Z.X.H.D i).tx) (macT (Z.X.H.D i).tx)
 lo:B<=g
theorem DdsAt.on {B m n:Nat} {D:Nat->Rr.Dd} (h:DdsAt w B g m n s Z D) (k:Bl w w'):DdsAt w' B g m n s Z D:=⟨h.row.on k,fun i hi=>(h.dd i hi).on k,h.lo⟩
end
end Go.Proofs.YtipakfjpfjehmaaGreatDoor.En
namespace Go.Proofs.YtipakfjpfjehmaaGreatDoor.En
open Go.ChangeShapes Go.WideShapes Go.ChangeAt Go.RowKit Num Ww
def prA:List Ins:=[⟨1,0,0⟩,⟨16,0,0⟩,⟨6,0,0⟩,⟨10,1,0⟩,⟨1,0,0⟩,⟨17,0,0⟩,⟨1,0,4607182418800017408⟩,⟨16,0,0⟩,⟨6,0,0⟩,⟨10,1,0⟩,⟨1,0,4607182418800017408⟩,⟨17,0,0⟩,⟨20,0,0⟩]
def prB:List Ins:=[⟨1,0,0⟩,⟨16,0,0⟩,⟨18,0,0⟩,⟨1,0,4607182418800017408⟩,⟨16,0,0⟩,⟨18,0,0⟩,⟨20,0,0⟩]
def prS:Su:=⟨2,3,30,2,[],[(2,prA),(1,prB)],[[(0,[4617315517961601024])],[(1,[])],[(0,[4611686018427387904])]]⟩
def pr3:Nat->Nat:=fun i=>if i=1 then 2 else 0
def pr2:Nat->Nat:=fun i=>if i=0 then 1 else 2
def itZ (s:Su) (y:Nat->Nat) (n:Nat) (Z:Es):Nat->Es
 | 0=>Z
 | k+1=>runZ s (itZ s y n Z k) y n
structure PrF (Z1 Z2 Z3:Es):Prop where
 r1:runZ prS (Z0 prS) (fun _=>1) 6=Z1
 r2:itZ prS pr3 3 Z1 60=Z2
 r3:itZ prS pr2 2 Z2 60=Z3
 ov:ovB Z3.X.H.E prS.n=true
 dn:Z3.X.H.dn=3
 st:aB2 prS Z3.X.H.E.ws=[4619567317775286272,4619567317775286272]
 out:(macT (Z3.X.H.D 0).tx).out=[0,0]
 mrk:bh1 (Z3.X.H.D 0).tx=0
 n1:numT (Z3.X.H.D 1).tx=1
 n2:numT (Z3.X.H.D 2).tx=2
def prZ1:Es:=runZ prS (Z0 prS) (fun _=>1) 6
def prZ2:Es:=itZ prS pr3 3 prZ1 60
def prZ3:Es:=itZ prS pr2 2 prZ2 60
theorem bF7:errS prS=0:=by decide +kernel
theorem al6:ovB prZ3.X.H.E prS.n=true/\prZ3.X.H.dn=3/\aB2 prS prZ3.X.H.E.ws=[4619567317775286272,4619567317775286272]/\(macT (prZ3.X.H.D 0).tx).out=[0,0]/\bh1 (prZ3.X.H.D 0).tx=0/\numT (prZ3.X.H.D 1).tx=1/\numT (prZ3.X.H.D 2).tx=2:=by decide +kernel
theorem bF6:∃ Z1 Z2 Z3,PrF Z1 Z2 Z3:=⟨prZ1,prZ2,prZ3,rfl,rfl,rfl,al6.1,al6.2.1,al6.2.2.1,al6.2.2.2.1,al6.2.2.2.2.1,al6.2.2.2.2.2.1,al6.2.2.2.2.2.2⟩
end Go.Proofs.YtipakfjpfjehmaaGreatDoor.En
namespace Go.Proofs.YtipakfjpfjehmaaGreatDoor.En
open Go.ChangeShapes Go.WideShapes Go.ChangeAt Go.RowKit Num Ww
open Rr (Rx a19 InX okW u64B Alike step_in newX a43)
section
variable {w w':World} {f:Ex} {v v':Ev} {s:Su} {Z:Es} {g:Nat}
theorem DdsAt.next {B m n:Nat} {D:Nat->Rr.Dd} (h:DdsAt w B g m n s Z D) (hn:n<m) {u:World} (k:Bl w u) {Dk:Rr.Dd} (hD:Rr.DdAt u w.heap.size Dk (af8 (Z.X.H.D n).tx) (macT (Z.X.H.D n).tx)):∃ arr,u.heap[g]?=some (.cells arr 48 (0,0))/\n*19+(as1 s Z n Dk (Z.X.R:Int)).size<=arr.size/\∃ D',DdsAt (u.setRow g (af2 arr (n*19) (as1 s Z n Dk (Z.X.R:Int)).toList)) B g m (n+1) s Z D':=by
 have hu:=h.on k;have hg:=h.row.lt;obtain⟨arr,a1,a2,a3⟩:=hu.row.next hn (cs:=as1 s Z n Dk (Z.X.R:Int)) (aQ4 ..);refine⟨arr,a1,a2,fun i=>if i=n then Dk else D i,?_,fun i hi=>?_,h.lo⟩
 ·have e:updA (fun i=>as1 s Z i (D i) (Z.X.R:Int)) n (as1 s Z n Dk (Z.X.R:Int))=fun i=>as1 s Z i (if i=n then Dk else D i) (Z.X.R:Int):=by
   funext i
   by_cases q:i=n
   ·subst q;rw[a25,if_pos rfl]
   ·rw[a35 _ _ q,if_neg q]
  rw[<- e];exact a3
 ·by_cases q:i=n
  ·subst q
   rw[if_pos rfl];exact(hD.mono (by omega)).keep (fun j hj _=>setRow_other _ _ _ _ (by omega)) (by simp)
  ·rw[if_neg q]
   exact(hu.dd i (by omega)).keep (fun j hj _=>setRow_other _ _ _ _ (by omega)) (by simp)
theorem b24 (h:Eng w f v s Z) (hs:SuIn s):Calls Tryz.prog 14 #[.pointer (some ⟨f.b,0,none⟩)] w fun r w'=>∃ g,r=.returned (.slice (some ⟨g,0,none⟩) Z.X.H.dn Z.X.H.dn)/\Hid (∃ D,DdsAt w' w.heap.size g Z.X.H.dn Z.X.H.dn s Z D/\Bl w w'):=by
 obtain⟨n,hn⟩:∃ n,Z.X.H.dn=n:=⟨_,rfl⟩
 have few:=h.wi.few hs;rw[hn]at few;have fewi:(n:Int)<=512:=by omega
 obtain⟨arr0,hsz,hmk⟩:=bJ3 n few;obtain⟨pt,hpt⟩:∃ pt,v.pt=pt:=⟨_,rfl⟩
 obtain⟨gt,hgt⟩:∃ gt,0<n->pt=some ⟨gt,0,none⟩:=by
  obtain⟨d,h0,fi⟩:=h.at_
  by_cases q:0<n
  ·obtain⟨gt,e,_⟩:=h0.arr (by rw[fi.dn,hn];exact q)
   exact⟨gt,fun _=>hpt.symm.trans e⟩
  ·exact⟨0,fun z=>absurd z q⟩
 have HC:Hid (∀ u,Bl w u->(u.cell? ⟨f.b,14,none⟩=some (.slice pt n v.ct)/\u.cell? ⟨f.b,12,none⟩=some (.pointer (some ⟨f.rb,0,none⟩)))/\f.b<u.heap.size):=fun u hu=>by
  obtain⟨d,h0,fi⟩:=(h.on hu).at_;refine⟨⟨(h0.cell 14).trans ?_,(h0.cell 12).trans rfl⟩,h0.ltB⟩;rw[<- hpt,<- hn,<- fi.dn]
  rfl
 have HO:Hid (∀ u,Bl w u->Calls Tryz.prog 39 #[.pointer (some ⟨f.rb,0,none⟩)] u fun e w'=>e=.returned (.int .i64 (Z.X.R:Int))/\w'=u):=fun u hu=>Sd.over_any ((h.on hu).cells).2.2
 have HT:Hid (∀ u k,Bl w u->k<n->Calls Tryz.prog 38 #[.pointer (some ⟨gt,k*20,none⟩),.int .i64 (Z.X.R:Int)] u fun e w'=>∃ D,e=.returned (.agg (as1 s Z k D (Z.X.R:Int)))/\Hid (Rr.DdAt w' u.heap.size D (af8 (Z.X.H.D k).tx) (macT (Z.X.H.D k).tx)/\Bl u w')):=fun u k hu hk=>(h.on hu).told (by omega) (hpt.trans (hgt (by omega))) _
 rw[hn];have HGT:=zH hgt;obtain⟨⟨c14,c12⟩,lb⟩:=HC.out w (zF _ _);clear h hs hpt hn hgt;go_enter Tryz.func14,Tryz.ntmps14;have HC0:=HC.out _ (below_alloc w (.cells arr0 48));obtain⟨⟨e14,e12⟩,lb0⟩:=HC0;go_wp2_with fail;obtain⟨g,hg⟩:∃ g,w.heap.size=g:=⟨_,rfl⟩
 rw[hg];have H0:Hid (∃ D,DdsAt (w.alloc (.cells arr0 48)) w.heap.size g n 0 s Z D/\Bl w (w.alloc (.cells arr0 48))):=⟨fun _=>⟨none,0,none,0,none,0,none,0⟩,⟨⟨⟨arr0,by rw[<- hg];exact zN _ _,hsz,fun i j hi=>absurd hi (zI _)⟩,zV _,fun i hi=>absurd hi (zI _)⟩,fun i hi=>absurd hi (zI _),Nat.le_of_eq hg⟩,below_alloc _ _⟩;clear hmk hsz hg c14 c12 lb e14 e12 lb0
 go_loopw [16] (fun v16 wr=>∃ k:Nat,v16=.int .i64 (k:Int)/\k<=n/\Hid (∃ D,DdsAt wr w.heap.size g n k s Z D/\Bl w wr)) (fun v16 _=>n - (intOf v16).toNat)
 case atStart=>exact⟨0,rfl,zV _,H0.out⟩
 case round =>
  obtain⟨k,rfl,hk,HR⟩:=hrel;clear H0
  by_cases hlt:k<n
  ·have hlt':(k:Int)<(n:Int):=by omega
   obtain⟨D,z1,z2⟩:=HR.out;have HQ:=zH (And.intro z1 z2);have ept:=HGT.out (by omega);subst ept;obtain⟨⟨c14,c12⟩,lb⟩:=HC.out wr z2;have lg:=z1.row.lt;have HCC:=zH (fun u (hu:Bl wr u)=>HC.out u (HQ.out.2.trans (hu.mono HQ.out.2.size)));have HOO:=zH (HO.out wr.drew (z2.trans ((Same.drew wr).below _)));have HTT:=zH (HT.out wr.drew k (z2.trans ((Same.drew wr).below _)) hlt);clear z1 z2 HC HO HT HR
   go_upto_region 5 with fail
   refine a47 (fun u=>u.cell? ⟨f.b,14,none⟩=some (.slice (some ⟨gt,0,none⟩) n v.ct)/\u.cell? ⟨f.b,12,none⟩=some (.pointer (some ⟨f.rb,0,none⟩)) )  ((0,true)::(1,true)::(2,true)::(3,true)::(4,true)::(5,true)::(6,true)::(7,true)::(8,true)::(9,true)::(10,true)::(11,true)::(12,false)::(13,false)::(14,true)::(15,false)::[])  Md.Cv.follows13 (by kernel_rfl) (fun _ _ _ _ _ h=>h)  ⟨c14,c12⟩ ?_
   (repeat (refine a33 (v:=?_) rfl (by rfl) (fun wq hSq=>?_) ?_;rotate_left;(focus ((try dsimp only at hSq);go_simp;try with_reducible rfl));simp only[Act.put,zA,zB,zC]))
   (refine a29 rfl (by rfl) (fun KK hK=>?_);go_simp)
   refine HOO.out.mono ?_;rintro r u1 ⟨rfl,hu1⟩;subst u1;refine hK.out _ _ (fun _=>⟨c14,c12⟩) ?_
   (clear hK KK;try simp only[Act.put,zA,zB,zC])
   (refine a29 rfl (by rfl) (fun KK hK=>?_);go_simp)
   refine HTT.out.mono ?_;rintro r u2 ⟨Dk,rfl,q⟩;have B2:Hid (Bl wr u2):=((Same.drew wr).below _).trans q.out.2;obtain⟨arr,a1,a2,D',a3⟩:=HQ.out.1.next hlt B2.out q.out.1;have HZ:=zH a3;obtain⟨⟨s14,s12⟩,lb2⟩:=HCC.out _ B2.out;refine hK.out _ _ (fun _=>⟨s14,s12⟩) ?_;clear q a3
   (clear hK KK;try simp only[Act.put,zA,zB,zC])
   (repeat (refine a33 (v:=?_) rfl (by rfl) (fun wq hSq=>?_) ?_;rotate_left;(focus ((try dsimp only at hSq);go_simp;try with_reducible rfl));simp only[Act.put,zA,zB,zC]))
   refine a29 rfl (by rfl) (fun KK hK=>?_);refine ah4 48 _ _ rfl g (k*19) (as1 s Z k Dk (Z.X.R:Int)) rfl rfl _ arr a1 aR9 a2 (ac0 ..) ?_;refine hK.out _ _ (fun hn=>absurd rfl hn) ?_
   (clear hK KK;try simp only[Act.put])
   refine a78 ?_;go_wp2_with fail;exact⟨⟨k+1,by first | rfl | (congr 1),by omega,D',HZ.out,Md.Ce.bl_setRow (HQ.out.2.trans (B2.out.mono HQ.out.2.size)) HQ.out.1.lo _⟩,by simp[intOf];omega⟩
  ·obtain rfl:k=n:=by omega
   have hlt':¬ (k:Int)<(k:Int):=by omega
   clear HC HO HT;go_wp2_with fail;go_ret;obtain⟨D,z1,z2⟩:=HR.out;exact⟨g,rfl,⟨D,z1⟩,z2⟩
end
def Pln (po:Option Addr) (n c:Nat):Prop:=(po=none/\n=0/\c=0)∨∃ g o sp,po=some ⟨g,o,sp⟩
def PrAt (w:World) (ao:Option Addr) (l:List (Int × List Ins)):Prop:=∀ i,i<l.length->∃ g o po c,ao=some ⟨g,o,none⟩/\g<w.heap.size/\w.cell? ⟨g,o+i*2,none⟩=some (.int .i64 (l.getD i (0,[])).1)/\w.cell? ⟨g,o+i*2+1,none⟩=some (.slice po (l.getD i (0,[])).2.length c)/\a39 w po (l.getD i (0,[])).2/\Pln po (l.getD i (0,[])).2.length c/\(l.getD i (0,[])).2.length<=5864062014805
def CaAt (w:World) (ao:Option Addr) (l:List (Int × List Nat)):Prop:=∀ i,i<l.length->∃ g o po c,ao=some ⟨g,o,none⟩/\g<w.heap.size/\w.cell? ⟨g,o+i*2,none⟩=some (.int .i64 (l.getD i (0,[])).1)/\w.cell? ⟨g,o+i*2+1,none⟩=some (.slice po (l.getD i (0,[])).2.length c)/\FlAt w po (l.getD i (0,[])).2/\Pln po (l.getD i (0,[])).2.length c/\(l.getD i (0,[])).2.length<=9223372036854775807
def ThAt (w:World) (ao:Option Addr) (l:List (List (Int × List Nat))):Prop:=∀ i,i<l.length->∃ g o qa c,ao=some ⟨g,o,none⟩/\g<w.heap.size/\w.cell? ⟨g,o+i,none⟩=some (.slice qa (l.getD i []).length c)/\CaAt w qa (l.getD i [])/\(l.getD i []).length<=9223372036854775807
structure Sp where
 ps:Option Addr
 cs:Nat
 pp:Option Addr
 cp:Nat
 pt:Option Addr
 ct:Nat
structure SuAt (w:World) (s:Su) (p:Sp):Prop where
 st:FlAt w p.ps s.st
 pg:PrAt w p.pp s.pg
 cl:ThAt w p.pt s.cl
 l1:s.st.length<=9223372036854775807
 l2:s.pg.length<=9223372036854775807
 l3:s.cl.length<=9223372036854775807
 ok:SuOk s
abbrev suC (s:Su) (p:Sp):Array Value:=#[.int .i64 s.a,.int .i64 s.b,.int .i64 s.c,.int .i64 s.e,.slice p.ps s.st.length p.cs,.slice p.pp s.pg.length p.cp,.slice p.pt s.cl.length p.ct]
abbrev suO (s:Su) (p:Sp):Obj:=.cells (suC s p) 28
section
variable {w w':World} {s:Su} {p:Sp}
theorem PrAt.on {ao:Option Addr} {l:List (Int × List Ins)} (h:PrAt w ao l) (k:Bl w w'):PrAt w' ao l:=fun i hi=>by
 obtain⟨g,o,po,c,e,hg,c0,c1,hc,hn⟩:=h i hi;exact⟨g,o,po,c,e,zL hg k.size,(k.cell (p:=⟨g,_,none⟩) hg).trans c0,(k.cell (p:=⟨g,_,none⟩) hg).trans c1,hc.on k,hn⟩
theorem CaAt.on {ao:Option Addr} {l:List (Int × List Nat)} (h:CaAt w ao l) (k:Bl w w'):CaAt w' ao l:=fun i hi=>by
 obtain⟨g,o,po,c,e,hg,c0,c1,hc,hn⟩:=h i hi;exact⟨g,o,po,c,e,zL hg k.size,(k.cell (p:=⟨g,_,none⟩) hg).trans c0,(k.cell (p:=⟨g,_,none⟩) hg).trans c1,hc.on k,hn⟩
theorem ThAt.on {ao:Option Addr} {l:List (List (Int × List Nat))} (h:ThAt w ao l) (k:Bl w w'):ThAt w' ao l:=fun i hi=>by
 obtain⟨g,o,qa,c,e,hg,c0,hc,hn⟩:=h i hi;exact⟨g,o,qa,c,e,zL hg k.size,(k.cell (p:=⟨g,_,none⟩) hg).trans c0,hc.on k,hn⟩
theorem SuAt.on (h:SuAt w s p) (k:Bl w w'):SuAt w' s p:=⟨h.st.on k,h.pg.on k,h.cl.on k,h.l1,h.l2,h.l3,h.ok⟩
def anyU (q:Nat->Bool):Nat->Bool
 | 0=>false
 | n+1=>anyU q n || q n
theorem ad7 (q:Nat->Bool):∀ n,anyU q n=true ↔ ∃ i,i<n/\q i=true
 | 0=>⟨fun h=>(by cases h),fun ⟨_,h,_⟩=>absurd h (zI _)⟩
 | n+1=>by
  show (anyU q n || q n)=true ↔ _
  rw[Bool.or_eq_true,ad7 q n]
  constructor
  ·rintro(⟨i,h1,h2⟩ | h)
   ·exact⟨i,by omega,h2⟩
   ·exact⟨n,by omega,h⟩
  ·rintro⟨i,h1,h2⟩
   by_cases e:i=n
   ·exact .inr (e ▸ h2)
   ·exact .inl ⟨i,by omega,h2⟩
theorem aZ6 {α:Type} (l:List α) (d:α) (q:α->Bool):l.any q=anyU (fun i=>q (l.getD i d)) l.length:=by
 rw[Bool.eq_iff_iff,ad7,List.any_eq_true]
 constructor
 ·rintro⟨x,hx,h⟩
  obtain⟨i,hi,rfl⟩:=List.mem_iff_getElem.1 hx;exact⟨i,hi,by rw[zG,List.getElem?_eq_getElem hi];exact h⟩
 ·rintro⟨i,hi,h⟩
  rw[zG,List.getElem?_eq_getElem hi]at h;exact⟨l[i],List.getElem_mem _,h⟩
theorem bp7 {α:Type} (l:List α) (d:α) (q:α->Bool):l.all q=!anyU (fun i=>!q (l.getD i d)) l.length:=by
 rw[<- aZ6 l d (fun x=>!q x)]
 simp[List.all_eq_not_any_not]
theorem a91 (k:Int) (po:Option Addr) (n c np:Nat) (l:List Nat) (hl:l.length=n):Calls Tryz.prog 50 #[.agg #[.int .i64 k,.slice po n c],.int .i64 (np:Int)] w fun r w'=>r=.returned (.bool (a61 np (k,l)))/\Bl w w':=by
 have HB:=zH (below_alloc w (.cells #[.int .i64 k,.slice po n c] 84));have HE:Hid (a61 np (k,l)=(decide (0<=k) && decide (k<(np:Int)) && decide ((n:Int)<=8))):=by
  unfold a61;dsimp only;rw[hl]
  congr 1
  exact decide_eq_decide.2 ⟨fun q=>by omega,fun q=>by omega⟩
 by_cases q1:0<=k
 ·by_cases q2:k<(np:Int)
  ·go_enter Tryz.func50,Tryz.ntmps50
   go_wp2_with fail;go_ret;exact⟨by rw[HE.out];simp[q1,q2],HB.out⟩
  ·go_enter Tryz.func50,Tryz.ntmps50
   go_wp2_with fail;go_ret;exact⟨by rw[HE.out];simp;omega,HB.out⟩
 ·go_enter Tryz.func50,Tryz.ntmps50
  go_wp2_with fail;go_ret;exact⟨by rw[HE.out];simp;omega,HB.out⟩
def az5 (s:Su):Bool:=decide (64<s.pg.length) || decide (s.b<(s.cl.length:Int)) || s.cl.any (fun l=>decide (64<l.length))
theorem ay3 (w:World) (s:Su) (p:Sp):Bl w (w.alloc (suO s p))/\(w.alloc (suO s p)).heap[w.heap.size]?=some (suO s p):=⟨below_alloc _ _,zN _ _⟩
theorem a75 {u:World} {x:Nat} (h:u.heap[x]?=some (suO s p)):u.cell? ⟨x,0,none⟩=some (.int .i64 s.a)/\u.cell? ⟨x,1,none⟩=some (.int .i64 s.b)/\u.cell? ⟨x,2,none⟩=some (.int .i64 s.c)/\u.cell? ⟨x,3,none⟩=some (.int .i64 s.e)/\u.cell? ⟨x,4,none⟩=some (.slice p.ps s.st.length p.cs)/\u.cell? ⟨x,5,none⟩=some (.slice p.pp s.pg.length p.cp)/\u.cell? ⟨x,6,none⟩=some (.slice p.pt s.cl.length p.ct)/\x<u.heap.size :=
 ⟨(zR u x 0 _ _ _ h).trans rfl,(zR u x 1 _ _ _ h).trans rfl,(zR u x 2 _ _ _ h).trans rfl,(zR u x 3 _ _ _ h).trans rfl,(zR u x 4 _ _ _ h).trans rfl,(zR u x 5 _ _ _ h).trans rfl,(zR u x 6 _ _ _ h).trans rfl,lt_of_block h⟩
theorem aO8 (h:SuAt w s p):Calls Tryz.prog 49 #[.agg (suC s p)] w fun r w'=>r=.returned (.bool (az5 s))/\Bl w w':=by
 have HB:=zH (ay3 w s p);have HT:=zH (h.on HB.out.1).cl;have l2:=h.l2;have l3:=h.l3;have HE:Hid (az5 s=(decide (64<s.pg.length) || decide (s.b<(s.cl.length:Int)) || anyU (fun i=>decide (64<(s.cl.getD i []).length)) s.cl.length)):=by unfold az5;rw[aZ6 s.cl []];trivial
 clear h
 by_cases q1:64<s.pg.length
 ·have q1':(64:Int)<(s.pg.length:Int):=by omega
  go_enter Tryz.func49,Tryz.ntmps49;go_wp2_with fail;go_ret;exact⟨by rw[HE.out,zT q1,Bool.true_or,Bool.true_or];rfl,HB.out.1⟩
 ·have q1':¬ (64:Int)<(s.pg.length:Int):=by omega
  by_cases q2:s.b<(s.cl.length:Int)
  ·go_enter Tryz.func49,Tryz.ntmps49
   go_wp2_with fail;go_ret;exact⟨by rw[HE.out,zT q2,Bool.or_true,Bool.true_or];rfl,HB.out.1⟩
  ·have HE2:Hid (az5 s=anyU (fun i=>decide (64<(s.cl.getD i []).length)) s.cl.length):=by rw[HE.out,zU q1,zU q2,Bool.false_or,Bool.false_or];trivial
   clear HE;go_enter Tryz.func49,Tryz.ntmps49;go_wp2_with fail;obtain⟨w1,hw1⟩:∃ w1,w1=w.alloc (suO s p):=⟨_,rfl⟩
   rw[show w.alloc (.cells (suC s p) 28)=w1 from hw1.symm];rw[<- hw1]at HB HT;clear hw1
   go_loopw [2,21] (fun v2 v21 wr=>∃ k:Nat,v21=.int .i64 (k:Int)/\v2=.bool false/\k<=s.cl.length/\Hid (wr=w1/\anyU (fun i=>decide (64<(s.cl.getD i []).length)) k=false)) (fun v2 v21 _=>s.cl.length - (intOf v21).toNat)
   case atStart=>exact⟨0,rfl,rfl,zV _,rfl,rfl⟩
   case round =>
    obtain⟨k,rfl,rfl,hk,HR⟩:=hrel;have hw:=HR.out.1;subst hw
    by_cases hlt:k<s.cl.length
    ·have hlt':(k:Int)<(s.cl.length:Int):=by omega
     obtain⟨g,o,qa,c,e,hg,c0,_,ln⟩:=HT.out k hlt;obtain⟨m,hm⟩:∃ m,(s.cl.getD k []).length=m:=⟨_,rfl⟩
     rw[hm]at c0 ln
     by_cases q:64<m
     ·have q':(64:Int)<(m:Int):=by omega
      have HY:Hid (anyU (fun i=>decide (64<(s.cl.getD i []).length)) s.cl.length=true):=(ad7 _ _).2 ⟨k,hlt,zT (by omega)⟩;clear hm;rw[e];go_wp2_with fail;go_ret;exact⟨by rw[HE2.out,HY.out];rfl,HB.out.1⟩
     ·have q':¬ (64:Int)<(m:Int):=by omega
      have HY:Hid (anyU (fun i=>decide (64<(s.cl.getD i []).length)) (k+1)=false):=by
       show (anyU _ k || decide _)=false
       rw[HR.out.2,zU (by omega)]
       rfl
      clear hm;rw[e];go_wp2_with fail;exact⟨⟨k+1,by first | rfl | (congr 1),rfl,by omega,by first | trivial | rfl,HY.out⟩,by simp[intOf];omega⟩
    ·have hk':k=s.cl.length:=by omega
     have hlt':¬ (k:Int)<(s.cl.length:Int):=by omega
     go_wp2_with fail;go_ret;exact⟨by rw[HE2.out,<- hk',HR.out.2];rfl,HB.out.1⟩
def badC (s:Su) (l:List (Int × List Nat)) (n:Nat):Bool:=anyU (fun j=>!a61 s.pg.length (l.getD j (0,[]))) n
def badT (s:Su) (n:Nat):Bool:=anyU (fun i=>badC s (s.cl.getD i []) (s.cl.getD i []).length) n
theorem b28 (s:Su):errS s=if Md.cfgB s.a s.b s.c s.e && decide ((s.st.length:Int)<=s.a) then (if az5 s then 160 else if badT s s.cl.length then 1 else 0) else 1:=by
 unfold errS badT;have e:s.cl.all (fun l=>l.all (a61 s.pg.length))=!anyU (fun i=>badC s (s.cl.getD i []) (s.cl.getD i []).length) s.cl.length:=by
  rw[bp7 s.cl []]
  congr 2
  funext i
  unfold badC;rw[bp7 _ (0,[]),Bool.not_not]
 rw[e];unfold az5
 cases anyU (fun i=>badC s (s.cl.getD i []) (s.cl.getD i []).length) s.cl.length <;> rfl
theorem aH4 (h:SuAt w s p):Calls Tryz.prog 26 #[.agg (suC s p)] w fun r w'=>r=.returned (.int .i64 (errS s))/\Bl w w':=by
 have HB:=zH (ay3 w s p);have HX:Hid (∀ u,Below (w.alloc (suO s p)).heap.size (w.alloc (suO s p)) u->SuAt u s p/\u.heap[w.heap.size]?=some (suO s p)/\Bl w u):=fun u hu=>⟨(h.on HB.out.1).on hu,(hu.block _ (lt_of_block HB.out.2)).trans HB.out.2,HB.out.1.trans (hu.mono HB.out.1.size)⟩
 have HP:=zH (fun u=>Md.place_any s.a s.b s.c s.e u);have l1:=h.l1;have l2:=h.l2;have l3:=h.l3;have HE:=zH (b28 s);have HM:Hid (∀ u,Below (w.alloc (suO s p)).heap.size (w.alloc (suO s p)) u->Calls Tryz.prog 49 #[.agg (suC s p)] u fun r w'=>r=.returned (.bool (az5 s))/\Bl u w'):=fun u hu=>aO8 (HX.out u hu).1
 clear h
 cases hc:Md.cfgB s.a s.b s.c s.e with
 | false =>
  simp only[hc]at HP;have HE2:Hid (errS s=1):=by rw[HE.out,hc];trivial
  clear HE HM;go_enter Tryz.func26,Tryz.ntmps26
  go_wp2_with (go_at_call 27;refine(HP.out _).mono ?_;rintro r u1 ⟨rfl,q⟩;have H1:=zH q;clear q HP)
  go_ret;have:=(HX.out _ H1.out).2.2;exact⟨by rw[HE2.out];rfl,this.alloc this.size _⟩
 | true =>
  simp only[hc]at HP
  by_cases q1:(s.st.length:Int)<=s.a
  ·have q1':¬ s.a<(s.st.length:Int):=by omega
   cases hm:az5 s with
   | true =>
    rw[hm]at HM;have HE2:Hid (errS s=160):=by rw[HE.out,hc,hm,zT q1];trivial
    clear HE;go_enter Tryz.func26,Tryz.ntmps26
    go_wp2_with (first
     | (go_at_call 49;refine(HM.out _ (H1.out.alloc H1.out.size _)).mono ?_;rintro r u2 ⟨rfl,q⟩;have H2:=zH (a20 (H1.out.alloc H1.out.size _) q);clear q HM)
     | (go_at_call 27;refine(HP.out _).mono ?_;rintro r u1 ⟨rfl,q⟩;have H1:=zH q;obtain⟨s0,s1,s2,s3,s4,s5,s6,s7⟩:=a75 (HX.out _ q).2.1;clear q HP))
    go_ret;exact⟨by rw[HE2.out];rfl,(HX.out _ H2.out).2.2⟩
   | false =>
    rw[hm]at HM;have HE2:Hid (errS s=if badT s s.cl.length then 1 else 0):=by rw[HE.out,hc,hm,zT q1];trivial
    clear HE;go_enter Tryz.func26,Tryz.ntmps26
    go_wp2_with (first
     | (go_at_call 49;refine(HM.out _ (H1.out.alloc H1.out.size _)).mono ?_;rintro r u2 ⟨rfl,q⟩;have H2:=zH (a20 (H1.out.alloc H1.out.size _) q);clear s0 s1 s2 s3 s4 s5 s6 s7;obtain⟨s0,s1,s2,s3,s4,s5,s6,s7⟩:=a75 (HX.out _ H2.out).2.1;clear q HM)
     | (go_at_call 27;refine(HP.out _).mono ?_;rintro r u1 ⟨rfl,q⟩;have H1:=zH q;obtain⟨s0,s1,s2,s3,s4,s5,s6,s7⟩:=a75 (HX.out _ q).2.1;clear q HP))
    clear s0 s1 s2 s3 s4 s5 s6 s7 H1
    go_loopw [2,31] (fun v2 v31 wr=>∃ k:Nat,v31=.int .i64 (k:Int)/\v2=.int .i64 0/\k<=s.cl.length/\Hid (Below (w.alloc (suO s p)).heap.size (w.alloc (suO s p)) wr/\badT s k=false)) (fun v2 v31 _=>s.cl.length - (intOf v31).toNat)
    case atStart=>exact⟨0,rfl,rfl,zV _,H2.out,rfl⟩
    case round =>
     obtain⟨k,rfl,rfl,hk,HR⟩:=hrel;clear H2
     by_cases hlt:k<s.cl.length
     ·have hlt':(k:Int)<(s.cl.length:Int):=by omega
      obtain⟨g,o,qa,c,e,hg,c0,ca,ln⟩:=(HX.out _ HR.out.1).1.cl k hlt;have HY:Hid ((badC s (s.cl.getD k []) (s.cl.getD k []).length=true->errS s=1)/\(badC s (s.cl.getD k []) (s.cl.getD k []).length=false->badT s (k+1)=false)):=by
       refine⟨fun q=>?_,fun q=>?_⟩
       ·rw[HE2.out,show badT s s.cl.length=true from(ad7 _ _).2 ⟨k,hlt,q⟩]
        rfl
       ·show (anyU _ k || badC s (s.cl.getD k []) (s.cl.getD k []).length)=false
        rw[q,Bool.or_false];exact HR.out.2
      obtain⟨l,hl⟩:∃ l,s.cl.getD k []=l:=⟨_,rfl⟩
      rw[hl]at c0 ca ln HY;obtain⟨m,hm⟩:∃ m,l.length=m:=⟨_,rfl⟩
      rw[hm]at c0 ln HY;have HCA:=zH ca;have HM:=zH hm;obtain⟨wo,hwo⟩:∃ wo,wo=wr:=⟨_,rfl⟩
      rw[<- hwo]at HR c0 hg HCA ⊢;clear hl hm ca hwo;rw[e];go_wp2_with fail
      go_loopw [2,37] (fun v2 v37 wi=>∃ j:Nat,v37=.int .i64 (j:Int)/\v2=.int .i64 0/\j<=m/\Hid (Bl wo wi/\badC s l j=false)) (fun v2 v37 _=>m - (intOf v37).toNat)
      case atStart=>exact⟨0,rfl,rfl,zV _,zF _ _,rfl⟩
      case round =>
       obtain⟨j,rfl,rfl,hj,HI⟩:=hrel;have HBW:=zH (HR.out.1.trans (HI.out.1.mono HR.out.1.size))
       by_cases hjt:j<m
       ·have hjt':(j:Int)<(m:Int):=by omega
        obtain⟨g2,o2,po,cc,e2,hg2,d0,d1,_,_⟩:=(HCA.out.on HI.out.1) j (by rw[HM.out];exact hjt);obtain⟨x,hx⟩:∃ x,l.getD j (0,[])=x:=⟨_,rfl⟩
        have HZ:Hid ((a61 s.pg.length x=true->badC s l (j+1)=false)/\(a61 s.pg.length x=false->errS s=1)):=by
         refine⟨fun q=>?_,fun q=>HY.out.1 ((ad7 _ _).2 ⟨j,hjt,by rw[hx,q];rfl⟩)⟩
         show (anyU _ j || !a61 s.pg.length (l.getD j (0,[])))=false
         rw[hx,q,Bool.not_true,Bool.or_false];exact HI.out.2
        rw[hx]at d0 d1;have HMB:=zH (fun u:World=>a91 (w:=u) x.1 po x.2.length cc s.pg.length x.2 rfl);rw[show (x.1,x.2)=x from rfl]at HMB;obtain⟨n2,hn2⟩:∃ n2,x.2.length=n2:=⟨_,rfl⟩
        obtain⟨x1,hx1⟩:∃ x1,x.1=x1:=⟨_,rfl⟩
        rw[hn2]at HMB d1;rw[hx1]at HMB d0;clear hx hn2 hx1;have HAL:Hid (∀ ob,Below (w.alloc (suO s p)).heap.size (w.alloc (suO s p)) (wr.alloc ob)/\Bl wo (wr.alloc ob)):=fun ob=>⟨HBW.out.alloc HBW.out.size ob,HI.out.1.alloc HI.out.1.size ob⟩
        obtain⟨s0,s1,s2,s3,s4,s5,s6,s7⟩:=a75 (HX.out _ (HAL.out (.cells #[.int .i64 x1,.slice po n2 cc] 84)).1).2.1;clear s0 s1 s2 s3 s4 s6;subst e2
        cases hb:a61 s.pg.length x with
        | true =>
         rw[hb]at HMB
         go_wp2_with (go_at_call 50;refine(HMB.out _).mono ?_;rintro r u4 ⟨rfl,q⟩;have H4:=zH q;clear q HMB)
         exact⟨⟨j+1,by first | rfl | (congr 1),rfl,by omega,(HAL.out _).2.trans (H4.out.mono (HAL.out _).2.size),HZ.out.1 hb⟩,by simp[intOf];omega⟩
        | false =>
         rw[hb]at HMB
         go_wp2_with (go_at_call 50;refine(HMB.out _).mono ?_;rintro r u4 ⟨rfl,q⟩;have H4:=zH q;clear q HMB)
         go_ret;have z:=(HX.out _ (HAL.out (.cells #[.int .i64 x1,.slice po n2 cc] 84)).1).2.2;exact⟨by rw[HZ.out.2 hb];rfl,z.trans (H4.out.mono z.size)⟩
       ·have hjm:j=m:=by omega
        have hjt':¬ (j:Int)<(m:Int):=by omega
        go_wp2_with fail;exact⟨⟨k+1,by first | rfl | (congr 1),rfl,by omega,HBW.out,HY.out.2 (by rw[<- hjm];exact HI.out.2)⟩,by simp[intOf];omega⟩
     ·have hk':k=s.cl.length:=by omega
      have hlt':¬ (k:Int)<(s.cl.length:Int):=by omega
      go_wp2_with fail;go_ret;exact⟨by rw[HE2.out,<- hk',HR.out.2];rfl,(HX.out _ HR.out.1).2.2⟩
  ·have q1':s.a<(s.st.length:Int):=by omega
   have HE2:Hid (errS s=1):=by rw[HE.out,zU q1,Bool.and_false];trivial
   clear HE HM;go_enter Tryz.func26,Tryz.ntmps26
   go_wp2_with (go_at_call 27;refine(HP.out _).mono ?_;rintro r u1 ⟨rfl,q⟩;have H1:=zH q;obtain⟨s0,s1,s2,s3,s4,s5,s6,s7⟩:=a75 (HX.out _ q).2.1;clear q HP)
   go_ret;have:=(HX.out _ H1.out).2.2;exact⟨by rw[HE2.out];rfl,this.alloc this.size _⟩
end
theorem aA2 {w:World} {g o c n:Nat} {sp:Option Nat} {xs:List Value} (hn:xs.length=n*3) (hx:∀ j u,xs[j]?=some u->w.cell? ((⟨g,o,sp⟩:Addr).add j)=some u) (h1:∀ u∈xs,u.oneCell'=true) (hz:n<=5864062014805):Calls Tryz.prog 58 #[.slice (some ⟨g,o,sp⟩) n c] w fun e w'=>∃ p' c',e=.returned (.slice p' n c')/\w'.ownsRow w.heap.size 124 3 (.slice p' n c') n xs/\Bl w w':=by
 have hq:=fun w c=>Lib.run_eql_slice_nil (P:=Tryz.prog) w 119 124 (some ⟨g,o,sp⟩) n c 0 0 Tryz.underlying119
 have HX:Hid (∀ j u,xs[j]?=some u->(w.alloc (.cells #[] 124)).cell? ((⟨g,o,sp⟩:Addr).add j)=some u):=fun j u hj=>((below_alloc w _).cell (zK w _ (hx j u hj))).trans (hx j u hj)
 have H1:=zH (And.intro h1 (And.intro hn hz));have HO:Hid ((w.alloc (.cells #[] 124)).ownsRow w.heap.size 124 3 (.slice (some ⟨w.heap.size,0,none⟩) 0 0) 0 []):=⟨rfl,.inr ⟨w.heap.size,0,#[],rfl,zE _,zN _ _,zE _,zV _,by simp,by simp⟩⟩;obtain⟨i0,hi,hz0,hz1,hz2⟩:=info_parts b53;have HZI:=zH (And.intro hi (And.intro hz0 (And.intro hz1 hz2)));clear hi hz0 hz1 hz2 hx h1 hz hn;go_enter Tryz.func58,Tryz.ntmps58
 go_wp2_with (at_builtin;refine wpList_append_own_at _ rfl _ _ 119 rfl w.heap.size 124 i0 _ 3 24 Tryz.underlying119 HZI.out.1 HZI.out.2.1 HZI.out.2.2.1 HZI.out.2.2.2 rfl (by decide) _ 0 [] rfl HO.out ⟨g,o,sp⟩ n _ xs rfl H1.out.2.1 HX.out H1.out.1 (by have:=H1.out.2.2;unfold maxLen;omega) (by have:=H1.out.2.2;omega) (by simp) ?_;intro v w3 hown hgrow hnil hloc;have HS:=zH (And.intro hown hgrow);clear hown hgrow hnil hloc)
 have ho3:=HS.out.1;rw[List.nil_append,Nat.zero_add]at ho3;obtain⟨p',c',hv,ha⟩:=ad3 ho3;subst hv;have hb3:Bl w w3:=(below_alloc w _).grown HS.out.2 (by simp) (fun j hj=>by
  have:=hj
  simp[Act.eval,Value.ownBlock]at this
  omega)
 have HF:=zH (And.intro ho3 hb3);clear ho3 ha hb3 HS H1
 go_wp2
 go_ret;exact⟨_,_,rfl,HF.out.1,HF.out.2⟩
theorem az1 {w:World} {ao:Option Addr} {cap n:Nat} {c:List Ins} (h:a39 w ao c) (hn:c.length=n) (h1:1<=n) (hz:n<=5864062014805):Calls Tryz.prog 58 #[.slice ao n cap] w fun e w'=>∃ p' c',e=.returned (.slice p' n c')/\a39 w' p' c/\Blw w' (fpR p')/\Abv w.heap.size (fpR p')/\Bl w w':=by
 obtain⟨g,o,e,_,_,_,_⟩:=h 0 (by omega);subst e;refine(aA2 (xs:=c.flatMap fun i=>[Value.int .i64 i.op,.int .i64 i.n,.float .f64 i.x]) (by rw[aD5,hn]) (fun j u hj=>?_) (fun u hu=>?_) hz).mono fun e w' ⟨p',c',a1,a2,a3⟩=>?_
 ·have hjl:j<c.length*3:=by
   have:=(List.getElem?_eq_some_iff.1 hj).1;rwa[aD5]at this
  rw[aI0 c j hjl]at hj;obtain⟨g',o',e',_,c0,c1,c2⟩:=h (j / 3) (by omega)
  cases e'
  rw[show (⟨g,o,none⟩:Addr).add j=⟨g,o+j,none⟩ by unfold Addr.add;split <;> simp_all,<- hj]
  by_cases h0:j % 3=0
  ·rw[if_pos h0,show o+j=o+j / 3*3 by omega]
   exact c0
  ·rw[if_neg h0]
   by_cases h1:j % 3=1
   ·rw[if_pos h1,show o+j=o+j / 3*3+1 by omega]
    exact c1
   ·rw[if_neg h1,show o+j=o+j / 3*3+2 by omega]
    exact c2
 ·obtain⟨i,_,hx⟩:=List.mem_flatMap.1 hu
  simp at hx
  rcases hx with rfl | rfl | rfl <;> rfl
 ·rw[<- hn]at a2
  obtain⟨b1,b2,b3⟩:=aQ1 a2;exact⟨p',c',a1,b1,b2,b3,a3⟩
theorem aU9 {w:World} {ao:Option Addr} {cap:Nat} {c:List Ins} (h:a39 w ao c) (hp:Pln ao c.length cap) (hz:c.length<=5864062014805):Calls Tryz.prog 58 #[.slice ao c.length cap] w fun e w'=>∃ p' c',e=.returned (.slice p' c.length c')/\a39 w' p' c/\Blw w' (fpR p')/\Abv w.heap.size (fpR p')/\Bl w w':=by
 by_cases h1:1<=c.length
 ·exact az1 h rfl h1 hz
 ·have h0:c.length=0:=by omega
  have hC:∀ (w:World) (p:Option Addr),a39 w p c:=fun w p k hk=>by omega
  rcases hp with⟨rfl,_,rfl⟩ | ⟨g,o,sp,rfl⟩
  ·rw[h0]
   exact(aU5 w).mono fun e w' ⟨a1,a2⟩=>⟨none,0,a1,hC _ _,fun k hk=>by simp[fpR]at hk,fun k hk=>by simp[fpR]at hk,a2 ▸ zF _ _⟩
  ·refine(aA2 (xs:=[]) (by rw[h0];rfl) (fun j u hj=>by cases hj) (fun u hu=>by cases hu) (by omega)).mono fun e w' ⟨p',c',a1,a2,a3⟩=>⟨p',c',a1,hC _ _,fun k hk=>(a2.lt k (a42.1 hk)).2,fun k hk=>(a2.lt k (a42.1 hk)).1,a3⟩
theorem aU7 {w:World} {po:Option Addr} {cap:Nat} {l:List Nat} (h:FlAt w po l) (hp:Pln po l.length cap) (hz:l.length<=1024):Calls Tryz.prog 59 #[.slice po l.length cap] w fun e w'=>∃ p' c',e=.returned (.slice p' l.length c')/\RowAt 49 w' p' c' (fls l)/\Abv w.heap.size (fpR p')/\Bl w w':=by
 rcases hp with⟨rfl,h0,rfl⟩ | ⟨g,o,sp,rfl⟩
 ·obtain rfl:l=[]:=List.length_eq_zero_iff.1 h0
  exact(aA1 w).mono fun e w' ⟨a1,a2⟩=>⟨none,0,a1,⟨World.ownsRow_nil _ _ _ _⟩,fun k hk=>by simp[fpR]at hk,a2 ▸ zF _ _⟩
 ·refine(au8 (xs:=fls l) (by rw[a32,Nat.mul_one]) (fun j u hj=>?_) (b38 l) hz).mono fun e w' ⟨p',c',a1,a2,a3⟩=>?_
  ·have hjl:j<l.length:=by
    have:=(List.getElem?_eq_some_iff.1 hj).1;rwa[a32]at this
   obtain⟨g',o',e',_,c0⟩:=h j hjl
   cases e'
   rw[add_plain,c0,<- hj];unfold fls;rw[List.getElem?_map,zG,List.getElem?_eq_getElem hjl]
   rfl
  ·obtain⟨p2,c2,e2,r1,r2⟩:=aE7 a2
   have e2:Value.slice p' l.length c'=.slice p2 l.length c2:=by rw[e2,a32]
   injection e2 with e3 _ e4;subst e3 e4;exact⟨_,_,a1,r1,r2,a3⟩
theorem bd7:(Tryz.prog.info? 84).map (fun i=>(i.zero,i.size,i.bytes))=some (some (.agg #[.int .i64 0,.slice none 0 0]),2,32):=by kernel_rfl
theorem bj7:(Tryz.prog.info? 121).map (fun i=>(i.zero,i.size,i.bytes))=some (some (.agg #[.int .i64 0,.slice none 0 0]),2,32):=by kernel_rfl
theorem bJ1 (n:Nat) (hn:n<=512):∃ arr:Array Value,arr.size=n*2/\∀ w:World,(Instr.makeSlice 60 (.int .i64 (n:Int)) (.int .i64 (n:Int))).run Tryz.prog w=.ok (.slice (some ⟨w.heap.size,0,none⟩) n n) (w.alloc (.cells arr 84)):=by
 obtain⟨i,hi,hz0,hz1,hz2⟩:=info_parts bd7;refine⟨madeCells (Value.agg #[.int .i64 0,.slice none 0 0]).cells (n*i.size),by rw[size_madeCells,hz1],fun w=>?_⟩;rw[run_make w 60 84 i _ Tryz.underlying60 hi hz0 .i64 .i64 n n (by omega) (zW _) (by rw[hz2];omega) (by omega)];rw[Int.toNat_natCast]
theorem bN2 (n:Nat) (hn:n<=512):∃ arr:Array Value,arr.size=n*2/\∀ w:World,(Instr.makeSlice 25 (.int .i64 (n:Int)) (.int .i64 (n:Int))).run Tryz.prog w=.ok (.slice (some ⟨w.heap.size,0,none⟩) n n) (w.alloc (.cells arr 121)):=by
 obtain⟨i,hi,hz0,hz1,hz2⟩:=info_parts bj7;refine⟨madeCells (Value.agg #[.int .i64 0,.slice none 0 0]).cells (n*i.size),by rw[size_madeCells,hz1],fun w=>?_⟩;rw[run_make w 25 121 i _ Tryz.underlying25 hi hz0 .i64 .i64 n n (by omega) (zW _) (by rw[hz2];omega) (by omega)];rw[Int.toNat_natCast]
structure OwC (w:World) (B g n k:Nat) (l:List (Int × List Nat)) (P:Nat->Option Addr) (C:Nat->Nat):Prop where
 row:Arr w g 84 2 n k (fun j=>#[.int .i64 (l.getD j (0,[])).1,.slice (P j) (l.getD j (0,[])).2.length (C j)])
 args:∀ j,j<k->RowAt 49 w (P j) (C j) (fls (l.getD j (0,[])).2)/\Abv (g+1) (fpR (P j))
 lo:B<=g
section
variable {w w':World} {g:Nat}
theorem OwC.on {B n k:Nat} {l:List (Int × List Nat)} {P:Nat->Option Addr} {C:Nat->Nat} (h:OwC w B g n k l P C) (q:Bl w w'):OwC w' B g n k l P C:=⟨h.row.on q,fun j hj=>⟨(h.args j hj).1.on q,(h.args j hj).2⟩,h.lo⟩
theorem OwC.next {B n k:Nat} {l:List (Int × List Nat)} {P:Nat->Option Addr} {C:Nat->Nat} (h:OwC w B g n k l P C) (hk:k<n) {u:World} (q:Bl w u) {po:Option Addr} {co:Nat} (hr:RowAt 49 u po co (fls (l.getD k (0,[])).2)) (ha:Abv w.heap.size (fpR po)):∃ arr,u.heap[g]?=some (.cells arr 84 (0,0))/\k*2+2<=arr.size/\∃ P' C',OwC (u.setRow g (af2 arr (k*2) [.int .i64 (l.getD k (0,[])).1,.slice po (l.getD k (0,[])).2.length co])) B g n (k+1) l P' C':=by
 have hu:=h.on q;have hg:=h.row.lt;obtain⟨arr,a1,a2,a3⟩:=hu.row.next hk (cs:=#[.int .i64 (l.getD k (0,[])).1,.slice po (l.getD k (0,[])).2.length co]) rfl;refine⟨arr,a1,a2,fun j=>if j=k then po else P j,fun j=>if j=k then co else C j,?_,fun j hj=>?_,h.lo⟩
 ·have e:updA (fun j=>#[.int .i64 (l.getD j (0,[])).1,.slice (P j) (l.getD j (0,[])).2.length (C j)]) k #[.int .i64 (l.getD k (0,[])).1,.slice po (l.getD k (0,[])).2.length co]=fun j=>#[Value.int .i64 (l.getD j (0,[])).1,.slice (if j=k then po else P j) (l.getD j (0,[])).2.length (if j=k then co else C j)]:=by
   funext j
   by_cases z:j=k
   ·subst z;rw[a25,if_pos rfl,if_pos rfl]
   ·rw[a35 _ _ z,if_neg z,if_neg z]
  rw[<- e];exact a3
 ·by_cases z:j=k
  ·subst z
   rw[if_pos rfl,if_pos rfl];have ha':Abv (g+1) (fpR po):=ha.mono (by omega);exact⟨hr.keep (a96 fun y=>by have:=ha' g y;omega),ha'⟩
  ·rw[if_neg z,if_neg z]
   have:=hu.args j (by omega);exact⟨this.1.keep (a96 fun y=>by have:=this.2 g y;omega),this.2⟩
theorem OwC.in_ {B n:Nat} {l:List (Int × List Nat)} {P:Nat->Option Addr} {C:Nat->Nat} (h:OwC w B g n n l P C):∃ R,Abv B R/\Blw w R/\∀ j,j<n->ClIn w R (some ⟨g,0,none⟩) j (l.getD j (0,[])):=by
 refine⟨g::(List.range n).flatMap (fun j=>fpR (P j)),fun k hk=>?_,fun k hk=>?_,fun j hj=>⟨g,rfl,by simp,?_,P j,C j,?_,(h.args j hj).1.fl,fun k hk=>?_⟩⟩
 ·simp only[List.mem_cons,List.mem_flatMap,List.mem_range]at hk
  rcases hk with rfl | ⟨j,hj,hk⟩
  ·exact h.lo
  ·have:=(h.args j hj).2 k hk
   have:=h.lo;omega
 ·simp only[List.mem_cons,List.mem_flatMap,List.mem_range]at hk
  rcases hk with rfl | ⟨j,hj,hk⟩
  ·exact h.row.lt
  ·exact(h.args j hj).1.blw k hk
 ·exact(h.row.cell (j:=0) hj (by omega)).trans rfl
 ·exact(h.row.cell (j:=1) hj (by omega)).trans rfl
 ·simp only[List.mem_cons,List.mem_flatMap,List.mem_range]
  exact .inr ⟨j,hj,hk⟩
theorem aI9 {ao:Option Addr} {cap:Nat} {l:List (Int × List Nat)} (h:CaAt w ao l) (hl:l.length<=64) (h8:∀ j,j<l.length->(l.getD j (0,[])).2.length<=8):Calls Tryz.prog 32 #[.slice ao l.length cap] w fun r w'=>∃ g,r=.returned (.slice (some ⟨g,0,none⟩) l.length l.length)/\Hid ((∃ P C,OwC w' w.heap.size g l.length l.length l P C)/\Bl w w'):=by
 obtain⟨n,hn⟩:∃ n,l.length=n:=⟨_,rfl⟩
 rw[hn]at hl h8;have hli:(n:Int)<=64:=by omega
 obtain⟨arr0,hsz,hmk⟩:=bJ1 n (by omega);have HC:Hid (∀ u k,Bl w u->k<n->∃ g o po c,ao=some ⟨g,o,none⟩/\g<u.heap.size/\u.cell? ⟨g,o+k*2,none⟩=some (.int .i64 (l.getD k (0,[])).1)/\u.cell? ⟨g,o+k*2+1,none⟩=some (.slice po (l.getD k (0,[])).2.length c)/\(∀ u',Bl u u'->Calls Tryz.prog 59 #[.slice po (l.getD k (0,[])).2.length c] u' fun e w'=>∃ p' c',e=.returned (.slice p' (l.getD k (0,[])).2.length c')/\RowAt 49 w' p' c' (fls (l.getD k (0,[])).2)/\Abv u'.heap.size (fpR p')/\Bl u' w')):=fun u k hu hk=>by
  obtain⟨g,o,po,c,e,hg,c0,c1,c2,c3,_⟩:=(h.on hu) k (by omega);exact⟨g,o,po,c,e,hg,c0,c1,fun u' hu'=>aU7 (c2.on hu') c3 (by have:=h8 k hk;omega)⟩
 rw[hn];clear h h8 hn;go_enter Tryz.func32,Tryz.ntmps32;go_wp2_with fail;obtain⟨g,hg⟩:∃ g,w.heap.size=g:=⟨_,rfl⟩
 rw[hg];have H0:Hid ((∃ P C,OwC (w.alloc (.cells arr0 84)) w.heap.size g n 0 l P C)/\Bl w (w.alloc (.cells arr0 84))):=⟨⟨fun _=>none,fun _=>0,⟨⟨⟨arr0,by rw[<- hg];exact zN _ _,hsz,fun i j hi=>absurd hi (zI _)⟩,zV _,fun i hi=>absurd hi (zI _)⟩,fun i hi=>absurd hi (zI _),Nat.le_of_eq hg⟩⟩,below_alloc _ _⟩;clear hmk hsz hg
 go_loopw [11] (fun v11 wr=>∃ k:Nat,v11=.int .i64 (k:Int)/\k<=n/\Hid ((∃ P C,OwC wr w.heap.size g n k l P C)/\Bl w wr)) (fun v11 _=>n - (intOf v11).toNat)
 case atStart=>exact⟨0,rfl,zV _,H0.out⟩
 case round =>
  obtain⟨k,rfl,hk,HR⟩:=hrel;clear H0
  by_cases hlt:k<n
  ·have hlt':(k:Int)<(n:Int):=by omega
   obtain⟨⟨P,C,z1⟩,z2⟩:=HR.out;have HQ:=zH (And.intro z1 z2);obtain⟨gl,o,po,c,e,hgl,c0,c1,HCL0⟩:=HC.out wr k z2 hlt;have HCL:=zH HCL0;have HN:=zH (fun u (q:Bl wr u) po co hr ha=>z1.next hlt q (po:=po) (co:=co) hr ha);have lg:=z1.row.lt;obtain⟨x1,hx1⟩:∃ x1,(l.getD k (0,[])).1=x1:=⟨_,rfl⟩
   obtain⟨x2,hx2⟩:∃ x2,(l.getD k (0,[])).2.length=x2:=⟨_,rfl⟩
   rw[hx1]at c0 HN;rw[hx2]at c1 HCL HN;clear z1 z2 HC HR HCL0 hx1 hx2;subst e
   go_upto_region 5 with fail
   obtain⟨gb,hgb⟩:∃ gb,wr.heap.size=gb:=⟨_,rfl⟩
   obtain⟨w1,hw1⟩:∃ w1,w1=wr.alloc (.cells #[.int .i64 x1,.slice po x2 c] 84):=⟨_,rfl⟩
   rw[<- hw1,hgb];have H1:Hid (Bl wr w1/\w1.heap[gb]?=some (.cells #[.int .i64 x1,.slice po x2 c] 84 (0,0))):=by
    rw[hw1,<- hgb];exact⟨below_alloc _ _,zN _ _⟩
   have t0:=(zR w1 gb 0 _ _ _ H1.out.2).trans (rfl:_=some (Value.int .i64 x1));have t1:=(zR w1 gb 1 _ _ _ H1.out.2).trans (rfl:_=some (Value.slice po x2 c));have lgb:=lt_of_block H1.out.2;clear hw1 hgb c0 c1;refine a47 (fun u=>u.cell? ⟨gb,0,none⟩=some (.int .i64 x1)/\u.cell? ⟨gb,1,none⟩=some (.slice po x2 c) )  ((0,true)::(1,true)::(2,true)::(3,true)::(4,true)::(5,true)::(6,false)::(7,true)::(8,true)::(9,false)::[])  Md.Cv.follows13 (by kernel_rfl) (fun _ _ _ _ _ h=>h)  ⟨t0,t1⟩ ?_
   (repeat (refine a33 (v:=?_) rfl (by rfl) (fun wq hSq=>?_) ?_;rotate_left;(focus ((try dsimp only at hSq);go_simp;try with_reducible rfl));simp only[Act.put,zA,zB,zC]))
   (refine a29 rfl (by rfl) (fun KK hK=>?_);go_simp)
   refine(HCL.out _ (H1.out.1.trans ((Same.drew w1).below _))).mono ?_;rintro r u2 ⟨p',c',rfl,q1,q2,q3⟩;have B2:Hid (Bl wr u2/\Bl w1 u2):=⟨(H1.out.1.trans ((Same.drew w1).below _)).trans (q3.mono H1.out.1.size),((Same.drew w1).below _).trans q3⟩;obtain⟨arr,a1,a2,P',C',a3⟩:=HN.out u2 B2.out.1 p' c' q1 (q2.mono H1.out.1.size);have HZ:=zH a3;have hb2:u2.heap[gb]?=some (.cells #[.int .i64 x1,.slice po x2 c] 84 (0,0)):=(B2.out.2.block _ lgb).trans H1.out.2;refine hK.out _ _ (fun _=>⟨(zR u2 gb 0 _ _ _ hb2).trans rfl,(zR u2 gb 1 _ _ _ hb2).trans rfl⟩) ?_;clear q1 q2 q3 a3 hb2
   (clear hK KK;try simp only[Act.put,zA,zB,zC])
   (repeat (refine a33 (v:=?_) rfl (by rfl) (fun wq hSq=>?_) ?_;rotate_left;(focus ((try dsimp only at hSq);go_simp;try with_reducible rfl));simp only[Act.put,zA,zB,zC]))
   refine a29 rfl (by rfl) (fun KK hK=>?_);refine ah4 84 _ _ rfl g (k*2) #[.int .i64 x1,.slice p' x2 c'] rfl rfl _ arr a1 (by kernel_rfl) a2 (by simp[Value.oneCell']) ?_;refine hK.out _ _ (fun hn=>absurd rfl hn) ?_
   (clear hK KK;try simp only[Act.put])
   refine a78 ?_;go_wp2_with fail;exact⟨⟨k+1,by first | rfl | (congr 1),by omega,⟨P',C',HZ.out⟩,Md.Ce.bl_setRow (HQ.out.2.trans (B2.out.1.mono HQ.out.2.size)) HQ.out.1.lo _⟩,by simp[intOf];omega⟩
  ·obtain rfl:k=n:=by omega
   have hlt':¬ (k:Int)<(k:Int):=by omega
   clear HC;go_wp2_with fail;go_ret;exact⟨g,rfl,HR.out⟩
end
structure OwP (w:World) (B g n k:Nat) (l:List (Int × List Ins)) (P:Nat->Option Addr) (C:Nat->Nat):Prop where
 row:Arr w g 121 2 n k (fun j=>#[.int .i64 (l.getD j (0,[])).1,.slice (P j) (l.getD j (0,[])).2.length (C j)])
 args:∀ j,j<k->(a39 w (P j) (l.getD j (0,[])).2/\Blw w (fpR (P j)))/\Abv (g+1) (fpR (P j))
 lo:B<=g
section
variable {w w':World} {g:Nat}
theorem OwP.on {B n k:Nat} {l:List (Int × List Ins)} {P:Nat->Option Addr} {C:Nat->Nat} (h:OwP w B g n k l P C) (q:Bl w w'):OwP w' B g n k l P C:=⟨h.row.on q,fun j hj=>⟨⟨(h.args j hj).1.1.on q,fun i hi=>zL ((h.args j hj).1.2 i hi) q.size⟩,(h.args j hj).2⟩,h.lo⟩
theorem OwP.next {B n k:Nat} {l:List (Int × List Ins)} {P:Nat->Option Addr} {C:Nat->Nat} (h:OwP w B g n k l P C) (hk:k<n) {u:World} (q:Bl w u) {po:Option Addr} {co:Nat} (hr:a39 u po (l.getD k (0,[])).2) (hb:Blw u (fpR po)) (ha:Abv w.heap.size (fpR po)):∃ arr,u.heap[g]?=some (.cells arr 121 (0,0))/\k*2+2<=arr.size/\∃ P' C',OwP (u.setRow g (af2 arr (k*2) [.int .i64 (l.getD k (0,[])).1,.slice po (l.getD k (0,[])).2.length co])) B g n (k+1) l P' C':=by
 have hu:=h.on q;have hg:=h.row.lt;obtain⟨arr,a1,a2,a3⟩:=hu.row.next hk (cs:=#[.int .i64 (l.getD k (0,[])).1,.slice po (l.getD k (0,[])).2.length co]) rfl;refine⟨arr,a1,a2,fun j=>if j=k then po else P j,fun j=>if j=k then co else C j,?_,fun j hj=>?_,h.lo⟩
 ·have e:updA (fun j=>#[.int .i64 (l.getD j (0,[])).1,.slice (P j) (l.getD j (0,[])).2.length (C j)]) k #[.int .i64 (l.getD k (0,[])).1,.slice po (l.getD k (0,[])).2.length co]=fun j=>#[Value.int .i64 (l.getD j (0,[])).1,.slice (if j=k then po else P j) (l.getD j (0,[])).2.length (if j=k then co else C j)]:=by
   funext j
   by_cases z:j=k
   ·subst z;rw[a25,if_pos rfl,if_pos rfl]
   ·rw[a35 _ _ z,if_neg z,if_neg z]
  rw[<- e];exact a3
 ·by_cases z:j=k
  ·subst z
   rw[if_pos rfl];have ha':Abv (g+1) (fpR po):=ha.mono (by omega);exact⟨⟨au9 hr (a96 fun y=>by have:=ha' g y;omega),fun i hi=>by have:=hb i hi;simpa using this⟩,ha'⟩
  ·rw[if_neg z]
   have:=hu.args j (by omega);exact⟨⟨au9 this.1.1 (a96 fun y=>by have:=this.2 g y;omega),fun i hi=>by have:=this.1.2 i hi;simpa using this⟩,this.2⟩
theorem OwP.in_ {B n:Nat} {l:List (Int × List Ins)} {P:Nat->Option Addr} {C:Nat->Nat} (h:OwP w B g n n l P C) (hl:∀ j,j<n->(l.getD j (0,[])).2.length<=9223372036854775807):∃ R,Abv B R/\Blw w R/\g∈R/\∀ j,j<n->PgIn w R g j (l.getD j (0,[])):=by
 refine⟨g::(List.range n).flatMap (fun j=>fpR (P j)),fun k hk=>?_,fun k hk=>?_,by simp,fun j hj=>⟨by simp,?_,P j,C j,?_,(h.args j hj).1.1,fun k hk=>?_,hl j hj⟩⟩
 ·simp only[List.mem_cons,List.mem_flatMap,List.mem_range]at hk
  rcases hk with rfl | ⟨j,hj,hk⟩
  ·exact h.lo
  ·have:=(h.args j hj).2 k hk
   have:=h.lo;omega
 ·simp only[List.mem_cons,List.mem_flatMap,List.mem_range]at hk
  rcases hk with rfl | ⟨j,hj,hk⟩
  ·exact h.row.lt
  ·exact(h.args j hj).1.2 k hk
 ·exact(h.row.cell (j:=0) hj (by omega)).trans rfl
 ·exact(h.row.cell (j:=1) hj (by omega)).trans rfl
 ·simp only[List.mem_cons,List.mem_flatMap,List.mem_range]
  exact .inr ⟨j,hj,hk⟩
theorem ax4 {ao:Option Addr} {cap:Nat} {l:List (Int × List Ins)} (h:PrAt w ao l) (hl:l.length<=64):Calls Tryz.prog 31 #[.slice ao l.length cap] w fun r w'=>∃ g,r=.returned (.slice (some ⟨g,0,none⟩) l.length l.length)/\Hid ((∃ P C,OwP w' w.heap.size g l.length l.length l P C)/\Bl w w'):=by
 obtain⟨n,hn⟩:∃ n,l.length=n:=⟨_,rfl⟩
 rw[hn]at hl;have hli:(n:Int)<=64:=by omega
 obtain⟨arr0,hsz,hmk⟩:=bN2 n (by omega);have HC:Hid (∀ u k,Bl w u->k<n->∃ g o po c,ao=some ⟨g,o,none⟩/\g<u.heap.size/\u.cell? ⟨g,o+k*2,none⟩=some (.int .i64 (l.getD k (0,[])).1)/\u.cell? ⟨g,o+k*2+1,none⟩=some (.slice po (l.getD k (0,[])).2.length c)/\(∀ u',Bl u u'->Calls Tryz.prog 58 #[.slice po (l.getD k (0,[])).2.length c] u' fun e w'=>∃ p' c',e=.returned (.slice p' (l.getD k (0,[])).2.length c')/\a39 w' p' (l.getD k (0,[])).2/\Blw w' (fpR p')/\Abv u'.heap.size (fpR p')/\Bl u' w')):=fun u k hu hk=>by
  obtain⟨g,o,po,c,e,hg,c0,c1,c2,c3,c4⟩:=(h.on hu) k (by omega);exact⟨g,o,po,c,e,hg,c0,c1,fun u' hu'=>aU9 (c2.on hu') c3 c4⟩
 rw[hn];clear h hn;go_enter Tryz.func31,Tryz.ntmps31;go_wp2_with fail;obtain⟨g,hg⟩:∃ g,w.heap.size=g:=⟨_,rfl⟩
 rw[hg];have H0:Hid ((∃ P C,OwP (w.alloc (.cells arr0 121)) w.heap.size g n 0 l P C)/\Bl w (w.alloc (.cells arr0 121))):=⟨⟨fun _=>none,fun _=>0,⟨⟨⟨arr0,by rw[<- hg];exact zN _ _,hsz,fun i j hi=>absurd hi (zI _)⟩,zV _,fun i hi=>absurd hi (zI _)⟩,fun i hi=>absurd hi (zI _),Nat.le_of_eq hg⟩⟩,below_alloc _ _⟩;clear hmk hsz hg
 go_loopw [11] (fun v11 wr=>∃ k:Nat,v11=.int .i64 (k:Int)/\k<=n/\Hid ((∃ P C,OwP wr w.heap.size g n k l P C)/\Bl w wr)) (fun v11 _=>n - (intOf v11).toNat)
 case atStart=>exact⟨0,rfl,zV _,H0.out⟩
 case round =>
  obtain⟨k,rfl,hk,HR⟩:=hrel;clear H0
  by_cases hlt:k<n
  ·have hlt':(k:Int)<(n:Int):=by omega
   obtain⟨⟨P,C,z1⟩,z2⟩:=HR.out;have HQ:=zH (And.intro z1 z2);obtain⟨gl,o,po,c,e,hgl,c0,c1,HCL0⟩:=HC.out wr k z2 hlt;have HCL:=zH HCL0;have HN:=zH (fun u (q:Bl wr u) po co hr hb ha=>z1.next hlt q (po:=po) (co:=co) hr hb ha);have lg:=z1.row.lt;obtain⟨x1,hx1⟩:∃ x1,(l.getD k (0,[])).1=x1:=⟨_,rfl⟩
   obtain⟨x2,hx2⟩:∃ x2,(l.getD k (0,[])).2.length=x2:=⟨_,rfl⟩
   rw[hx1]at c0 HN;rw[hx2]at c1 HCL HN;clear z1 z2 HC HR HCL0 hx1 hx2;subst e
   go_upto_region 5 with fail
   obtain⟨gb,hgb⟩:∃ gb,wr.heap.size=gb:=⟨_,rfl⟩
   obtain⟨w1,hw1⟩:∃ w1,w1=wr.alloc (.cells #[.int .i64 x1,.slice po x2 c] 121):=⟨_,rfl⟩
   rw[<- hw1,hgb];have H1:Hid (Bl wr w1/\w1.heap[gb]?=some (.cells #[.int .i64 x1,.slice po x2 c] 121 (0,0))):=by
    rw[hw1,<- hgb];exact⟨below_alloc _ _,zN _ _⟩
   have t0:=(zR w1 gb 0 _ _ _ H1.out.2).trans (rfl:_=some (Value.int .i64 x1));have t1:=(zR w1 gb 1 _ _ _ H1.out.2).trans (rfl:_=some (Value.slice po x2 c));have lgb:=lt_of_block H1.out.2;clear hw1 hgb c0 c1;refine a47 (fun u=>u.cell? ⟨gb,0,none⟩=some (.int .i64 x1)/\u.cell? ⟨gb,1,none⟩=some (.slice po x2 c) )  ((0,true)::(1,true)::(2,true)::(3,true)::(4,true)::(5,true)::(6,false)::(7,true)::(8,true)::(9,false)::[])  Md.Cv.follows13 (by kernel_rfl) (fun _ _ _ _ _ h=>h)  ⟨t0,t1⟩ ?_
   (repeat (refine a33 (v:=?_) rfl (by rfl) (fun wq hSq=>?_) ?_;rotate_left;(focus ((try dsimp only at hSq);go_simp;try with_reducible rfl));simp only[Act.put,zA,zB,zC]))
   (refine a29 rfl (by rfl) (fun KK hK=>?_);go_simp)
   refine(HCL.out _ (H1.out.1.trans ((Same.drew w1).below _))).mono ?_;rintro r u2 ⟨p',c',rfl,q1,qb,q2,q3⟩;have B2:Hid (Bl wr u2/\Bl w1 u2):=⟨(H1.out.1.trans ((Same.drew w1).below _)).trans (q3.mono H1.out.1.size),((Same.drew w1).below _).trans q3⟩;obtain⟨arr,a1,a2,P',C',a3⟩:=HN.out u2 B2.out.1 p' c' q1 qb (q2.mono H1.out.1.size);have HZ:=zH a3;have hb2:u2.heap[gb]?=some (.cells #[.int .i64 x1,.slice po x2 c] 121 (0,0)):=(B2.out.2.block _ lgb).trans H1.out.2;refine hK.out _ _ (fun _=>⟨(zR u2 gb 0 _ _ _ hb2).trans rfl,(zR u2 gb 1 _ _ _ hb2).trans rfl⟩) ?_;clear q1 qb q2 q3 a3 hb2
   (clear hK KK;try simp only[Act.put,zA,zB,zC])
   (repeat (refine a33 (v:=?_) rfl (by rfl) (fun wq hSq=>?_) ?_;rotate_left;(focus ((try dsimp only at hSq);go_simp;try with_reducible rfl));simp only[Act.put,zA,zB,zC]))
   refine a29 rfl (by rfl) (fun KK hK=>?_);refine ah4 121 _ _ rfl g (k*2) #[.int .i64 x1,.slice p' x2 c'] rfl rfl _ arr a1 (by kernel_rfl) a2 (by simp[Value.oneCell']) ?_;refine hK.out _ _ (fun hn=>absurd rfl hn) ?_
   (clear hK KK;try simp only[Act.put])
   refine a78 ?_;go_wp2_with fail;exact⟨⟨k+1,by first | rfl | (congr 1),by omega,⟨P',C',HZ.out⟩,Md.Ce.bl_setRow (HQ.out.2.trans (B2.out.1.mono HQ.out.2.size)) HQ.out.1.lo _⟩,by simp[intOf];omega⟩
  ·obtain rfl:k=n:=by omega
   have hlt':¬ (k:Int)<(k:Int):=by omega
   clear HC;go_wp2_with fail;go_ret;exact⟨g,rfl,HR.out⟩
end
end Go.Proofs.YtipakfjpfjehmaaGreatDoor.En
namespace Go.Proofs.YtipakfjpfjehmaaGreatDoor
section
variable {P:Program} {ops:Array Oper} {Q:Exit->Act->World->Prop} {md:Region.Mode} {S:World->Prop}
def aY7 (P:Program) (ops:Array Oper) (Q:Exit->Act->World->Prop) (S:World->Prop) (i:Nat) (ri:List (Nat × Bool)) (j:Nat) (rj:List (Nat × Bool)):List Nat->Act->World->Prop
 | [],a,w=>wpOp P ops Q i (fun a' w'=>S w'/\ae5 P ops Q S ri a' w') a w/\wpOp P ops Q j (fun a' w'=>S w'/\ae5 P ops Q S rj a' w') a w
 | x::rest,a,w=>∃ o v,ops[x]?=some o/\YieldsIf P ops S o v a/\aY7 P ops Q S i ri j rj rest (a.put o.dst v) w
def twoB (md:Region.Mode) (ops:Array Oper) (i:Nat) (ri:List (Nat × Bool)) (j:Nat) (rj:List (Nat × Bool)):Array Bool->List Nat->Bool
 | listed,[]=>Region.ready md ops listed == [i,j] && seqB md ops (listed.setIfInBounds i true) ri && seqB md ops (listed.setIfInBounds j true) rj
 | listed,x::rest=>(Region.ready md ops listed).contains x && Region.free md ops listed x && twoB md ops i ri j rj (listed.setIfInBounds x true) rest
theorem ap6 (hs:Region.noSelect ops=true) (hQ:∀ c t t' d w,Q (.panic c) ⟨t,d⟩ w->Q (.panic c) ⟨t',d⟩ w) {i j:Nat} {ri rj:List (Nat × Bool)} (hlen:rj.length=ri.length):∀ (l:List Nat) (listed:Array Bool) (a:Act) (w:World),twoB md ops i ri j rj listed l=true->S w->aY7 P ops Q S i ri j rj l a w->wpAnyH P md ops Q S (ri.length+1+l.length) listed a w
 | [],listed,a,w,hb,_,h=>by
  simp only[twoB,Bool.and_eq_true,beq_iff_eq]at hb;refine wpAnyH_all (rs:=[i,j]) hb.1.1 (by simp) fun x hx=>?_
  by_cases e:x=i
  ·subst e
   exact wpOp_mono (fun a' w' h'=>⟨h'.1,a68 hs hQ ri _ _ _ hb.1.2 h'.1 h'.2⟩) h.1
  ·have e2:x=j:=by simpa[e]using hx
   subst e2;refine wpOp_mono (fun a' w' h'=>⟨h'.1,?_⟩) h.2;have:=a68 (Q:=Q) hs hQ rj _ _ _ hb.2 h'.1 h'.2;rw[hlen]at this;exact this
 | x::rest,listed,a,w,hb,hS,h=>by
  simp only[twoB,Bool.and_eq_true]at hb;obtain⟨o,v,ho,hy,hr⟩:=h;exact wpAnyH_take ho hs hb.1.2 hb.1.1 (fun c a w h=>ao1 hQ h) hy hS (ap6 hs hQ hlen rest _ _ _ hb.2 hS hr)
theorem aF6 {id:Nat} {a:Act} {w:World} (S:World->Prop) (l:List Nat) (i:Nat) (ri:List (Nat × Bool)) (j:Nat) (rj:List (Nat × Bool)) (hm:P.follows .mixedOrders=true) (hb:(Region.noSelect ops && rj.length == ri.length && ri.length+1+l.length == ops.size && twoB .any ops i ri j rj (Array.replicate ops.size false) l)=true) (hQ:∀ c t t' d w,Q (.panic c) ⟨t,d⟩ w->Q (.panic c) ⟨t',d⟩ w) (hS:S w.drew) (h:aY7 P ops Q S i ri j rj l a w.drew):(Code.region id ops true).wp P Q a w:=by
 simp only[Bool.and_eq_true,beq_iff_eq]at hb;refine wp_region_held (S:=S) hm ?_;rw[<- hb.1.2];have:=ap6 (Q:=Q) (S:=S) hb.1.1.1 hQ hb.1.1.2 l _ a w.drew hb.2 hS h;rw[<- hb.1.2]at this;exact this
theorem aY8 {x i j:Nat} {ri rj:List (Nat × Bool)} {rest:List Nat} {o:Oper} {v:Value} {a:Act} {w:World} (ho:nth ops.toList x=some o) (hw:Region.wanted o (yielded ops a.tmps)=true) (hy:∀ w,S w->(execOp a.eval o).run P w=.ok (.value v) w) (h:aY7 P ops Q S i ri j rj rest (a.put o.dst v) w):aY7 P ops Q S i ri j rj (x::rest) a w:=⟨o,v,aE2 ho,.inl ⟨hw,hy⟩,h⟩
theorem bc6 {i j:Nat} {ri rj:List (Nat × Bool)} {a:Act} {w:World} (h1:ae5 P ops Q S ((i,false)::ri) a w) (h2:ae5 P ops Q S ((j,false)::rj) a w):aY7 P ops Q S i ri j rj [] a w:=⟨h1,h2⟩
end
end Go.Proofs.YtipakfjpfjehmaaGreatDoor
