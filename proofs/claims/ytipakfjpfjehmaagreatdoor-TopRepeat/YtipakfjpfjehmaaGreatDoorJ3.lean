import Derived.Test.YtipakfjpfjehmaaGreatDoorJ2
import Derived.Test.YtipakfjpfjehmaaGreatDoorJ1
import Derived.Deep.RegionHeld
import Derived.Deep.AppendLies
import Derived.Deep.LoopGhost
import Derived.Deep.AppendSrc
import Derived.Deep.MidRow
set_option maxRecDepth 100000
set_option maxHeartbeats 8000000
namespace Go.Proofs.YtipakfjpfjehmaaGreatDoor.Md.Cv
open Go.ChangeShapes Go.WideShapes Go.ChangeAt Go.RowKit
def cE (c:Cs) (ws:List Int) (o:Bool):Int:=if c.N=3 then 3 else if may8 c.T then errA ws o (cI c) else 100
def cO (c:Cs) (ws:List Int) (o:Bool):Bool:=decide (cE c ws o=0) && decide (c.N=2)
def cW (c:Cs) (ws:List Int) (o:Bool):List Int:=if cE c ws o=0 then (if c.N=1 then ws.set (plc c.B c.T).toNat (passV c.K) else ws) else ws
def cP (c:Cs) (ws:List Int) (o:Bool):Bool:=if cE c ws o=0 then false else o
def cQ (c:Cs) (ws:List Int) (o:Bool) (n:Int):Int:=if cE c ws o=0 then up n else n
def cC (c:Cs) (ws:List Int) (o:Bool):Cs:=if cE c ws o=0 then ⟨c.A,c.B,c.T,c.N+1,if c.N=0 then wordAt ws c.A else c.K,if c.N=2 then wordAt ws c.A else c.S⟩ else c
structure COk (c:Cs):Prop where
 n:c.N=0∨c.N=1∨c.N=2∨c.N=3
 k:c.N=0->c.K=0
 s:c.N≠3->c.S=0
theorem bI8 {c:Cs} {ws:List Int} {o:Bool} (h:errA ws o (cI c)=0):aW c ws o=if c.N=1 then ws.set (plc c.B c.T).toNat (passV c.K) else ws:=by
 unfold aW cI at *
 by_cases q:c.N=1
 ·rw[if_pos q]at h ⊢
  rw[if_pos q,(ok_facts h).1]
 ·rw[if_neg q,if_neg q]
theorem bI7 {c:Cs} {ws:List Int} {o:Bool} (h:¬ errA ws o (cI c)=0):aW c ws o=ws:=by
 unfold aW cI at *
 by_cases q:c.N=1
 ·rw[if_pos q]at h ⊢
  exact(au0 h).1 _
 ·rw[if_neg q]
theorem bI6 {c:Cs} {ws:List Int} {o:Bool} (h:errA ws o (cI c)=0):aC c ws o=⟨c.A,c.B,c.T,c.N,if c.N=0 then wordAt ws c.A else c.K,if c.N=2 then wordAt ws c.A else c.S⟩:=by
 unfold aC cI at *
 by_cases q:c.N=1
 ·rw[if_neg (by omega),if_neg (by omega),if_neg (by omega),if_neg (by omega)]
 ·rw[if_neg q]at h
  rw[(ok_facts h).2.2.2.1]
theorem bI5 {c:Cs} {ws:List Int} {o:Bool} (hc:COk c) (h:¬ errA ws o (cI c)=0):aC c ws o=c:=by
 have hn:=hc.n;have hk:=hc.k;have hs:=hc.s;obtain⟨A,B,T,N,K,S⟩:=c;unfold aC cI at *;dsimp only at *
 by_cases q:N=1
 ·rw[if_neg (by omega),if_neg (by omega)]
 ·rw[if_neg q]at h
  rw[(au0 h).2.2.2]
  by_cases q0:N=0
  ·rw[if_pos q0,if_neg (by omega),hk q0]
  ·rw[if_neg q0]
   by_cases q2:N=2
   ·rw[if_pos q2,hs (by omega)]
   ·rw[if_neg q2]
section
variable {w:World} {b g x:Nat} {ws:List Int} {o:Bool} {n:Int} {c:Cs}
theorem aV0 (hx:CmAt w x c) (hN:c.N=3) (b:Nat):Calls Tryz.prog 260 #[.pointer (some ⟨x,0,none⟩),.pointer (some ⟨b,0,none⟩)] w fun e w'=>e=.returned (.tuple #[.bool false,.int .i64 3])/\w'=w:=by
 have HO:=zH (an8 hx);simp only[hN,decide_true]at HO;clear hx hN;go_enter Tryz.func260,Tryz.ntmps260
 go_wp2_with (go_at_call 264;refine HO.out.mono ?_;rintro e w1 ⟨rfl,hw⟩;subst w1)
 go_ret2;exact⟨rfl,rfl⟩
theorem b19 (hx:CmAt w x c) (hN:c.N≠3) (hm:may8 c.T=false) (b:Nat):Calls Tryz.prog 260 #[.pointer (some ⟨x,0,none⟩),.pointer (some ⟨b,0,none⟩)] w fun e w'=>e=.returned (.tuple #[.bool false,.int .i64 100])/\Bl w w':=by
 have HO:=zH (an8 hx);simp only[zU hN]at HO;have HY:=zH (aa7 c.B c.T);simp only[hm]at HY;obtain⟨h0,h1,h2,h3,h4,h5,h6,h7,h8,h9⟩:=hx.cells;clear hx hN hm;go_enter Tryz.func260,Tryz.ntmps260
 go_wp2_with (first
  | (go_at_call 264;refine HO.out.mono ?_;rintro e w1 ⟨rfl,hw⟩;subst w1)
  | (go_at_call 265;refine(HY.out _).mono ?_;rintro e w1 ⟨rfl,hb⟩;have HB:=zH hb;clear hb))
 go_ret2;exact⟨rfl,HB.out⟩
theorem be0 (h:MemAt 106 w b g ws o n) (hx:CmAt w x c) (hN:c.N=0∨c.N=1∨c.N=2) (hm:may8 c.T=true) {er:Int} (her:errA ws o (cI c)=er):Calls Tryz.prog 260 #[.pointer (some ⟨x,0,none⟩),.pointer (some ⟨b,0,none⟩)] w fun e w'=>e=.returned (.tuple #[.bool (decide (er=0) && decide (c.N=2)),.int .i64 er])/\MemAt 106 w' b g (aW c ws o) (a53 ws o (cI c)) (a52 ws o (cI c) n)/\CmAt w' x (if er=0 then ⟨c.A,c.B,c.T,c.N+1,(aC c ws o).K,(aC c ws o).S⟩ else aC c ws o)/\Ch3 b g x w w':=by
 have HO:=zH (an8 hx);rw[zU (show ¬ c.N=3 by omega)]at HO;have HY:=zH (aa7 c.B c.T);simp only[hm]at HY;have HA:=zH (fun w1 (hb:Bl w w1)=>aU0 (h.on hb) (hx.on hb) hN hm);rw[her]at HA;obtain⟨h0,h1,h2,h3,h4,h5,h6,h7,h8,h9⟩:=hx.cells;have HQ:=zH (hx.ne h);clear h hx hm her
 by_cases q:er=0
 ·subst q
  rw[if_pos rfl,zT rfl,Bool.true_and];have hN':wrap64 (c.N+1)=c.N+1:=Go.IntWalk.wrap64_in _ ⟨by omega,by omega⟩;have hN2:decide (c.N+1=3)=decide (c.N=2):=by rw[decide_eq_decide];omega
  have HN2:=zH hN2;clear hN hN2;go_enter Tryz.func260,Tryz.ntmps260
  go_wp2_with (first
   | (go_at_call 264;refine HO.out.mono ?_;rintro e w1 ⟨rfl,hw⟩;subst w1;clear HO)
   | (go_at_call 265;refine(HY.out _).mono ?_;rintro e w1 ⟨rfl,hb⟩;have HB:=zH hb;clear hb)
   | (go_at_call 266;refine(HA.out _ HB.out).mono ?_;rintro e w2 ⟨rfl,hm,hx,hc⟩;have HM2:=zH hm;have HX2:=zH hx;have HC2:=zH ((Ch3.refl _ _ _ _).on HB.out |>.trans hc);have k3:w2.cell? ⟨x,3,none⟩=some (.int .i64 c.N):=hx.cells.2.2.2.1;have k6:x<w2.heap.size:=hx.lt;have k7:w2.frozen? ⟨x,3,none⟩=false:=hx.cells.2.2.2.2.2.2.2.1;clear hm hx hc)
   | (go_at_call 264;refine(an8 (HX2.out.setN (c.N+1))).mono ?_;dsimp only;rw[HN2.out];rintro e w3 ⟨rfl,hw⟩;subst w3))
  go_ret2;exact⟨rfl,HM2.out.other HQ.out.1.symm HQ.out.2.symm _ _,HX2.out.setN _,HC2.out.set _ _⟩
 ·rw[if_neg q,zU q,Bool.false_and]
  clear hN;go_enter Tryz.func260,Tryz.ntmps260
  go_wp2_with (first
   | (go_at_call 264;refine HO.out.mono ?_;rintro e w1 ⟨rfl,hw⟩;subst w1;clear HO)
   | (go_at_call 265;refine(HY.out _).mono ?_;rintro e w1 ⟨rfl,hb⟩;have HB:=zH hb;clear hb)
   | (go_at_call 266;refine(HA.out _ HB.out).mono ?_;rintro e w2 ⟨rfl,hm,hx,hc⟩;have HM2:=zH hm;have HX2:=zH hx;have HC2:=zH ((Ch3.refl _ _ _ _).on HB.out |>.trans hc);clear hm hx hc))
  go_ret2;exact⟨rfl,HM2.out,HX2.out,HC2.out⟩
theorem cstep_any (h:MemAt 106 w b g ws o n) (hx:CmAt w x c) (hc:COk c):Calls Tryz.prog 260 #[.pointer (some ⟨x,0,none⟩),.pointer (some ⟨b,0,none⟩)] w fun e w'=>e=.returned (.tuple #[.bool (cO c ws o),.int .i64 (cE c ws o)])/\MemAt 106 w' b g (cW c ws o) (cP c ws o) (cQ c ws o n)/\CmAt w' x (cC c ws o)/\Ch3 b g x w w':=by
 by_cases h3:c.N=3
 ·have e:cE c ws o=3:=by simp[cE,h3]
  unfold cO cW cP cQ cC;rw[e];refine(aV0 hx h3 b).mono ?_;rintro r w' ⟨rfl,rfl⟩;exact⟨by simp,by simpa using h,by simpa using hx,Ch3.refl _ _ _ _⟩
 ·cases hm:may8 c.T
  ·have e:cE c ws o=100:=by simp[cE,h3,hm]
   unfold cO cW cP cQ cC;rw[e];refine(b19 hx h3 hm b).mono ?_;rintro r w' ⟨rfl,hb⟩;exact⟨by simp,by simpa using h.on hb,by simpa using hx.on hb,(Ch3.refl _ _ _ _).on hb⟩
  ·have e:cE c ws o=errA ws o (cI c):=by simp[cE,h3,hm]
   have hN:c.N=0∨c.N=1∨c.N=2:=by have:=hc.n;omega
   unfold cO cW cP cQ cC;rw[e];refine(be0 h hx hN hm rfl).mono ?_;rintro r w' ⟨rfl,hm',hx',hch⟩;refine⟨rfl,?_,?_,hch⟩
   ·by_cases q:errA ws o (cI c)=0
    ·rw[if_pos q,if_pos q,if_pos q]
     have f:=ok_facts q;rw[bI8 q,f.2.1,f.2.2.1]at hm';exact hm'
    ·rw[if_neg q,if_neg q,if_neg q]
     have f:=au0 q;rw[bI7 q,f.2.1,f.2.2.1]at hm';exact hm'
   ·by_cases q:errA ws o (cI c)=0
    ·rw[if_pos q]at hx' ⊢
     rw[bI6 q]at hx';exact hx'
    ·rw[if_neg q]at hx' ⊢
     rw[bI5 hc q]at hx';exact hx'
end
structure Ss where
 B:Int
 H:Int
 D:Int
 P:Int
 Q:Int
def ScAt (w:World) (x:Nat) (s:Ss):Prop:=w.heap[x]?=some (.cells #[.int .i64 s.B,.int .i64 s.H,.int .u64 s.D,.int .i64 s.P,.int .i64 s.Q] 228 (0,0))
def mayH (h:Int):Bool:=decide (1<=h/\h<=8)
def letB (d v:Int):Bool:=decide (v=0) || decide (d<v)
structure SOk (s:Ss):Prop where
 p:0<=s.P
 h:mayH s.H=true->s.P<=s.H
def sE (s:Ss) (ws:List Int) (o:Bool):Int:=if mayH s.H then (if s.P=s.H then 3 else errA ws o (plc s.B s.P)) else 100
def sN (s:Ss) (v:Int):Ss:=if letB s.D v then ⟨s.B,s.H,s.D,s.P+1,s.Q⟩ else ⟨s.B,s.H,s.D,s.P,up s.Q⟩
def sC (s:Ss) (ws:List Int) (o:Bool):Ss:=if sE s ws o=0 then sN s (wordAt ws (plc s.B s.P)) else s
def sO (s:Ss) (ws:List Int) (o:Bool):Bool:=decide (sE s ws o=0) && decide ((sC s ws o).P=s.H)
def sP (s:Ss) (ws:List Int) (o:Bool):Bool:=if sE s ws o=0 then false else o
def sQ (s:Ss) (ws:List Int) (o:Bool) (n:Int):Int:=if sE s ws o=0 then up n else n
theorem bm4 (s:Ss) (v:Int):(sN s v).B=s.B/\(sN s v).H=s.H/\(sN s v).D=s.D:=by
 unfold sN
 split <;> exact⟨rfl,rfl,rfl⟩
section
variable {w w':World} {x:Nat} {s:Ss}
theorem ScAt.lt (h:ScAt w x s):x<w.heap.size:=lt_of_block h
theorem ScAt.keep (h:ScAt w x s) (e:w'.heap[x]?=w.heap[x]?):ScAt w' x s:=e.trans h
theorem ScAt.on (h:ScAt w x s) (k:Bl w w'):ScAt w' x s:=h.keep (k.block x h.lt)
theorem ScAt.cells (h:ScAt w x s):w.cell? ⟨x,0,none⟩=some (.int .i64 s.B)/\w.cell? ⟨x,1,none⟩=some (.int .i64 s.H)/\w.cell? ⟨x,2,none⟩=some (.int .u64 s.D)/\w.cell? ⟨x,3,none⟩=some (.int .i64 s.P)/\w.cell? ⟨x,4,none⟩=some (.int .i64 s.Q)/\x<w.heap.size/\w.frozen? ⟨x,3,none⟩=false/\w.frozen? ⟨x,4,none⟩=false :=
 ⟨by rw[zR w x 0 _ _ _ h];rfl,by rw[zR w x 1 _ _ _ h];rfl,by rw[zR w x 2 _ _ _ h];rfl,by rw[zR w x 3 _ _ _ h];rfl,by rw[zR w x 4 _ _ _ h];rfl,lt_of_block h,zZ w x 3 _ _ h,zZ w x 4 _ _ h⟩
theorem ScAt.setP (h:ScAt w x s) (v:Int):ScAt (w.setCell ⟨x,3,none⟩ (.int .i64 v)) x ⟨s.B,s.H,s.D,v,s.Q⟩:=(zS w x 3 _ _ _ h).trans rfl
theorem ScAt.setQ (h:ScAt w x s) (v:Int):ScAt (w.setCell ⟨x,4,none⟩ (.int .i64 v)) x ⟨s.B,s.H,s.D,s.P,v⟩:=(zS w x 4 _ _ _ h).trans rfl
theorem aE0 (h:ScAt w x s):Calls Tryz.prog 173 #[.pointer (some ⟨x,0,none⟩)] w fun e w'=>e=.returned (.bool (mayH s.H))/\w'=w:=by
 obtain⟨h0,h1,h2,h3,h4,h5,_⟩:=h.cells;clear h;unfold mayH
 by_cases q1:1<=s.H
 ·by_cases q2:s.H<=8
  ·go_enter Tryz.func173,Tryz.ntmps173
   go_wp2
   go_ret;exact⟨by first | (simp;done) | (simp;omega),rfl⟩
  ·go_enter Tryz.func173,Tryz.ntmps173
   go_wp2
   go_ret;exact⟨by first | (simp;done) | (simp;omega),rfl⟩
 ·go_enter Tryz.func173,Tryz.ntmps173
  go_wp2
  go_ret;exact⟨by first | (simp;done) | (simp;omega),rfl⟩
theorem an9 (h:ScAt w x s):Calls Tryz.prog 172 #[.pointer (some ⟨x,0,none⟩)] w fun e w'=>e=.returned (.bool (mayH s.H && decide (s.P=s.H)))/\Bl w w':=by
 obtain⟨h0,h1,h2,h3,h4,h5,_⟩:=h.cells;have HY:=zH (aE0 (h.on (ay4 (zF _ _))));clear h
 cases hm:mayH s.H
 ·rw[hm]at HY
  have q:=hm;go_enter Tryz.func172,Tryz.ntmps172
  go_wp2
  refine a06 (fun w'=>w'.cell? ⟨x,1,none⟩=some (.int .i64 s.H)/\w'.cell? ⟨x,3,none⟩=some (.int .i64 s.P)) ((0,true)::(1,false)::(2,true)::(3,true)::(4,true)::(5,true)::(6,true)::(7,true)::(8,true)::(9,true)::(10,true)::(11,true)::(12,true)::(13,true)::[]) follows13 (by kernel_rfl) (fun _ _ _ _ _ h=>h) ⟨h1,h3⟩ ?_
  repeat (first | (refine a02 (v:=?_) rfl (by rfl) (fun wq hSq=>?_) ?_;rotate_left;(focus ((try dsimp only at hSq);go_simp;try with_reducible rfl));simp only[Act.put,zA,zB,zC]) | (refine a03 rfl (by rfl) ?_;simp only[Act.put,zA,zB,zC]))
  refine a04 rfl (by rfl) (fun KK hK=>?_)
  go_simp
  refine HY.out.mono ?_;rintro e w1 ⟨rfl,hw⟩;subst w1;refine hK.out _ _ ⟨h1,h3⟩ ?_;clear hK KK
  try simp only[Act.put,zA,zB,zC]
  repeat (first | (refine a02 (v:=?_) rfl (by rfl) (fun wq hSq=>?_) ?_;rotate_left;(focus ((try dsimp only at hSq);go_simp;try with_reducible rfl));simp only[Act.put,zA,zB,zC]) | (refine a03 rfl (by rfl) ?_;simp only[Act.put,zA,zB,zC]))
  refine a13 ?_
  go_wp2
  go_ret;exact⟨by first | rfl | simp[q],ay4 (zF _ _)⟩
 ·rw[hm]at HY
  by_cases q:s.P=s.H
  ·rw[zT q]
   go_enter Tryz.func172,Tryz.ntmps172
   go_wp2
   refine a06 (fun w'=>w'.cell? ⟨x,1,none⟩=some (.int .i64 s.H)/\w'.cell? ⟨x,3,none⟩=some (.int .i64 s.P)) ((0,true)::(1,false)::(2,true)::(3,true)::(4,true)::(5,true)::(6,true)::(7,true)::(8,true)::(9,true)::(10,true)::(11,true)::(12,true)::(13,true)::[]) follows13 (by kernel_rfl) (fun _ _ _ _ _ h=>h) ⟨h1,h3⟩ ?_
   repeat (first | (refine a02 (v:=?_) rfl (by rfl) (fun wq hSq=>?_) ?_;rotate_left;(focus ((try dsimp only at hSq);go_simp;try with_reducible rfl));simp only[Act.put,zA,zB,zC]) | (refine a03 rfl (by rfl) ?_;simp only[Act.put,zA,zB,zC]))
   refine a04 rfl (by rfl) (fun KK hK=>?_)
   go_simp
   refine HY.out.mono ?_;rintro e w1 ⟨rfl,hw⟩;subst w1;refine hK.out _ _ ⟨h1,h3⟩ ?_;clear hK KK
   try simp only[Act.put,zA,zB,zC]
   repeat (first | (refine a02 (v:=?_) rfl (by rfl) (fun wq hSq=>?_) ?_;rotate_left;(focus ((try dsimp only at hSq);go_simp;try with_reducible rfl));simp only[Act.put,zA,zB,zC]) | (refine a03 rfl (by rfl) ?_;simp only[Act.put,zA,zB,zC]))
   refine a13 ?_
   go_wp2
   go_ret;exact⟨by first | rfl | simp[q],ay4 (zF _ _)⟩
  ·rw[zU q]
   go_enter Tryz.func172,Tryz.ntmps172
   go_wp2
   refine a06 (fun w'=>w'.cell? ⟨x,1,none⟩=some (.int .i64 s.H)/\w'.cell? ⟨x,3,none⟩=some (.int .i64 s.P)) ((0,true)::(1,false)::(2,true)::(3,true)::(4,true)::(5,true)::(6,true)::(7,true)::(8,true)::(9,true)::(10,true)::(11,true)::(12,true)::(13,true)::[]) follows13 (by kernel_rfl) (fun _ _ _ _ _ h=>h) ⟨h1,h3⟩ ?_
   repeat (first | (refine a02 (v:=?_) rfl (by rfl) (fun wq hSq=>?_) ?_;rotate_left;(focus ((try dsimp only at hSq);go_simp;try with_reducible rfl));simp only[Act.put,zA,zB,zC]) | (refine a03 rfl (by rfl) ?_;simp only[Act.put,zA,zB,zC]))
   refine a04 rfl (by rfl) (fun KK hK=>?_)
   go_simp
   refine HY.out.mono ?_;rintro e w1 ⟨rfl,hw⟩;subst w1;refine hK.out _ _ ⟨h1,h3⟩ ?_;clear hK KK
   try simp only[Act.put,zA,zB,zC]
   repeat (first | (refine a02 (v:=?_) rfl (by rfl) (fun wq hSq=>?_) ?_;rotate_left;(focus ((try dsimp only at hSq);go_simp;try with_reducible rfl));simp only[Act.put,zA,zB,zC]) | (refine a03 rfl (by rfl) ?_;simp only[Act.put,zA,zB,zC]))
   refine a13 ?_
   go_wp2
   go_ret;exact⟨by first | rfl | simp[q],ay4 (zF _ _)⟩
theorem aR4 (h:ScAt w x s) (v:Int):Calls Tryz.prog 187 #[.pointer (some ⟨x,0,none⟩),.int .u64 v] w fun e w'=>e=.returned (.bool (letB s.D v))/\w'=w:=by
 obtain⟨h0,h1,h2,h3,h4,h5,_⟩:=h.cells;clear h;unfold letB
 by_cases q1:v=0
 ·rw[zT q1,Bool.true_or]
  go_enter Tryz.func187,Tryz.ntmps187
  go_wp2
  go_ret;exact⟨by simp,rfl⟩
 ·rw[zU q1,Bool.false_or]
  by_cases q2:s.D<v
  ·rw[zT q2]
   go_enter Tryz.func187,Tryz.ntmps187
   go_wp2
   go_ret;exact⟨by simp,rfl⟩
  ·rw[zU q2]
   go_enter Tryz.func187,Tryz.ntmps187
   go_wp2
   go_ret;exact⟨by simp[q1],rfl⟩
theorem look_any (a0 a1 a2 a3 a4 a5 t d:Int) (w:World):Calls Tryz.prog 140 #[plnV a0 a1 a2 a3 a4 a5,.int .i64 t,.int .u64 d] w fun e w'=>∃ x,e=.returned (.pointer (some ⟨x,0,none⟩))/\w.heap.size<=x/\ScAt w' x ⟨a3,t,d,0,0⟩/\Bl w w':=by
 unfold plnV;go_enter Tryz.func140,Tryz.ntmps140
 go_wp2
 go_ret;exact⟨_,rfl,by simp,aa3 (by simp),ae0 (ae0 (zF _ _) _) _⟩
end
section
variable {w:World} {b g x:Nat} {ws:List Int} {o:Bool} {n:Int} {s:Ss}
theorem ScAt.ne (h:ScAt w x s) (m:MemAt 106 w b g ws o n):x≠b/\x≠g:=⟨ne_ty h m.box rfl,ne_ty h m.row rfl⟩
theorem bm5 (h:MemAt 106 w b g ws o n) (hx:ScAt w x s) {k m:Nat} (hk:s.P=k) (hm:s.H=m) (hkm:k<m) (hm8:m<=8) {er:Int} (her:errA ws o (plc s.B s.P)=er):Calls Tryz.prog 174 #[.pointer (some ⟨x,0,none⟩),.pointer (some ⟨b,0,none⟩)] w fun e w'=>e=.returned (.int .i64 er)/\MemAt 106 w' b g ws (a53 ws o (plc s.B s.P)) (a52 ws o (plc s.B s.P) n)/\ScAt w' x (if er=0 then sN s (toldW ws o (plc s.B s.P)) else s)/\Ch3 b g x w w':=by
 have HN:=zH (hx.ne h);have HM:=zH h;have HX:=zH hx;have HPL:=zH (a69 s.B k (zT (by omega)));obtain⟨h0,h1,h2,h3,h4,h5,h6,h7⟩:=hx.cells;rw[hk]at h3;rw[hm]at h1;have HLD:=zH (fun w1 (hb:Bl w w1)=>aa5 (h.on hb) (plc s.B k));have HHK:=zH hk;rw[hk]at her ⊢;rw[her]at HLD;have HER:=zH her;clear h hx hk hm her;go_enter Tryz.func174,Tryz.ntmps174
 go_wp2
 go_step3
 go_wp2
 go_step3
 go_wp2
 go_loopw [12] (fun vi wr=>∃ i:Nat,vi=.int .i64 i/\wr=w/\i<=k) (fun vi _=>k - (intOf vi).toNat)
 case atStart=>exact⟨0,rfl,rfl,zV _⟩
 case round =>
  obtain⟨i,rfl,rfl,hi⟩:=hrel;have him:(i:Int)<(m:Int):=by omega
  by_cases hlt:i<k
  ·have hlt':(i:Int)<(k:Int):=by omega
   go_wp2
   exact⟨⟨i+1,by first | rfl | (congr 1),by trivial,by omega⟩,by simp[intOf];omega⟩
  ·have e:i=k:=by omega
   subst e;have hlt':¬ (i:Int)<(i:Int):=by omega
   clear hlt hi
   by_cases q:er=0
   ·subst q
    obtain⟨v,hv⟩:∃ v,toldW ws o (plc s.B i)=v:=⟨_,rfl⟩
    rw[hv]at HLD;have HV:=zH hv;clear hv
    cases hl:letB s.D v
    ·go_wp2_with (first
      | (go_at_call 186;refine(HPL.out _).mono ?_;rintro e w1 ⟨rfl,hb⟩;have HB:=zH hb;clear hb)
      | (go_at_call 124;refine(HLD.out _ HB.out).mono ?_;rintro e w2 ⟨rfl,hm,hc⟩;have HM2:=zH hm;have HC2:=zH (a70 HB.out hc);have HX2:=zH (HX.out.keep (HC2.out.block x h5 HN.out.1 HN.out.2));obtain⟨k0,k1,k2,k3,k4,k5,k6,k7⟩:=HX2.out.cells;clear hm hc)
      | (go_at_call 187;refine(aR4 HX2.out v).mono ?_;rw[hl];rintro e w3 ⟨rfl,hw⟩;subst w3))
     try rw[Exit.noGoto_ret]
     go_ret;rw[if_pos rfl,HV.out,sN,hl];exact⟨rfl,HM2.out.other HN.out.1.symm HN.out.2.symm _ _,HX2.out.setQ _,((Ch3.refl _ _ _ _).chg HC2.out).set _ _⟩
    ·go_wp2_with (first
      | (go_at_call 186;refine(HPL.out _).mono ?_;rintro e w1 ⟨rfl,hb⟩;have HB:=zH hb;clear hb)
      | (go_at_call 124;refine(HLD.out _ HB.out).mono ?_;rintro e w2 ⟨rfl,hm,hc⟩;have HM2:=zH hm;have HC2:=zH (a70 HB.out hc);have HX2:=zH (HX.out.keep (HC2.out.block x h5 HN.out.1 HN.out.2));obtain⟨k0,k1,k2,k3,k4,k5,k6,k7⟩:=HX2.out.cells;clear hm hc)
      | (go_at_call 187;refine(aR4 HX2.out v).mono ?_;rw[hl];rintro e w3 ⟨rfl,hw⟩;subst w3))
     try rw[Exit.noGoto_ret]
     go_ret;rw[if_pos rfl,HV.out,sN,hl,HHK.out];exact⟨rfl,HM2.out.other HN.out.1.symm HN.out.2.symm _ _,HX2.out.setP _,((Ch3.refl _ _ _ _).chg HC2.out).set _ _⟩
   ·go_wp2_with (first
     | (go_at_call 186;refine(HPL.out _).mono ?_;rintro e w1 ⟨rfl,hb⟩;have HB:=zH hb;clear hb)
     | (go_at_call 124;refine(HLD.out _ HB.out).mono ?_;rintro e w2 ⟨rfl,hm,hc⟩;have HM2:=zH hm;have HC2:=zH (a70 HB.out hc);have HX2:=zH (HX.out.keep (HC2.out.block x h5 HN.out.1 HN.out.2));clear hm hc))
    try rw[Exit.noGoto_ret]
    go_ret;rw[if_neg q];exact⟨rfl,HM2.out,HX2.out,(Ch3.refl _ _ _ _).chg HC2.out⟩
end
section
variable {w:World} {b g x:Nat} {ws:List Int} {o:Bool} {n:Int} {s:Ss}
theorem aX3 (hx:ScAt w x s) (hm:mayH s.H=true) (hp:s.P=s.H) (b:Nat):Calls Tryz.prog 152 #[.pointer (some ⟨x,0,none⟩),.pointer (some ⟨b,0,none⟩)] w fun e w'=>e=.returned (.tuple #[.bool false,.int .i64 3])/\Bl w w':=by
 have HO:=zH (an9 hx);rw[hm,zT hp]at HO;clear hx hm hp;go_enter Tryz.func152,Tryz.ntmps152
 go_wp2_with (go_at_call 172;refine HO.out.mono ?_;rintro e w1 ⟨rfl,hb⟩;have HB:=zH hb;clear hb)
 go_ret2;exact⟨rfl,HB.out⟩
theorem ba3 (hx:ScAt w x s) (hm:mayH s.H=false) (b:Nat):Calls Tryz.prog 152 #[.pointer (some ⟨x,0,none⟩),.pointer (some ⟨b,0,none⟩)] w fun e w'=>e=.returned (.tuple #[.bool false,.int .i64 100])/\Bl w w':=by
 have HO:=zH (an9 hx);rw[hm,Bool.false_and]at HO;have HY:=zH (fun w1 (hb:Bl w w1)=>aE0 (hx.on hb));rw[hm]at HY;clear hx hm;go_enter Tryz.func152,Tryz.ntmps152
 go_wp2_with (first
  | (go_at_call 172;refine HO.out.mono ?_;rintro e w1 ⟨rfl,hb⟩;have HB:=zH hb;clear hb)
  | (go_at_call 173;refine(HY.out _ HB.out).mono ?_;rintro e w2 ⟨rfl,hw⟩;subst w2))
 go_ret2;exact⟨rfl,HB.out⟩
theorem bn5 (h:MemAt 106 w b g ws o n) (hx:ScAt w x s) (hok:SOk s) (hm:mayH s.H=true) (hp:s.P≠s.H) {er:Int} (her:errA ws o (plc s.B s.P)=er):Calls Tryz.prog 152 #[.pointer (some ⟨x,0,none⟩),.pointer (some ⟨b,0,none⟩)] w fun e w'=>e=.returned (.tuple #[.bool (decide (er=0) && decide ((sN s (toldW ws o (plc s.B s.P))).P=s.H)),.int .i64 er])/\MemAt 106 w' b g ws (a53 ws o (plc s.B s.P)) (a52 ws o (plc s.B s.P) n)/\ScAt w' x (if er=0 then sN s (toldW ws o (plc s.B s.P)) else s)/\Ch3 b g x w w':=by
 have HO:=zH (an9 hx);rw[hm,zU hp]at HO;have HY:=zH (fun w1 (hb:Bl w w1)=>aE0 (hx.on hb));rw[hm]at HY;have h1:=zP hm;have h2:=hok.p;have h3:=hok.h hm;have HA:=zH (fun w1 (hb:Bl w w1)=>bm5 (h.on hb) (hx.on hb) (k:=s.P.toNat) (m:=s.H.toNat) (by omega) (by omega) (by omega) (by omega) her);have HS:=zH (bm4 s (toldW ws o (plc s.B s.P)));have HM0:=zH hm
 generalize sN s (toldW ws o (plc s.B s.P))=s2 at *
 clear h hx hm her h1 h2 h3 hok hp
 by_cases q:er=0
 ·subst q
  rw[if_pos rfl]at HA;rw[if_pos rfl,zT rfl,Bool.true_and];go_enter Tryz.func152,Tryz.ntmps152
  go_wp2_with (first
   | (go_at_call 172;refine HO.out.mono ?_;rintro e w1 ⟨rfl,hb⟩;have HB:=zH hb;clear hb HO)
   | (go_at_call 173;refine(HY.out _ HB.out).mono ?_;rintro e w2 ⟨rfl,hw⟩;subst w2)
   | (go_at_call 174;refine(HA.out _ HB.out).mono ?_;rintro e w2 ⟨rfl,hm,hx,hc⟩;have HM2:=zH hm;have HX2:=zH hx;have HC2:=zH ((Ch3.refl _ _ _ _).on HB.out |>.trans hc);clear hm hx hc)
   | (go_at_call 172;refine(an9 HX2.out).mono ?_;rw[HS.out.2.1,HM0.out,Bool.true_and];rintro e w3 ⟨rfl,hb⟩;have HB3:=zH hb;clear hb))
  go_ret2;exact⟨rfl,HM2.out.on HB3.out,HX2.out.on HB3.out,HC2.out.on HB3.out⟩
 ·rw[if_neg q]at HA
  rw[if_neg q,zU q,Bool.false_and];go_enter Tryz.func152,Tryz.ntmps152
  go_wp2_with (first
   | (go_at_call 172;refine HO.out.mono ?_;rintro e w1 ⟨rfl,hb⟩;have HB:=zH hb;clear hb HO)
   | (go_at_call 173;refine(HY.out _ HB.out).mono ?_;rintro e w2 ⟨rfl,hw⟩;subst w2)
   | (go_at_call 174;refine(HA.out _ HB.out).mono ?_;rintro e w2 ⟨rfl,hm,hx,hc⟩;have HM2:=zH hm;have HX2:=zH hx;have HC2:=zH ((Ch3.refl _ _ _ _).on HB.out |>.trans hc);clear hm hx hc))
  go_ret2;exact⟨rfl,HM2.out,HX2.out,HC2.out⟩
theorem sstep_any (h:MemAt 106 w b g ws o n) (hx:ScAt w x s) (hok:SOk s):Calls Tryz.prog 152 #[.pointer (some ⟨x,0,none⟩),.pointer (some ⟨b,0,none⟩)] w fun e w'=>e=.returned (.tuple #[.bool (sO s ws o),.int .i64 (sE s ws o)])/\MemAt 106 w' b g ws (sP s ws o) (sQ s ws o n)/\ScAt w' x (sC s ws o)/\Ch3 b g x w w':=by
 cases hm:mayH s.H
 ·have e:sE s ws o=100:=by simp[sE,hm]
  unfold sO sP sQ sC;rw[e];refine(ba3 hx hm b).mono ?_;rintro r w' ⟨rfl,hb⟩;exact⟨by simp,by simpa using h.on hb,by simpa using hx.on hb,(Ch3.refl _ _ _ _).on hb⟩
 ·by_cases h3:s.P=s.H
  ·have e:sE s ws o=3:=by simp[sE,hm,h3]
   unfold sO sP sQ sC;rw[e];refine(aX3 hx hm h3 b).mono ?_;rintro r w' ⟨rfl,hb⟩;exact⟨by simp,by simpa using h.on hb,by simpa using hx.on hb,(Ch3.refl _ _ _ _).on hb⟩
  ·have e:sE s ws o=errA ws o (plc s.B s.P):=by simp[sE,h3,hm]
   unfold sO sP sQ sC;rw[e];refine(bn5 h hx hok hm h3 rfl).mono ?_;rintro r w' ⟨rfl,hm',hx',hch⟩
   by_cases q:errA ws o (plc s.B s.P)=0
   ·have f:=ok_facts q
    rw[f.2.1,f.2.2.1]at hm';rw[if_pos q,f.2.2.2.1]at hx';rw[f.2.2.2.1,if_pos q,if_pos q,if_pos q];exact⟨rfl,hm',hx',hch⟩
   ·have f:=au0 q
    rw[f.2.1,f.2.2.1]at hm';rw[if_neg q]at hx';rw[zU q,if_neg q,if_neg q,if_neg q];exact⟨rfl,hm',hx',hch⟩
theorem stampM_any (h:MemAt 106 w b g ws o n) (a0 a1 a2 a3 a4 a5:Int):Calls Tryz.prog 125 #[.pointer (some ⟨b,0,none⟩),plnV a0 a1 a2 a3 a4 a5] w fun e w'=>e=.returned (.tuple #[.int .u64 (toldW ws o a2),.int .i64 (errA ws o a2)])/\MemAt 106 w' b g ws (a53 ws o a2) (a52 ws o a2 n)/\Chg b g w w':=by
 unfold plnV;have HM:=zH h;clear h;go_enter Tryz.func125,Tryz.ntmps125
 go_wp2_with (go_at_call 124;refine(aa5 (HM.out.alloc _) _).mono ?_;rintro e w' ⟨rfl,hm,hc⟩;have HX:=zH (And.intro hm (((Chg.refl b g w).alloc _).trans hc));clear hm hc)
 go_ret2;exact⟨rfl,HX.out⟩
theorem publish_any (h:MemAt 106 w b g ws o n) (a0 a1 a2 a3 a4 a5 v:Int):Calls Tryz.prog 188 #[.pointer (some ⟨b,0,none⟩),plnV a0 a1 a2 a3 a4 a5,.int .u64 v] w fun e w'=>e=.returned (.int .i64 (errA ws o a2))/\MemAt 106 w' b g (stored ws o a2 v) (a53 ws o a2) (a52 ws o a2 n)/\Chg b g w w':=by
 unfold plnV;have HM:=zH h;clear h;go_enter Tryz.func188,Tryz.ntmps188
 go_wp2_with (go_at_call 171;refine(af5 (HM.out.alloc _) _ _).mono ?_;rintro e w' ⟨rfl,hm,hc⟩;have HX:=zH (And.intro hm (((Chg.refl b g w).alloc _).trans hc));clear hm hc)
 go_ret;exact⟨rfl,HX.out⟩
def lE (ws:List Int) (o:Bool) (p t:Int):Int:=if may8 t then errA ws o (plc p t) else 100
def lW (ws:List Int) (o:Bool) (p t:Int):List Int:=if may8 t then stored ws o (plc p t) 0 else ws
def lO (ws:List Int) (o:Bool) (p t:Int):Bool:=if may8 t then a53 ws o (plc p t) else o
def lC (ws:List Int) (o:Bool) (p t n:Int):Int:=if may8 t then a52 ws o (plc p t) n else n
theorem leave_any (h:MemAt 106 w b g ws o n) (a0 a1 a2 a3 a4 a5 t:Int):Calls Tryz.prog 263 #[.pointer (some ⟨b,0,none⟩),plnV a0 a1 a2 a3 a4 a5,.int .i64 t] w fun e w'=>e=.returned (.int .i64 (lE ws o a3 t))/\MemAt 106 w' b g (lW ws o a3 t) (lO ws o a3 t) (lC ws o a3 t n)/\Chg b g w w':=by
 unfold plnV lE lW lO lC;have HM:=zH h;clear h;have HY:=zH (aa7 a3 t)
 cases hm:may8 t
 ·simp only[hm]at HY
  go_enter Tryz.func263,Tryz.ntmps263
  go_wp2_with (go_at_call 265;refine(HY.out _).mono ?_;rintro e w1 ⟨rfl,hb⟩;have HB:=zH (a57 (ae0 (ae0 (zF w.heap.size w) _) _) hb);clear hb)
  go_ret;exact⟨rfl,HM.out.on HB.out,a70 HB.out (Chg.refl _ _ _)⟩
 ·simp only[hm]at HY
  have HPL:=zH (a69 a3 t hm);go_enter Tryz.func263,Tryz.ntmps263
  go_wp2_with (first
   | (go_at_call 265;refine(HY.out _).mono ?_;rintro e w1 ⟨rfl,hb⟩;have HB:=zH (a57 (ae0 (ae0 (zF w.heap.size w) _) _) hb);obtain⟨z0,z1⟩:w1.cell? ⟨w.heap.size+1,0,none⟩=some (.int .i64 a3)/\w1.cell? ⟨w.heap.size+1,1,none⟩=some (.int .i64 t):=⟨(hb.cell (p:=⟨w.heap.size+1,0,none⟩) (by simp)).trans (by simp[go_sem]),(hb.cell (p:=⟨w.heap.size+1,1,none⟩) (by simp)).trans (by simp[go_sem])⟩;clear hb)
   | (go_at_call 186;refine(HPL.out _).mono ?_;rintro e w2 ⟨rfl,hb⟩;have HB2:=zH (a57 HB.out hb);clear hb)
   | (go_at_call 171;refine(af5 (HM.out.on HB2.out) _ _).mono ?_;rintro e w3 ⟨rfl,hm3,hc⟩;have HX:=zH (And.intro hm3 (a70 HB2.out hc));clear hm3 hc))
  go_ret;exact⟨rfl,HX.out⟩
end
end Go.Proofs.YtipakfjpfjehmaaGreatDoor.Md.Cv
namespace Go.Proofs.YtipakfjpfjehmaaGreatDoor.Rr
open Go.ChangeShapes Go.WideShapes Go.ChangeAt Go.RowKit Num
structure Rx where
 a:Int
 b:Int
 th:Int
 tag:Int
 args:List Nat
 m:Mac
 steps:Int
 part:Nat
 sub:Nat
 claim:Int
 stamp:Int
 cell:Int
 ver:Int
 now:Int
def u64B (v:Int):Prop:=0<=v/\v<18446744073709551616
def okW (ws:List Int):Prop:=∀ v∈ws,u64B v
theorem okW.at {ws:List Int} (h:okW ws) (i:Int):u64B (wordAt ws i):=by
 unfold wordAt;rw[zG]
 cases e:ws[i.toNat]? with
 | none=>exact⟨by decide,by decide⟩
 | some v=>exact h v (List.mem_of_getElem? e)
theorem okW.set {ws:List Int} (h:okW ws) (i:Nat) {v:Int} (hv:u64B v):okW (ws.set i v):=fun u hu=>(List.mem_or_eq_of_mem_set hu).elim (h u) (fun e=>e ▸ hv)
theorem ax5 (v:Int):u64B (Md.Cv.passV v):=by
 unfold Md.Cv.passV u64B;rw[IntKind.wrap_u64];omega
def plW (x:Rx):Int:=3+x.b+3*x.a
def atW (x:Rx) (j:Int):Int:=3+x.b+3*x.cell+j
def a28 (x:Rx) (ws:List Int):Rx :=
 if x.sub=0 then { x with ver:=wordAt ws (atW x 0),sub:=if x.stamp<wordAt ws (atW x 0) then 3 else 1 }
 else if x.sub=1 then { x with now:=wordAt ws (atW x 1),sub:=2 }
 else if x.sub=2 then (if wordAt ws (atW x 0)=x.ver then { x with m:=a65 x.m (fixB x.now.toNat),cell:=-1,sub:=3 } else { x with sub:=3 })
 else { x with m:=a65 x.m (fixB (wordAt ws (atW x 2)).toNat),cell:=-1 }
def begX (x:Rx):Rx:={ x with m:=(a07 x.m).1,cell:=(a07 x.m).2.cell,sub:=0 }
def runX (x:Rx) (ws:List Int):Rx × Bool :=
 if 0<=x.cell then (a28 x ws,true)
 else if (a07 x.m).2.kind=1 then (a28 (begX x) ws,true)
 else ({ x with m:=(a07 x.m).1,part:=if (a07 x.m).2.kind=4 then 3 else 2 },false)
def a23 (x:Rx):Rx:={ x with steps:=x.steps+1 }
def a54 (x:Rx) (ws:List Int):Rx × List Int :=
 if x.sub=0 then ({ x with claim:=wordAt ws 2,sub:=1 },ws)
 else if x.sub=1 then ({ x with sub:=2 },ws.set (3+x.th).toNat (Md.Cv.passV x.claim))
 else ({ x with stamp:=wordAt ws 2,part:=2 },ws)
def an5 (x:Rx):Rx:={ x with part:=4 }
def a19 (x:Rx) (ws:List Int):Rx × List Int × Bool :=
 if x.part=1 then ((a54 (a23 x) ws).1,(a54 (a23 x) ws).2,true)
 else if x.part=3 then (an5 (a23 x),ws.set (3+x.th).toNat 0,true)
 else ((runX (a23 x) ws).1,ws,(runX (a23 x) ws).2)
structure Alike (x y:Rx):Prop where
 a:y.a=x.a
 b:y.b=x.b
 th:y.th=x.th
 tag:y.tag=x.tag
 args:y.args=x.args
 fuel:y.m.fuel=x.m.fuel
structure In0 (x:Rx):Prop where
 ca:1<=x.a/\x.a<=256
 cb:1<=x.b/\x.b<=8
 cel:x.m.cells=x.a
 th:0<=x.th/\x.th<x.b
 inv:Inv x.m
 few:x.args.length<=8
 part:1<=x.part/\x.part<=4
 p1:x.part=1->x.sub<=2/\x.cell=-1/\x.stamp=0/\(x.sub=0->x.claim=0)/\x.m.how=0/\¬ 0<=x.m.wait
 p2:x.part=2->x.m.how=0/\((x.cell=-1/\¬ 0<=x.m.wait)∨(0<=x.cell/\x.m.wait=x.cell/\1<=x.sub/\x.sub<=3))
 p3:x.part=3∨x.part=4->x.m.how≠0/\x.cell=-1/\¬ 0<=x.m.wait
 k:u64B x.claim
 s:u64B x.stamp
 v:u64B x.ver
 n:u64B x.now
structure InX (x:Rx):Prop extends In0 x where
 pos:0<=x.steps
 s1:x.part=1->x.steps=x.sub
 s2:x.part=2->(x.cell=-1->x.steps<=3+4*x.m.used)/\(0<=x.cell->x.steps<=4*x.m.used - 1+x.sub)
 s3:x.part=3->x.steps<=4*x.m.fuel+4
 s4:x.part=4->x.steps<=4*x.m.fuel+5
theorem In0.tick {x:Rx} (h:In0 x):In0 (a23 x):=⟨h.ca,h.cb,h.cel,h.th,h.inv,h.few,h.part,h.p1,h.p2,h.p3,h.k,h.s,h.v,h.n⟩
section
variable {x:Rx} {ws:List Int}
theorem In0.celB (h:In0 x):-1<=x.cell/\x.cell<x.a:=by
 have h1:=h.ca;have hp:=h.part
 rcases(by omega:x.part=1∨x.part=2∨x.part=3∨x.part=4) with e | e | e | e
 ·have:=(h.p1 e).2.1;omega
 ·rcases(h.p2 e).2 with q | q
  ·omega
  ·have:=h.inv.wait
   have:=h.cel;omega
 ·have:=(h.p3 (.inl e)).2.1;omega
 ·have:=(h.p3 (.inr e)).2.1;omega
theorem b35 (v:Int) (h:u64B v):fixB v.toNat<18446744073709551616:=aa1 (by have:=h.2;have:=h.1;omega)
theorem b86 (hI:Inv x.m) (hc:0<=x.cell) (hw:x.m.wait=x.cell) (hs:x.sub<=3) (h0:x.m.how=0) (hn:u64B x.now) (hv:u64B x.ver) (hW:okW ws) :
  Alike x (a28 x ws)/\Inv (a28 x ws).m/\(a28 x ws).m.cells=x.m.cells/\(a28 x ws).m.how=0/\(a28 x ws).m.used=x.m.used/\(a28 x ws).part=x.part/\(a28 x ws).steps=x.steps/\(a28 x ws).stamp=x.stamp/\(a28 x ws).claim=x.claim/\u64B (a28 x ws).now/\u64B (a28 x ws).ver /\
   (((a28 x ws).cell=-1/\¬ 0<=(a28 x ws).m.wait/\x.sub ≥ 2)∨((a28 x ws).cell=x.cell/\(a28 x ws).m=x.m/\x.sub+1<=(a28 x ws).sub/\(a28 x ws).sub<=3)):=by
 have hw0:0<=x.m.wait:=by omega
 have G:∀ y:Int,u64B y->Inv (a65 x.m (fixB y.toNat))/\(a65 x.m (fixB y.toNat)).cells=x.m.cells/\(a65 x.m (fixB y.toNat)).how=0/\(a65 x.m (fixB y.toNat)).used=x.m.used/\¬ 0<=(a65 x.m (fixB y.toNat)).wait/\(a65 x.m (fixB y.toNat)).fuel=x.m.fuel:=fun y hy=>by
  obtain⟨q1,q2,q3,q4⟩:=aw2 hw0 (fixB y.toNat);exact⟨aD6 hI (b35 y hy),q4.cells,q2.trans h0,q3,q1,q4.fuel⟩
 unfold a28
 split
 ·refine⟨⟨rfl,rfl,rfl,rfl,rfl,rfl⟩,hI,rfl,h0,rfl,rfl,rfl,rfl,rfl,hn,hW.at _,.inr ⟨rfl,rfl,?_,?_⟩⟩
  ·dsimp only;split <;> omega
  ·dsimp only;split <;> omega
 ·split
  ·exact⟨⟨rfl,rfl,rfl,rfl,rfl,rfl⟩,hI,rfl,h0,rfl,rfl,rfl,rfl,rfl,hW.at _,hv,.inr ⟨rfl,rfl,by dsimp only;omega,by dsimp only;omega⟩⟩
  ·split
   ·split
    ·obtain⟨q1,q2,q3,q4,q5,q6⟩:=G _ hn
     exact⟨⟨rfl,rfl,rfl,rfl,rfl,q6⟩,q1,q2,q3,q4,rfl,rfl,rfl,rfl,hn,hv,.inl ⟨rfl,q5,by omega⟩⟩
    ·exact⟨⟨rfl,rfl,rfl,rfl,rfl,rfl⟩,hI,rfl,h0,rfl,rfl,rfl,rfl,rfl,hn,hv,.inr ⟨rfl,rfl,by dsimp only;omega,by dsimp only;omega⟩⟩
   ·obtain⟨q1,q2,q3,q4,q5,q6⟩:=G (wordAt ws (atW x 2)) (hW.at _)
    exact⟨⟨rfl,rfl,rfl,rfl,rfl,q6⟩,q1,q2,q3,q4,rfl,rfl,rfl,rfl,hn,hv,.inl ⟨rfl,q5,by omega⟩⟩
theorem br5 (h:InX x) (hp:x.part=2) (hW:okW ws):InX (runX (a23 x) ws).1/\Alike x (runX (a23 x) ws).1/\(runX (a23 x) ws).1.steps=x.steps+1/\((runX (a23 x) ws).1.part=2∨(runX (a23 x) ws).1.part=3):=by
 obtain⟨h0,hq⟩:=h.p2 hp;obtain⟨hs1,hs2⟩:=h.s2 hp;have hu:=h.inv.used;have hf:=h.inv.fuel;have hpos:=h.pos
 rcases hq with⟨hc,hw⟩ | ⟨hc,hw,hs1',hs3⟩
 ·have nc:¬ 0<=x.cell:=by omega
  have hst:=hs1 hc;obtain⟨lk,tr⟩:=a77 h.inv hw h0;have hI:=ag5 h.inv
  rcases tr with⟨k4,e1,e2⟩ | ⟨k1,e1,e2,e3,e4⟩ | ⟨k0,e1,e2,e3⟩
  ·have k1:¬ (a07 x.m).2.kind=1:=by omega
   have E:runX (a23 x) ws=({ a23 x with m:=(a07 x.m).1,part:=3 },false):=by
    unfold runX;rw[if_neg (show ¬ 0<=(a23 x).cell from nc),if_neg (show ¬ (a07 (a23 x).m).2.kind=1 from k1),if_pos (show (a07 (a23 x).m).2.kind=4 from k4)];rfl
   rw[E];exact⟨⟨⟨h.ca,h.cb,lk.cells.trans h.cel,h.th,hI,h.few,by dsimp only;omega,(fun e=>by cases e),(fun e=>by cases e),fun _=>⟨e1,hc,e2⟩,h.k,h.s,h.v,h.n⟩,by show 0<=x.steps+1;omega,(fun e=>by cases e),(fun e=>by cases e),(fun _=>by show x.steps+1<=4*(a07 x.m).1.fuel+4;rw[lk.fuel];omega),(fun e=>by cases e)⟩,⟨rfl,rfl,rfl,rfl,rfl,lk.fuel⟩,rfl,.inr rfl⟩
  ·have E:runX (a23 x) ws=(a28 (begX (a23 x)) ws,true):=by
    unfold runX;rw[if_neg (show ¬ 0<=(a23 x).cell from nc),if_pos (show (a07 (a23 x).m).2.kind=1 from k1)]
   obtain⟨q1,q2,q3,q4,q5,q6,q7,q8,q9,q10,q11,q12⟩:=b86 (x:=begX (a23 x)) (ws:=ws) hI (by show 0<=(a07 x.m).2.cell;omega) (by show (a07 x.m).1.wait=(a07 x.m).2.cell;omega) (by show (0:Nat)<=3;omega) e3 h.n h.v hW;rw[E];have s7:(a28 (begX (a23 x)) ws).steps=x.steps+1:=q7;have s5:(a28 (begX (a23 x)) ws).m.used=x.m.used+1:=q5.trans e4;have s6:(a28 (begX (a23 x)) ws).part=2:=q6.trans hp;obtain⟨z1,z2,z3,z4⟩:(a28 (begX (a23 x)) ws).cell=(a07 x.m).2.cell/\(a28 (begX (a23 x)) ws).m=(a07 x.m).1/\1<=(a28 (begX (a23 x)) ws).sub/\(a28 (begX (a23 x)) ws).sub<=3:=by
    rcases q12 with⟨_,_,z⟩ | ⟨z1,z2,z3,z4⟩
    ·exact absurd z (by show ¬ (0:Nat) ≥ 2;omega)
    ·exact⟨z1,z2,z3,z4⟩
   refine⟨⟨⟨by rw[q1.a];exact h.ca,by rw[q1.b];exact h.cb,by rw[q3,q1.a];exact lk.cells.trans h.cel,by rw[q1.th,q1.b];exact h.th,q2,by rw[q1.args];exact h.few,by dsimp only;omega,(fun e=>by dsimp only at e;omega),fun _=>⟨q4,.inr ⟨by dsimp only;omega,by dsimp only;rw[z1,z2];omega,z3,z4⟩⟩,(fun e=>by dsimp only at e;omega),by rw[q9];exact h.k,by rw[q8];exact h.s,q11,q10⟩,by dsimp only;omega,(fun e=>by dsimp only at e;omega),fun _=>⟨fun e=>by dsimp only at e;omega,fun _=>by dsimp only;omega⟩,(fun e=>by dsimp only at e;omega),(fun e=>by dsimp only at e;omega)⟩,⟨q1.a,q1.b,q1.th,q1.tag,q1.args,q1.fuel.trans lk.fuel⟩,s7,.inl s6⟩
  ·have k1:¬ (a07 x.m).2.kind=1:=by omega
   have k4:¬ (a07 x.m).2.kind=4:=by omega
   have E:runX (a23 x) ws=({ a23 x with m:=(a07 x.m).1,part:=2 },false):=by
    unfold runX;rw[if_neg (show ¬ 0<=(a23 x).cell from nc),if_neg (show ¬ (a07 (a23 x).m).2.kind=1 from k1),if_neg (show ¬ (a07 (a23 x).m).2.kind=4 from k4)];rfl
   rw[E];exact⟨⟨⟨h.ca,h.cb,lk.cells.trans h.cel,h.th,hI,h.few,by dsimp only;omega,(fun e=>by cases e),fun _=>⟨e2,.inl ⟨hc,e1⟩⟩,(fun e=>by rcases e with e | e <;> cases e),h.k,h.s,h.v,h.n⟩,by show 0<=x.steps+1;omega,(fun e=>by cases e),fun _=>⟨fun _=>by show x.steps+1<=3+4*(a07 x.m).1.used;omega,fun e=>absurd e nc⟩,(fun e=>by cases e),(fun e=>by cases e)⟩,⟨rfl,rfl,rfl,rfl,rfl,lk.fuel⟩,rfl,.inl rfl⟩
 ·have hst:=hs2 hc
  have E:runX (a23 x) ws=(a28 (a23 x) ws,true):=by
   unfold runX;rw[if_pos (show 0<=(a23 x).cell from hc)]
  obtain⟨q1,q2,q3,q4,q5,q6,q7,q8,q9,q10,q11,q12⟩:=b86 (x:=a23 x) (ws:=ws) h.inv hc hw hs3 h0 h.n h.v hW;rw[E];have s7:(a28 (a23 x) ws).steps=x.steps+1:=q7;have s5:(a28 (a23 x) ws).m.used=x.m.used:=q5;have s6:(a28 (a23 x) ws).part=2:=q6.trans hp;have Z:((a28 (a23 x) ws).cell=-1/\¬ 0<=(a28 (a23 x) ws).m.wait/\2<=x.sub)∨((a28 (a23 x) ws).cell=x.cell/\(a28 (a23 x) ws).m=x.m/\x.sub+1<=(a28 (a23 x) ws).sub/\(a28 (a23 x) ws).sub<=3):=q12;refine⟨⟨⟨by rw[q1.a];exact h.ca,by rw[q1.b];exact h.cb,by rw[q3,q1.a];exact h.cel,by rw[q1.th,q1.b];exact h.th,q2,by rw[q1.args];exact h.few,by dsimp only;omega,(fun e=>by dsimp only at e;omega),fun _=>⟨q4,?_⟩,(fun e=>by dsimp only at e;omega),by rw[q9];exact h.k,by rw[q8];exact h.s,q11,q10⟩,by dsimp only;omega,(fun e=>by dsimp only at e;omega),fun _=>⟨fun e=>?_,fun e=>?_⟩,(fun e=>by dsimp only at e;omega),(fun e=>by dsimp only at e;omega)⟩,⟨q1.a,q1.b,q1.th,q1.tag,q1.args,q1.fuel⟩,s7,.inl s6⟩
  ·rcases Z with⟨z1,z2,_⟩ | ⟨z1,z2,z3,z4⟩
   ·exact .inl ⟨z1,z2⟩
   ·exact .inr ⟨by dsimp only;rw[z1];exact hc,by dsimp only;rw[z1,z2];exact hw,by dsimp only;omega,z4⟩
  ·dsimp only at e ⊢
   rcases Z with⟨z1,z2,_⟩ | ⟨z1,z2,z3,z4⟩
   ·omega
   ·omega
  ·dsimp only at e ⊢
   rcases Z with⟨z1,z2,_⟩ | ⟨z1,z2,z3,z4⟩
   ·omega
   ·omega
theorem step_in (h:InX x) (hp:x.part≠4) (hW:okW ws):InX (a19 x ws).1/\Alike x (a19 x ws).1/\(a19 x ws).1.steps=x.steps+1/\okW (a19 x ws).2.1/\(a19 x ws).2.1.length=ws.length:=by
 have hP:=h.part;have hpos:=h.pos
 rcases(by omega:x.part=1∨x.part=2∨x.part=3) with e | e | e
 ·obtain⟨c1,c2,c3,c4,c6,c7⟩:=h.p1 e
  have c5:=h.s1 e
  rcases(by omega:x.sub=0∨x.sub=1∨x.sub=2) with d | d | d
  ·have E:a19 x ws=({ a23 x with claim:=wordAt ws 2,sub:=1 },ws,true):=by unfold a19 a54;rw[if_pos e,if_pos (show (a23 x).sub=0 from d)]
   rw[E];exact⟨⟨⟨h.ca,h.cb,h.cel,h.th,h.inv,h.few,hP,fun _=>⟨by show (1:Nat)<=2;omega,c2,c3,(fun q=>by cases q),c6,c7⟩,(fun q=>by have q':x.part=2:=q;omega),h.p3,hW.at _,h.s,h.v,h.n⟩,by show 0<=x.steps+1;omega,(fun _=>by show x.steps+1=1;omega),(fun q=>by have q':x.part=2:=q;omega),(fun q=>by have q':x.part=3:=q;omega),(fun q=>by have q':x.part=4:=q;omega)⟩,⟨rfl,rfl,rfl,rfl,rfl,rfl⟩,rfl,hW,rfl⟩
  ·have E:a19 x ws=({ a23 x with sub:=2 },ws.set (3+x.th).toNat (Md.Cv.passV x.claim),true):=by unfold a19 a54;rw[if_pos e,if_neg (show ¬ (a23 x).sub=0 by show ¬ x.sub=0;omega),if_pos (show (a23 x).sub=1 from d)];rfl
   rw[E];exact⟨⟨⟨h.ca,h.cb,h.cel,h.th,h.inv,h.few,hP,fun _=>⟨by show (2:Nat)<=2;omega,c2,c3,(fun q=>by cases q),c6,c7⟩,(fun q=>by have q':x.part=2:=q;omega),h.p3,h.k,h.s,h.v,h.n⟩,by show 0<=x.steps+1;omega,(fun _=>by show x.steps+1=2;omega),(fun q=>by have q':x.part=2:=q;omega),(fun q=>by have q':x.part=3:=q;omega),(fun q=>by have q':x.part=4:=q;omega)⟩,⟨rfl,rfl,rfl,rfl,rfl,rfl⟩,rfl,hW.set _ (ax5 _),by simp⟩
  ·have E:a19 x ws=({ a23 x with stamp:=wordAt ws 2,part:=2 },ws,true):=by unfold a19 a54;rw[if_pos e,if_neg (show ¬ (a23 x).sub=0 by show ¬ x.sub=0;omega),if_neg (show ¬ (a23 x).sub=1 by show ¬ x.sub=1;omega)]
   rw[E];have hu:=h.inv.used;exact⟨⟨⟨h.ca,h.cb,h.cel,h.th,h.inv,h.few,by dsimp only;omega,(fun q=>by cases q),fun _=>⟨c6,.inl ⟨c2,c7⟩⟩,(fun q=>by rcases q with q | q <;> cases q),h.k,hW.at _,h.v,h.n⟩,by show 0<=x.steps+1;omega,(fun q=>by cases q),fun _=>⟨fun _=>by show x.steps+1<=3+4*x.m.used;omega,fun q=>by have q':0<=x.cell:=q;omega⟩,(fun q=>by cases q),(fun q=>by cases q)⟩,⟨rfl,rfl,rfl,rfl,rfl,rfl⟩,rfl,hW,rfl⟩
 ·have E:a19 x ws=((runX (a23 x) ws).1,ws,(runX (a23 x) ws).2):=by unfold a19;rw[if_neg (by omega),if_neg (by omega)]
  obtain⟨q1,q2,q3,_⟩:=br5 h e hW;rw[E];exact⟨q1,q2,q3,hW,rfl⟩
 ·have E:a19 x ws=(an5 (a23 x),ws.set (3+x.th).toNat 0,true):=by unfold a19;rw[if_neg (by omega),if_pos e]
  obtain⟨c1,c2,c3⟩:=h.p3 (.inl e);have c4:=h.s3 e;rw[E];exact⟨⟨⟨h.ca,h.cb,h.cel,h.th,h.inv,h.few,⟨by show 1<=4;omega,by show 4<=4;omega⟩,(fun q=>by cases q),(fun q=>by cases q),fun _=>⟨c1,c2,c3⟩,h.k,h.s,h.v,h.n⟩,by show 0<=x.steps+1;omega,(fun q=>by cases q),(fun q=>by cases q),(fun q=>by cases q),(fun _=>by show x.steps+1<=4*x.m.fuel+5;omega)⟩,⟨rfl,rfl,rfl,rfl,rfl,rfl⟩,rfl,hW.set _ ⟨by decide,by decide⟩,by simp⟩
theorem InX.few_steps (h:InX x):x.steps<=4*x.m.fuel+5/\(x.part≠4->x.steps<=4*x.m.fuel+4):=by
 have hP:=h.part;have hu:=h.inv.used;have hf:=h.inv.fuel
 rcases(by omega:x.part=1∨x.part=2∨x.part=3∨x.part=4) with e | e | e | e
 ·have:=h.s1 e;have:=h.p1 e;omega
 ·have:=h.s2 e;have:=h.p2 e;omega
 ·have:=h.s3 e;omega
 ·have:=h.s4 e;omega
end
end Go.Proofs.YtipakfjpfjehmaaGreatDoor.Rr
namespace Go.Proofs.YtipakfjpfjehmaaGreatDoor.Sx
open Go.ChangeShapes Go.WideShapes Go.ChangeAt Go.RowKit Num
theorem by4 {w:World} {p:Option Addr} {c:Nat} {l:List Nat} (h:RowAt 49 w p c (fls l)) (i:Nat) (hi:i<l.length):∃ g,p=some ⟨g,0,none⟩/\g<w.heap.size/\w.cell? ⟨g,i,none⟩=some (.float .f64 l[i])/\w.frozen? ⟨g,i,none⟩=false:=by
 have ho:=h.own;rw[a32]at ho
 rcases ho.2 with⟨_,q⟩ | ⟨g,cap,cur,hv,_,hg,_⟩
 ·omega
 ·cases hv
  refine⟨g,rfl,lt_of_block hg,?_,zZ w g i _ _ hg⟩;rw[ho.cellAt i (by omega)]
  simp[fls,hi]
def hasN (n:Nat) (i:Int):Bool:=decide (0<=i) && decide (i<(n:Int))
theorem hasN_pos {n:Nat} {i:Int} (h:hasN n i=true):∃ k:Nat,i=k/\k<n:=by
 unfold hasN at h
 simp at h
 exact⟨i.toNat,by omega,by omega⟩
theorem hasN_nat {n k:Nat}:hasN n (k:Int)=decide (k<n):=by
 unfold hasN;rw[Bool.eq_iff_iff]
 simp
def getV (l:List Nat) (i:Int):Nat:=if hasN l.length i then l.getD i.toNat 0 else 0
def setL (l:List Nat) (i:Int) (x:Nat):List Nat:=if hasN l.length i then l.set i.toNat (fixB x) else l
theorem setL_len (l:List Nat) (i:Int) (x:Nat):(setL l i x).length=l.length:=by unfold setL;split <;> simp
def foldL (l:List Nat) (ts:List (Int × Nat)):List Nat:=ts.foldl (fun l t=>setL l t.1 t.2) l
theorem foldL_len (ts:List (Int × Nat)):∀ l,(foldL l ts).length=l.length:=by
 induction ts with
 | nil=>intro l;rfl
 | cons t ts ih=>intro l;show (foldL (setL l t.1 t.2) ts).length=_;rw[ih,setL_len]
attribute [local go_sem] a00 frombits_run bits_run
theorem fMake (n:Nat) (hn:n<=256) (w:World):(Instr.makeSlice 24 (.int .i64 (n:Int)) (.int .i64 (n:Int))).run Tryz.prog w=.ok (.slice (some ⟨w.heap.size,0,none⟩) n n) (w.alloc (.cells (fls (List.replicate n 0)).toArray 49)):=by
 obtain⟨i,hi,hz0,hz1,hz2⟩:=info_parts aH2;rw[run_make w 24 49 i (.float .f64 0) Tryz.underlying24 hi hz0 .i64 .i64 n n (by omega) (zW _) (by rw[hz2];omega) (by omega)];have e:(madeCells (.float .f64 0:Value).cells (((n:Int)).toNat*i.size))=(fls (List.replicate n 0)).toArray:=by
  rw[hz1,Nat.mul_one,Int.toNat_natCast]
  apply Array.toList_inj.1
  rw[show (.float .f64 0:Value).cells=#[.float .f64 0] from rfl,toList_madeCells_one]
  simp[fls]
 rw[e,Int.toNat_natCast]
attribute [local go_sem] a00 frombits_run bits_run
attribute [local go_sem] a00 frombits_run bits_run
theorem row_getD {w:World} {p:Option Addr} {c:Nat} {l:List Nat} (h:RowAt 49 w p c (fls l)) (i:Nat) (hi:i<l.length):∃ g,p=some ⟨g,0,none⟩/\g<w.heap.size/\w.cell? ⟨g,i,none⟩=some (.float .f64 (l.getD i 0))/\w.frozen? ⟨g,i,none⟩=false:=by
 have:=by4 h i hi;rwa[show l[i]=l.getD i 0 by simp[hi]]at this
attribute [local go_sem] a00 frombits_run bits_run
end Go.Proofs.YtipakfjpfjehmaaGreatDoor.Sx
namespace Go.Proofs.YtipakfjpfjehmaaGreatDoor
open Go.ChangeShapes Go.WideShapes Go.ChangeAt Go.RowKit Num
def goM (s:List Nat) (m:Mac):Mac:=if (a07 m).2.kind=1 then a65 (a07 m).1 (Sx.getV s (a07 m).2.cell) else (a07 m).1
def runN (s:List Nat):Nat->Mac->Mac
 | 0,m=>m
 | n+1,m=>runN s n (goM s m)
def okS (s:List Nat):Prop:=∀ x∈s,okN x
theorem aM3 {s:List Nat} (h:okS s) (i:Int):okN (Sx.getV s i):=by
 unfold Sx.getV
 split
 ·exact ad9 0 a92 s h _
 ·exact a92
theorem aS5 (s:List Nat):∀ (a b:Nat) (m:Mac),runN s (a+b) m=runN s b (runN s a m)
 | 0,b,m=>by rw[Nat.zero_add];rfl
 | a+1,b,m=>by
  rw[Nat.add_right_comm];exact aS5 s a b (goM s m)
theorem b97 (s:List Nat) (k:Nat) (m:Mac):runN s (k+1) m=runN s k (goM s m):=rfl
theorem ai7 (s:List Nat) (k:Nat) (m:Mac):runN s (k+1) m=goM s (runN s k m):=aS5 s k 1 m
structure Rest (m:Mac):Prop where
 inv:Inv m
 nw:¬ 0<=m.wait
 cel:∀ t∈m.buf,0<=t.1/\t.1<m.cells
 nod:(a05 m.buf).Nodup
theorem aK6 {m:Mac} (hw:¬ 0<=m.wait) (h0:m.how≠0):a07 m=(m,a59):=by
 unfold a07;rw[if_neg hw,if_neg h0]
theorem aM4 {s:List Nat} {m:Mac} (hw:¬ 0<=m.wait) (h0:m.how≠0):goM s m=m:=by
 unfold goM;rw[aK6 hw h0]
 rfl
theorem aK1 {s:List Nat} {m:Mac} (hw:¬ 0<=m.wait) (h0:m.how≠0):∀ k,runN s k m=m
 | 0=>rfl
 | k+1=>by
  show runN s k (goM s m)=m
  rw[aM4 hw h0];exact aK1 hw h0 k
theorem bE9 {s:List Nat} {m:Mac} (h:Inv m) (hs:okS s):Inv (goM s m):=by
 unfold goM
 split
 ·exact aD6 (ag5 h) (aM3 hs _).2
 ·exact ag5 h
theorem at3 {s:List Nat} {m:Mac} (h:(a07 m).2.kind=1):goM s m=a65 (a07 m).1 (Sx.getV s (a07 m).2.cell):=if_pos h
theorem ag4 {s:List Nat} {m:Mac} (h:(a07 m).2.kind≠1):goM s m=(a07 m).1:=if_neg h
theorem aR1 {s:List Nat} {m:Mac} (h:Inv m) (hw:¬ 0<=m.wait) (h0:m.how=0):Like m (goM s m)/\¬ 0<=(goM s m).wait/\(((a07 m).2.kind=4/\(goM s m).how≠0)∨((a07 m).2.kind≠4/\(goM s m).how=0/\(goM s m).used=m.used+1)):=by
 obtain⟨hl,⟨k1,k2,k3⟩ | ⟨k1,k2,k3,k4,k5⟩ | ⟨k1,k2,k3,k4⟩⟩:=a77 h hw h0
 ·rw[ag4 (by rw[k1];decide)]
  exact⟨hl,k3,.inl ⟨k1,k2⟩⟩
 ·rw[at3 k1]
  obtain⟨g1,g2,g3,g4⟩:=aw2 k3 (Sx.getV s (a07 m).2.cell);exact⟨hl.trans g4,g1,.inr ⟨by rw[k1];decide,g2.trans k4,g3.trans k5⟩⟩
 ·rw[ag4 (by rcases k1 with k | k | k <;> rw[k] <;> decide)]
  exact⟨hl,k2,.inr ⟨by rcases k1 with k | k | k <;> rw[k] <;> decide,k3,k4⟩⟩
theorem bq2 {s:List Nat} {m:Mac}:(goM s m).buf=(a07 m).1.buf:=by
 unfold goM
 split
 ·exact aw1 _
 ·rfl
theorem aG6 {l:Wr} {c:Int}:c∈a05 l ↔ ∃ t∈l,t.1=c:=by unfold a05;exact List.mem_map
theorem aW7 {l:Wr} {c:Int} {y:Nat} {P:Int->Prop} (h:∀ t∈l,P t.1) (hc:P c):∀ t∈putC l c y,P t.1:=fun t ht=>by
 have h1:t.1∈a05 (putC l c y):=aG6.2 ⟨t,ht,rfl⟩;rw[ab0]at h1;have h2:t.1∈a05 l∨t.1=c:=by
  split at h1
  ·exact .inl h1
  ·rcases List.mem_append.1 h1 with h | h
   ·exact .inl h
   ·exact .inr (by simpa using h)
 rcases h2 with h2 | h2
 ·obtain⟨u,hu,e⟩:=aG6.1 h2
  exact e ▸ h u hu
 ·exact h2 ▸ hc
theorem Rest.go {s:List Nat} {m:Mac} (h:Rest m) (hs:okS s):Rest (goM s m):=by
 by_cases h0:m.how=0
 ·obtain⟨hl,g1,_⟩:=aR1 (s:=s) h.inv h.nw h0
  have hb:=ai9 h.inv h.nw h0;refine⟨bE9 h.inv hs,g1,?_,?_⟩
  ·rw[bq2,hl.cells]
   rcases hb with⟨_,e⟩ | ⟨_,e⟩ | ⟨_,e,_⟩ | ⟨_,e,_⟩ | ⟨_,e,_,c1,c2⟩
   iterate 4 (rw[e];exact h.cel)
   rw[e];exact aW7 (P:=fun c=>0<=c/\c<m.cells) h.cel ⟨c1,c2⟩
  ·rw[bq2]
   rcases hb with⟨_,e⟩ | ⟨_,e⟩ | ⟨_,e,_⟩ | ⟨_,e,_⟩ | ⟨_,e,_,c1,c2⟩
   iterate 4 (rw[e];exact h.nod)
   rw[e];exact aI4 h.nod
 ·rw[aM4 h.nw h0]
  exact h
theorem Rest.run {s:List Nat} (hs:okS s):∀ (k:Nat) {m:Mac},Rest m->Rest (runN s k m)
 | 0,_,h=>h
 | k+1,_,h=>Rest.run hs k (h.go hs)
theorem at9 {s:List Nat} (hs:okS s):∀ (k:Nat) {m:Mac},Rest m->Like m (runN s k m)
 | 0,m,_=>Like.refl m
 | k+1,m,h=>by
  refine Like.trans ?_ (at9 hs k (h.go hs))
  by_cases h0:m.how=0
  ·exact(aR1 h.inv h.nw h0).1
  ·rw[aM4 h.nw h0]
   exact Like.refl m
theorem aE1 {a b f e t:Int} {c:List Ins} {l:List Nat} (hc:Md.cfgB a b f e=true) (hx:∀ k,k<c.length->(ci c k).x<18446744073709551616) (hl:∀ x∈l,x<18446744073709551616):Rest (newM a f e t c l) :=
 ⟨b55 hc hx hl,show ¬ (0:Int)<=-1 by decide,fun t ht=>by simp[newM]at ht,by simp[newM,a05]⟩
theorem aQ7:∀ (ts:Wr) {s:List Nat},okS s->(∀ t∈ts,okN t.2)->okS (Sx.foldL s ts)
 | [],_,h,_=>h
 | t::ts,s,h,ht=>by
  show okS (Sx.foldL (Sx.setL s t.1 t.2) ts)
  refine aQ7 ts ?_ (fun u hu=>ht u (by simp[hu]));unfold Sx.setL
  split
  ·intro x hx
   rcases List.mem_or_eq_of_mem_set hx with hx | rfl
   ·exact h x hx
   ·exact a83 (ht t (by simp)).2
  ·exact h
end Go.Proofs.YtipakfjpfjehmaaGreatDoor
namespace Go.Proofs.YtipakfjpfjehmaaGreatDoor.Ww
open Go.ChangeShapes Go.WideShapes Go.ChangeAt Go.RowKit Num Rr
structure Wx where
 a:Int
 b:Int
 th:Int
 tag:Int
 args:List Nat
 m:Mac
 steps:Int
 part:Nat
 tick:Int
 stamp:Int
 was:List Nat
 at_:Nat
 num:Int
def plY (x:Wx):Int:=3+x.b+3*x.a
def atC (x:Wx) (c j:Int):Int:=3+x.b+3*c+j
def nowN (x:Wx) (ws:List Int) (c:Int):Nat:=fixB (wordAt ws (atC x c 1)).toNat
def runY (x:Wx) (ws:List Int):Wx × Bool :=
 if (a07 x.m).2.kind=1 then ({ x with m:=a65 (a07 x.m).1 (nowN x ws (a07 x.m).2.cell) },true)
 else if (a07 x.m).2.kind=3/\(a07 x.m).2.first=true then ({ x with m:=(a07 x.m).1,was:=x.was ++ [nowN x ws (a07 x.m).2.cell] },true)
 else if (a07 x.m).2.kind=4 then ({ x with m:=(a07 x.m).1,part:=if (a07 x.m).1.how=1 then 5 else 8 },false)
 else ({ x with m:=(a07 x.m).1 },false)
def a97 (x:Wx) (ws:List Int):Wx :=
 if wordAt ws (3+(x.at_:Int))=0∨x.stamp<wordAt ws (3+(x.at_:Int)) then
  (if ((x.at_+1:Nat):Int)=x.b then { x with at_:=0,part:=if x.m.buf.length=0 then 7 else 6 } else { x with at_:=x.at_+1 })
 else x
def ah7 (x:Wx) (ws:List Int):List Int :=
 if x.at_ % 3=0 then ws.set (atC x (x.m.buf.getD (x.at_ / 3) (0,0)).1 2).toNat ((x.was.getD (x.at_ / 3) 0:Nat):Int)
 else if x.at_ % 3=1 then ws.set (atC x (x.m.buf.getD (x.at_ / 3) (0,0)).1 0).toNat (Md.Cv.passV x.stamp)
 else ws.set (atC x (x.m.buf.getD (x.at_ / 3) (0,0)).1 1).toNat (((x.m.buf.getD (x.at_ / 3) (0,0)).2:Nat):Int)
def ae1 (x:Wx):Wx:={ x with at_:=x.at_+1,part:=if x.at_+1=3*x.m.buf.length then 7 else 6 }
def a16 (x:Wx):Wx:={ x with steps:=x.steps+1 }
def a62 (x:Wx) (ws:List Int):Wx × List Int × Bool :=
 if x.part=1 then ({ x with tick:=wordAt ws 0,part:=2 },ws.set 0 (Md.Cv.passV (wordAt ws 0)),true)
 else if x.part=2 then ((if wordAt ws 1=x.tick then { x with part:=3 } else x),ws,true)
 else if x.part=3 then ({ x with stamp:=wordAt ws 2,part:=4 },ws,true)
 else if x.part=4 then ((runY x ws).1,ws,(runY x ws).2)
 else if x.part=5 then (a97 x ws,ws,true)
 else if x.part=6 then (ae1 x,ah7 x ws,true)
 else if x.part=7 then ({ x with num:=wrap64 (Md.Cv.passV x.stamp),part:=8 },ws.set 2 (Md.Cv.passV x.stamp),true)
 else ({ x with part:=9 },ws.set 1 (Md.Cv.passV x.tick),true)
def a09 (x:Wx) (ws:List Int):Wx × List Int × Bool:=a62 (a16 x) ws
structure AlikeY (x y:Wx):Prop where
 a:y.a=x.a
 b:y.b=x.b
 th:y.th=x.th
 tag:y.tag=x.tag
 args:y.args=x.args
 lk:Like x.m y.m
theorem AlikeY.refl (x:Wx):AlikeY x x:=⟨rfl,rfl,rfl,rfl,rfl,Like.refl _⟩
structure InY (x:Wx):Prop where
 ca:1<=x.a/\x.a<=256
 cb:1<=x.b/\x.b<=8
 cel:x.m.cells=x.a
 th:0<=x.th/\x.th<x.b
 rest:Rest x.m
 few:x.args.length<=8
 part:1<=x.part/\x.part<=9
 tk:u64B x.tick
 sp:u64B x.stamp
 wlen:x.was.length=x.m.buf.length
 wok:∀ v∈x.was,okN v
 run:x.part<=4->x.m.how=0
 fin:5<=x.part->x.m.how≠0
 com:5<=x.part->x.part<=7->x.m.how=1
 at4:x.part<=4->x.at_=0
 at5:x.part=5->(x.at_:Int)<x.b
 at6:x.part=6->x.at_<3*x.m.buf.length
theorem InY.tick {x:Wx} (h:InY x):InY (a16 x):=⟨h.ca,h.cb,h.cel,h.th,h.rest,h.few,h.part,h.tk,h.sp,h.wlen,h.wok,h.run,h.fin,h.com,h.at4,h.at5,h.at6⟩
theorem bq9 {ws:List Int} (h:okW ws) (x:Wx) (c:Int):okN (nowN x ws c):=a83 (by have:=h.at (atC x c 1);have h1:=this.1;have h2:=this.2;omega)
section
variable {x:Wx} {ws:List Int}
theorem aJ9 {m:Mac} (h:Rest m) (hk:(a07 m).2.kind≠1):Rest (a07 m).1:=by
 have:=h.go (s:=[]) (fun _ hx=>by cases hx);rw[ag4 hk]at this;exact this
theorem b92 {m:Mac} (h:Rest m) (h0:m.how=0) (hk:(a07 m).2.kind=1) {v:Nat} (hv:okN v):Rest (a65 (a07 m).1 v)/\(a65 (a07 m).1 v).how=0/\Like m (a65 (a07 m).1 v)/\(a65 (a07 m).1 v).used=m.used+1/\(a65 (a07 m).1 v).buf=m.buf:=by
 obtain⟨lk,tr⟩:=a77 h.inv h.nw h0;have hb:=ai9 h.inv h.nw h0
 rcases tr with⟨k4,_⟩ | ⟨_,e1,e2,e3,e4⟩ | ⟨k0,_⟩
 ·omega
 ·obtain⟨g1,g2,g3,g4⟩:=aw2 e2 v
  have eb:(a65 (a07 m).1 v).buf=m.buf:=by
   rw[aw1]
   rcases hb with⟨q,_⟩ | ⟨q,_⟩ | ⟨_,e,_⟩ | ⟨q,_⟩ | ⟨q,_⟩
   ·omega
   ·omega
   ·exact e
   ·omega
   ·omega
  refine⟨⟨aD6 (ag5 h.inv) hv.2,g1,?_,?_⟩,g2.trans e3,lk.trans g4,g3.trans e4,eb⟩
  ·rw[eb,(lk.trans g4).cells];exact h.cel
  ·rw[eb];exact h.nod
 ·omega
theorem by8 (h:InY x) (hp:x.part=4) (hW:okW ws):InY (runY x ws).1/\AlikeY x (runY x ws).1/\(runY x ws).1.steps=x.steps:=by
 have h0:=h.run (by omega);have hR:=h.rest;obtain⟨lk,tr⟩:=a77 hR.inv hR.nw h0;have hb:=ai9 hR.inv hR.nw h0;unfold runY
 by_cases k1:(a07 x.m).2.kind=1
 ·rw[if_pos k1]
  obtain⟨r1,r2,r3,r4,r5⟩:=b92 hR h0 k1 (bq9 hW x (a07 x.m).2.cell);exact⟨⟨h.ca,h.cb,r3.cells.trans h.cel,h.th,r1,h.few,h.part,h.tk,h.sp,by dsimp only;rw[r5];exact h.wlen,h.wok,fun _=>r2,(fun q=>by dsimp only at q;omega),(fun q=>by dsimp only at q;omega),h.at4,(fun q=>by dsimp only at q;omega),(fun q=>by dsimp only at q;omega)⟩,⟨rfl,rfl,rfl,rfl,rfl,r3⟩,rfl⟩
 ·rw[if_neg k1]
  have rs:=aJ9 hR k1
  by_cases k3:(a07 x.m).2.kind=3/\(a07 x.m).2.first=true
  ·rw[if_pos k3]
   have hh:(a07 x.m).1.how=0:=by
    rcases tr with⟨k4,_⟩ | ⟨q,_⟩ | ⟨_,_,e,_⟩
    ·omega
    ·omega
    ·exact e
   have hl:(a07 x.m).1.buf.length=x.m.buf.length+1:=by
    rcases hb with⟨q,_⟩ | ⟨q,_⟩ | ⟨q,_⟩ | ⟨q,_⟩ | ⟨_,e,f,_⟩
    ·omega
    ·omega
    ·omega
    ·omega
    ·rw[e,aj8]
     rw[k3.2]at f;have hc:hasC x.m.buf (a07 x.m).2.cell=false:=by simpa using f.symm
     rw[hc]
     rfl
   refine⟨⟨h.ca,h.cb,lk.cells.trans h.cel,h.th,rs,h.few,h.part,h.tk,h.sp,?_,fun v hv=>?_,fun _=>hh,(fun q=>by dsimp only at q;omega),(fun q=>by dsimp only at q;omega),h.at4,(fun q=>by dsimp only at q;omega),(fun q=>by dsimp only at q;omega)⟩,⟨rfl,rfl,rfl,rfl,rfl,lk⟩,rfl⟩
   ·dsimp only
    rw[List.length_append,h.wlen,hl]
    rfl
   ·rcases List.mem_append.1 hv with q | q
    ·exact h.wok v q
    ·have q':v=nowN x ws (a07 x.m).2.cell:=by simpa using q
     rw[q'];exact bq9 hW x _
  ·rw[if_neg k3]
   have hl:(a07 x.m).1.buf.length=x.m.buf.length:=by
    rcases hb with⟨_,e⟩ | ⟨_,e⟩ | ⟨_,e,_⟩ | ⟨_,e,_⟩ | ⟨q,e,f,_⟩
    ·rw[e]
    ·rw[e]
    ·rw[e]
    ·rw[e]
    ·rw[e,aj8]
     have hc:hasC x.m.buf (a07 x.m).2.cell=true:=by
      cases hq:hasC x.m.buf (a07 x.m).2.cell with
      | true=>rfl
      | false=>exact absurd ⟨q,by rw[f,hq];rfl⟩ k3
     rw[hc]
     rfl
   by_cases k4:(a07 x.m).2.kind=4
   ·rw[if_pos k4]
    have hh:(a07 x.m).1.how≠0:=by
     rcases tr with⟨_,e,_⟩ | ⟨q,_⟩ | ⟨q,_⟩
     ·exact e
     ·omega
     ·omega
    by_cases hc:(a07 x.m).1.how=1
    ·rw[if_pos hc]
     exact⟨⟨h.ca,h.cb,lk.cells.trans h.cel,h.th,rs,h.few,by dsimp only;omega,h.tk,h.sp,by dsimp only;rw[hl];exact h.wlen,h.wok,(fun q=>by dsimp only at q;omega),fun _=>hh,fun _ _=>hc,(fun q=>by dsimp only at q;omega),(fun _=>by dsimp only;rw[h.at4 (by omega)];have:=h.cb;omega),(fun q=>by dsimp only at q;omega)⟩,⟨rfl,rfl,rfl,rfl,rfl,lk⟩,rfl⟩
    ·rw[if_neg hc]
     exact⟨⟨h.ca,h.cb,lk.cells.trans h.cel,h.th,rs,h.few,by dsimp only;omega,h.tk,h.sp,by dsimp only;rw[hl];exact h.wlen,h.wok,(fun q=>by dsimp only at q;omega),fun _=>hh,(fun _ q=>by dsimp only at q;omega),(fun q=>by dsimp only at q;omega),(fun q=>by dsimp only at q;omega),(fun q=>by dsimp only at q;omega)⟩,⟨rfl,rfl,rfl,rfl,rfl,lk⟩,rfl⟩
   ·rw[if_neg k4]
    have hh:(a07 x.m).1.how=0:=by
     rcases tr with⟨q,_⟩ | ⟨q,_⟩ | ⟨_,_,e,_⟩
     ·omega
     ·omega
     ·exact e
    exact⟨⟨h.ca,h.cb,lk.cells.trans h.cel,h.th,rs,h.few,h.part,h.tk,h.sp,by dsimp only;rw[hl];exact h.wlen,h.wok,fun _=>hh,(fun q=>by dsimp only at q;omega),(fun q=>by dsimp only at q;omega),h.at4,(fun q=>by dsimp only at q;omega),(fun q=>by dsimp only at q;omega)⟩,⟨rfl,rfl,rfl,rfl,rfl,lk⟩,rfl⟩
theorem bm8 (h:InY x) (hp:x.part=5):InY (a97 x ws)/\AlikeY x (a97 x ws)/\(a97 x ws).steps=x.steps:=by
 have h5:=h.at5 hp;unfold a97
 split
 ·split
  ·by_cases hl:x.m.buf.length=0
   ·rw[if_pos hl]
    exact⟨⟨h.ca,h.cb,h.cel,h.th,h.rest,h.few,by dsimp only;omega,h.tk,h.sp,h.wlen,h.wok,(fun q=>by dsimp only at q;omega),fun _=>h.fin (by omega),fun _ _=>h.com (by omega) (by omega),(fun q=>by dsimp only at q;omega),(fun q=>by dsimp only at q;omega),(fun q=>by dsimp only at q;omega)⟩,⟨rfl,rfl,rfl,rfl,rfl,Like.refl _⟩,rfl⟩
   ·rw[if_neg hl]
    exact⟨⟨h.ca,h.cb,h.cel,h.th,h.rest,h.few,by dsimp only;omega,h.tk,h.sp,h.wlen,h.wok,(fun q=>by dsimp only at q;omega),fun _=>h.fin (by omega),fun _ _=>h.com (by omega) (by omega),(fun q=>by dsimp only at q;omega),(fun q=>by dsimp only at q;omega),(fun _=>by dsimp only;omega)⟩,⟨rfl,rfl,rfl,rfl,rfl,Like.refl _⟩,rfl⟩
  ·next hne=>exact⟨⟨h.ca,h.cb,h.cel,h.th,h.rest,h.few,h.part,h.tk,h.sp,h.wlen,h.wok,h.run,h.fin,h.com,(fun q=>by dsimp only at q;omega),(fun _=>by dsimp only;omega),(fun q=>by dsimp only at q;omega)⟩,⟨rfl,rfl,rfl,rfl,rfl,Like.refl _⟩,rfl⟩
 ·exact⟨h,AlikeY.refl x,rfl⟩
theorem bd5 (h:InY x) (hp:x.part=6) (hW:okW ws):InY (ae1 x)/\AlikeY x (ae1 x)/\okW (ah7 x ws)/\(ah7 x ws).length=ws.length:=by
 have h6:=h.at6 hp;have hk:x.at_ / 3<x.m.buf.length:=by omega
 have hw:(x.was.getD (x.at_ / 3) 0)<18446744073709551616:=(ad9 0 a92 x.was h.wok _).2;have hm:x.m.buf.getD (x.at_ / 3) (0,0)=x.m.buf[x.at_ / 3]:=by simp[hk]
 have hv:(x.m.buf.getD (x.at_ / 3) (0,0)).2<18446744073709551616:=by
  rw[hm];exact(h.rest.inv.buf _ (List.getElem_mem hk)).2
 refine⟨?_,⟨rfl,rfl,rfl,rfl,rfl,Like.refl _⟩,?_,?_⟩
 ·unfold ae1
  by_cases q:x.at_+1=3*x.m.buf.length
  ·rw[if_pos q]
   exact⟨h.ca,h.cb,h.cel,h.th,h.rest,h.few,by dsimp only;omega,h.tk,h.sp,h.wlen,h.wok,(fun q=>by dsimp only at q;omega),fun _=>h.fin (by omega),fun _ _=>h.com (by omega) (by omega),(fun q=>by dsimp only at q;omega),(fun q=>by dsimp only at q;omega),(fun q=>by dsimp only at q;omega)⟩
  ·rw[if_neg q]
   exact⟨h.ca,h.cb,h.cel,h.th,h.rest,h.few,by dsimp only;omega,h.tk,h.sp,h.wlen,h.wok,(fun q=>by dsimp only at q;omega),fun _=>h.fin (by omega),fun _ _=>h.com (by omega) (by omega),(fun q=>by dsimp only at q;omega),(fun q=>by dsimp only at q;omega),(fun _=>by dsimp only;omega)⟩
 ·unfold ah7
  split
  ·exact hW.set _ ⟨by omega,by omega⟩
  ·split
   ·exact hW.set _ (ax5 _)
   ·exact hW.set _ ⟨by omega,by omega⟩
 ·unfold ah7
  split
  ·simp
  ·split <;> simp
theorem a94 (h:InY x) (hp:x.part≠9) (hW:okW ws):InY (a09 x ws).1/\AlikeY x (a09 x ws).1/\(a09 x ws).1.steps=x.steps+1/\okW (a09 x ws).2.1/\(a09 x ws).2.1.length=ws.length:=by
 have hP:=h.part;have t:=h.tick;have e8:(a16 x).part=x.part:=rfl;unfold a09 a62
 rcases(by omega:x.part=1∨x.part=2∨x.part=3∨x.part=4∨x.part=5∨x.part=6∨x.part=7∨x.part=8) with e | e | e | e | e | e | e | e
 ·rw[if_pos (e8.trans e)]
  exact⟨⟨h.ca,h.cb,h.cel,h.th,h.rest,h.few,by dsimp only;omega,hW.at _,h.sp,h.wlen,h.wok,fun _=>h.run (by omega),(fun q=>by dsimp only at q;omega),(fun q=>by dsimp only at q;omega),fun _=>h.at4 (by omega),(fun q=>by dsimp only at q;omega),(fun q=>by dsimp only at q;omega)⟩,⟨rfl,rfl,rfl,rfl,rfl,Like.refl _⟩,rfl,hW.set _ (ax5 _),by simp⟩
 ·rw[if_neg (by omega),if_pos (e8.trans e)]
  dsimp only
  split
  ·exact⟨⟨h.ca,h.cb,h.cel,h.th,h.rest,h.few,by dsimp only;omega,h.tk,h.sp,h.wlen,h.wok,fun _=>h.run (by omega),(fun q=>by dsimp only at q;omega),(fun q=>by dsimp only at q;omega),fun _=>h.at4 (by omega),(fun q=>by dsimp only at q;omega),(fun q=>by dsimp only at q;omega)⟩,⟨rfl,rfl,rfl,rfl,rfl,Like.refl _⟩,rfl,hW,rfl⟩
  ·exact⟨t,⟨rfl,rfl,rfl,rfl,rfl,Like.refl _⟩,rfl,hW,rfl⟩
 ·rw[if_neg (by omega),if_neg (by omega),if_pos (e8.trans e)]
  exact⟨⟨h.ca,h.cb,h.cel,h.th,h.rest,h.few,by dsimp only;omega,h.tk,hW.at _,h.wlen,h.wok,fun _=>h.run (by omega),(fun q=>by dsimp only at q;omega),(fun q=>by dsimp only at q;omega),fun _=>h.at4 (by omega),(fun q=>by dsimp only at q;omega),(fun q=>by dsimp only at q;omega)⟩,⟨rfl,rfl,rfl,rfl,rfl,Like.refl _⟩,rfl,hW,rfl⟩
 ·rw[if_neg (by omega),if_neg (by omega),if_neg (by omega),if_pos (e8.trans e)]
  obtain⟨k1,k2,k3⟩:=by8 t (e8.trans e) hW;exact⟨k1,⟨k2.a,k2.b,k2.th,k2.tag,k2.args,k2.lk⟩,k3,hW,rfl⟩
 ·rw[if_neg (by omega),if_neg (by omega),if_neg (by omega),if_neg (by omega),if_pos (e8.trans e)]
  obtain⟨k1,k2,k3⟩:=bm8 (ws:=ws) t (e8.trans e);exact⟨k1,⟨k2.a,k2.b,k2.th,k2.tag,k2.args,k2.lk⟩,k3,hW,rfl⟩
 ·rw[if_neg (by omega),if_neg (by omega),if_neg (by omega),if_neg (by omega),if_neg (by omega),if_pos (e8.trans e)]
  obtain⟨k1,k2,k3,k4⟩:=bd5 t (e8.trans e) hW;exact⟨k1,⟨k2.a,k2.b,k2.th,k2.tag,k2.args,k2.lk⟩,rfl,k3,k4⟩
 ·rw[if_neg (by omega),if_neg (by omega),if_neg (by omega),if_neg (by omega),if_neg (by omega),if_neg (by omega),if_pos (e8.trans e)]
  exact⟨⟨h.ca,h.cb,h.cel,h.th,h.rest,h.few,by dsimp only;omega,h.tk,h.sp,h.wlen,h.wok,(fun q=>by dsimp only at q;omega),fun _=>h.fin (by omega),(fun _ q=>by dsimp only at q;omega),(fun q=>by dsimp only at q;omega),(fun q=>by dsimp only at q;omega),(fun q=>by dsimp only at q;omega)⟩,⟨rfl,rfl,rfl,rfl,rfl,Like.refl _⟩,rfl,hW.set _ (ax5 _),by simp⟩
 ·rw[if_neg (by omega),if_neg (by omega),if_neg (by omega),if_neg (by omega),if_neg (by omega),if_neg (by omega),if_neg (by omega)]
  exact⟨⟨h.ca,h.cb,h.cel,h.th,h.rest,h.few,by dsimp only;omega,h.tk,h.sp,h.wlen,h.wok,(fun q=>by dsimp only at q;omega),fun _=>h.fin (by omega),(fun _ q=>by dsimp only at q;omega),(fun q=>by dsimp only at q;omega),(fun q=>by dsimp only at q;omega),(fun q=>by dsimp only at q;omega)⟩,⟨rfl,rfl,rfl,rfl,rfl,Like.refl _⟩,rfl,hW.set _ (ax5 _),by simp⟩
end
end Go.Proofs.YtipakfjpfjehmaaGreatDoor.Ww
namespace Go.Proofs.YtipakfjpfjehmaaGreatDoor.Rr
open Go.ChangeShapes Go.WideShapes Go.ChangeAt Go.RowKit Num
theorem a17 {ws:List Int} {k:Nat} {v j:Int} (hj:0<=j) (hk:j≠(k:Int)):wordAt (ws.set k v) j=wordAt ws j:=by
 unfold wordAt;rw[zG,zG,List.getElem?_set_ne (by omega)]
end Go.Proofs.YtipakfjpfjehmaaGreatDoor.Rr
namespace Go.Proofs.YtipakfjpfjehmaaGreatDoor.Ww
open Go.ChangeShapes Go.WideShapes Go.ChangeAt Go.RowKit Num Rr
def a38 (b:Int) (buf:Wr) (k:Nat):Int:=3+b+3*(buf.getD (k / 3) (0,0)).1+(if k % 3=0 then 2 else if k % 3=1 then 0 else 1)
def storeV (st:Int) (buf:Wr) (was:List Nat) (k:Nat):Int:=if k % 3=0 then ((was.getD (k / 3) 0:Nat):Int) else if k % 3=1 then Md.Cv.passV st else (((buf.getD (k / 3) (0,0)).2:Nat):Int)
def a88 (b st:Int) (buf:Wr) (was:List Nat):Nat->List Int->List Int
 | 0,ws=>ws
 | k+1,ws=>(a88 b st buf was k ws).set (a38 b buf k).toNat (storeV st buf was k)
theorem aC3 (x:Wx) (ws:List Int):ah7 x ws=ws.set (a38 x.b x.m.buf x.at_).toNat (storeV x.stamp x.m.buf x.was x.at_):=by
 unfold ah7 a38 storeV atC
 by_cases h0:x.at_ % 3=0
 ·rw[if_pos h0,if_pos h0,if_pos h0]
 ·rw[if_neg h0,if_neg h0,if_neg h0]
  by_cases h1:x.at_ % 3=1
  ·rw[if_pos h1,if_pos h1,if_pos h1]
  ·rw[if_neg h1,if_neg h1,if_neg h1]
section
variable {b st:Int} {buf:Wr} {was:List Nat} {ws:List Int}
theorem aG2 (n:Nat):(a88 b st buf was n ws).length=ws.length:=by
 induction n with
 | zero=>rfl
 | succ k ih=>unfold a88;rw[List.length_set,ih]
theorem au5 {p:Int} (hp:0<=p) (hb:0<=b) (hc:∀ k,k<buf.length->0<=(buf.getD k (0,0)).1):∀ n,n<=3*buf.length->(∀ k,k<n->p≠a38 b buf k)->wordAt (a88 b st buf was n ws) p=wordAt ws p
 | 0,_,_=>rfl
 | n+1,hn,h=>by
  unfold a88;have h1:=h n (Nat.lt_succ_self n);have h2:0<=a38 b buf n:=by
   have:=hc (n / 3) (by omega);unfold a38
   split
   ·omega
   ·split <;> omega
  rw[a17 hp (by omega)];exact au5 hp hb hc n (by omega) (fun k hk=>h k (by omega))
theorem aC2 {k:Nat} (hb:0<=b) (hc:∀ k,k<buf.length->0<=(buf.getD k (0,0)).1) (hl:a38 b buf k<(ws.length:Int)):∀ n,n<=3*buf.length->k<n->(∀ i,k<i->i<n->a38 b buf k≠a38 b buf i)->wordAt (a88 b st buf was n ws) (a38 b buf k)=storeV st buf was k
 | 0,_,h,_=>absurd h (zI _)
 | n+1,hn,h,hne=>by
  unfold a88;have pos:∀ i,i<3*buf.length->0<=a38 b buf i:=fun i hi=>by
   have:=hc (i / 3) (by omega);unfold a38
   split
   ·omega
   ·split <;> omega
  by_cases e:k=n
  ·subst e
   unfold wordAt;rw[zG,List.getElem?_set_self (by rw[aG2];have:=pos k (by omega);omega)]
   rfl
  ·have h1:=pos n (by omega)
   have h2:=pos k (by omega);have h3:=hne n (by omega) (Nat.lt_succ_self n);rw[a17 h2 (by omega)];exact aC2 hb hc hl n (by omega) (by omega) (fun i hi hi2=>hne i hi (by omega))
theorem bi7 (h:(a05 buf).Nodup) {i j:Nat} (hi:i<buf.length) (hj:j<buf.length) (e:(buf.getD i (0,0)).1=(buf.getD j (0,0)).1):i=j:=by
 have hi':i<(a05 buf).length:=by unfold a05;simpa using hi
 have hj':j<(a05 buf).length:=by unfold a05;simpa using hj
 have e1:(a05 buf)[i]=(buf.getD i (0,0)).1:=by simp[a05,hi]
 have e2:(a05 buf)[j]=(buf.getD j (0,0)).1:=by simp[a05,hj]
 have hpw:=List.pairwise_iff_getElem.1 h
 rcases Nat.lt_trichotomy i j with q | q | q
 ·exact absurd (show (a05 buf)[i]=(a05 buf)[j] by rw[e1,e2,e]) (hpw i j hi' hj' q)
 ·exact q
 ·exact absurd (show (a05 buf)[j]=(a05 buf)[i] by rw[e1,e2,e]) (hpw j i hj' hi' q)
theorem ar0 (h:(a05 buf).Nodup) {i j:Nat} (hi:i<3*buf.length) (hj:j<3*buf.length) (e:a38 b buf i=a38 b buf j):i=j:=by
 unfold a38 at e;have e3:(buf.getD (i / 3) (0,0)).1=(buf.getD (j / 3) (0,0)).1/\i % 3=j % 3:=by
  generalize (buf.getD (i / 3) (0,0)).1=u at e
  generalize (buf.getD (j / 3) (0,0)).1=v at e
  have hi3:i % 3=0∨i % 3=1∨i % 3=2:=by omega
  have hj3:j % 3=0∨j % 3=1∨j % 3=2:=by omega
  rcases hi3 with q | q | q <;> rcases hj3 with r | r | r <;> simp[q,r]at e ⊢ <;> omega
 have:=bi7 h (i:=i / 3) (j:=j / 3) (by omega) (by omega) e3.1;omega
theorem b00 (h:(a05 buf).Nodup) (hb:0<=b) (hc:∀ k,k<buf.length->0<=(buf.getD k (0,0)).1) {k:Nat} (hk:k<3*buf.length) (hl:a38 b buf k<(ws.length:Int)):wordAt (a88 b st buf was (3*buf.length) ws) (a38 b buf k)=storeV st buf was k :=
 aC2 hb hc hl _ (zE _) hk (fun i hi hi2 e=>by have:=ar0 h hk hi2 e;omega)
end
end Go.Proofs.YtipakfjpfjehmaaGreatDoor.Ww
namespace Go.Proofs.YtipakfjpfjehmaaGreatDoor
open Go.ChangeShapes Go.WideShapes Go.ChangeAt Go.RowKit Num
theorem bz2 (s:List Nat) (c:Int) (x:Nat) {i:Nat} (hi:i<s.length):(Sx.setL s c x).getD i 0=if c=(i:Int) then fixB x else s.getD i 0:=by
 unfold Sx.setL
 by_cases hc:c=(i:Int)
 ·subst hc
  rw[if_pos (by rw[Sx.hasN_nat];exact zT hi),if_pos rfl,Int.toNat_natCast]
  simp[List.getD_eq_getElem?_getD,hi]
 ·rw[if_neg hc]
  split
  ·rename_i hh
   obtain⟨k,rfl,_⟩:=Sx.hasN_pos hh;have hk:¬ k=i:=fun e=>hc (by rw[e])
   simp[List.getD_eq_getElem?_getD,hk]
  ·rfl
theorem aQ6:∀ (ts:Wr) (s:List Nat) {i:Nat},i<s.length->(a05 ts).Nodup->(Sx.foldL s ts).getD i 0=if hasC ts (i:Int) then fixB (getC ts (i:Int)) else s.getD i 0
 | [],s,i,_,_=>by
  rw[if_neg (by simp[hasC,idx])]
  rfl
 | t::ts,s,i,hi,hn=>by
  show (Sx.foldL (Sx.setL s t.1 t.2) ts).getD i 0=_
  have hn2:t.1∉a05 ts/\(a05 ts).Nodup:=by
   have:a05 (t::ts)=t.1::a05 ts:=rfl;rw[this,List.nodup_cons]at hn;exact hn
  rw[aQ6 ts _ (by rw[Sx.setL_len];exact hi) hn2.2,bz2 s t.1 t.2 hi,ad1,ai3]
  by_cases hc:t.1=(i:Int)
  ·have hh:hasC ts (i:Int)=false:=by
    cases hq:hasC ts (i:Int) with
    | false=>rfl
    | true=>exact absurd (aj6.1 hq) (by rw[<- hc];exact hn2.1)
   rw[hh,if_pos hc,if_neg Bool.false_ne_true,zT hc,Bool.true_or,if_pos rfl,if_pos hc]
  ·rw[if_neg hc,zU hc,Bool.false_or,if_neg hc]
end Go.Proofs.YtipakfjpfjehmaaGreatDoor
namespace Go.Proofs.YtipakfjpfjehmaaGreatDoor.Ww
open Go.ChangeShapes Go.WideShapes Go.ChangeAt Go.RowKit Num Rr
theorem ai1 {x:Wx} (h:InY x):∀ k,k<x.m.buf.length->0<=(x.m.buf.getD k (0,0)).1/\(x.m.buf.getD k (0,0)).1<x.a:=fun k hk=>by
 have e:x.m.buf.getD k (0,0)=x.m.buf[k]:=by simp[hk]
 rw[e,<- h.cel];exact h.rest.cel _ (List.getElem_mem hk)
theorem ak2 {x:Wx} (h:InY x) {k:Nat} (hk:k<3*x.m.buf.length):3+x.b<=a38 x.b x.m.buf k/\a38 x.b x.m.buf k<plY x:=by
 have:=ai1 h (k / 3) (by omega);unfold a38 plY
 split
 ·omega
 ·split <;> omega
section
variable {ws0 ws:List Int} {s:List Nat} {m0:Mac} {x:Wx}
theorem am1 (hl:0<ws0.length) (v:Int):wordAt (ws0.set 0 v) 0=v:=by
 unfold wordAt;rw[zG,show Int.toNat 0=0 from rfl,List.getElem?_set_self hl]
 rfl
theorem ar7 {l:List Int} {k:Nat} (hk:k<l.length) (v:Int):wordAt (l.set k v) (k:Int)=v:=by
 unfold wordAt;rw[zG,Int.toNat_natCast,List.getElem?_set_self hk]
 rfl
theorem aP8 {x:Wx} (h:InY x) {l:List Int} {c j:Int} (hc:0<=c) (hj:0<=j/\j<3) (hn:c∉a05 x.m.buf) (n:Nat) (hl:n<=3*x.m.buf.length):wordAt (a88 x.b x.stamp x.m.buf x.was n l) (3+x.b+3*c+j)=wordAt l (3+x.b+3*c+j):=by
 have hb:=h.cb;refine au5 (by omega) (by omega) (fun k hk=>(ai1 h k hk).1) n hl (fun k hk e=>hn ?_);have hk3:k / 3<x.m.buf.length:=by omega
 have e1:(x.m.buf.getD (k / 3) (0,0)).1=c:=by
  unfold a38 at e
  generalize (x.m.buf.getD (k / 3) (0,0)).1=u at e
  have h3:k % 3=0∨k % 3=1∨k % 3=2:=by omega
  rcases h3 with q | q | q <;> simp[q]at e <;> omega
 rw[<- e1,show x.m.buf.getD (k / 3) (0,0)=x.m.buf[k / 3] by simp[hk3]];exact List.mem_map_of_mem (List.getElem_mem hk3)
theorem bs8 {x:Wx} (h:InY x) {l:List Int} (hl:(l.length:Int)=plY x) {k:Nat} (hk:k<x.m.buf.length):wordAt (a88 x.b x.stamp x.m.buf x.was (3*x.m.buf.length) l) (3+x.b+3*(x.m.buf.getD k (0,0)).1)=Md.Cv.passV x.stamp/\wordAt (a88 x.b x.stamp x.m.buf x.was (3*x.m.buf.length) l) (3+x.b+3*(x.m.buf.getD k (0,0)).1+1)=(((x.m.buf.getD k (0,0)).2:Nat):Int)/\wordAt (a88 x.b x.stamp x.m.buf x.was (3*x.m.buf.length) l) (3+x.b+3*(x.m.buf.getD k (0,0)).1+2)=((x.was.getD k 0:Nat):Int):=by
 have hb:=h.cb;have A:∀ i,i<3*x.m.buf.length->wordAt (a88 x.b x.stamp x.m.buf x.was (3*x.m.buf.length) l) (a38 x.b x.m.buf i)=storeV x.stamp x.m.buf x.was i:=fun i hi=>b00 h.rest.nod (by omega) (fun k hk=>(ai1 h k hk).1) hi (by rw[hl];exact(ak2 h hi).2)
 have a0:=A (3*k+1) (by omega);have a1:=A (3*k+2) (by omega);have a2:=A (3*k) (by omega);have d0:(3*k+1) / 3=k:=by omega
 have d1:(3*k+2) / 3=k:=by omega
 have d2:(3*k) / 3=k:=by omega
 have m0:(3*k+1) % 3=1:=by omega
 have m1:(3*k+2) % 3=2:=by omega
 have m2:(3*k) % 3=0:=by omega
 unfold a38 storeV at a0 a1 a2;rw[d0,m0]at a0;rw[d1,m1]at a1;rw[d2,m2]at a2
 simp at a0 a1 a2
 exact⟨a0,a1,a2⟩
end
end Go.Proofs.YtipakfjpfjehmaaGreatDoor.Ww
namespace Go.Proofs.YtipakfjpfjehmaaGreatDoor.Rr
open Go.ChangeShapes Go.WideShapes Go.ChangeAt Go.RowKit Num
def verW (ws:List Int) (b c:Int):Int:=wordAt ws (3+b+3*c)
structure SeesAt (ws:List Int) (a b st:Int) (s:List Nat):Prop where
 now:∀ c,0<=c->c<a->verW ws b c<=st->fixB (wordAt ws (3+b+3*c+1)).toNat=Sx.getV s c
 was:∀ c,0<=c->c<a->st<verW ws b c->fixB (wordAt ws (3+b+3*c+2)).toNat=Sx.getV s c
def aB9 (a b st:Int) (ws ws':List Int):Prop:=∀ c,0<=c->c<a->verW ws' b c=verW ws b c∨st<verW ws' b c
theorem aB9.refl (a b st:Int) (ws:List Int):aB9 a b st ws ws:=fun _ _ _=>.inl rfl
structure Rg (s:List Nat) (m0:Mac) (x:Rx) (ws:List Int):Prop where
 mc:x.part=1->x.m=m0
 r1:0<=x.cell->x.sub=1∨x.sub=2->x.ver<=x.stamp/\(verW ws x.b x.cell=x.ver∨x.stamp<verW ws x.b x.cell)
 r2:0<=x.cell->x.sub=2->verW ws x.b x.cell=x.ver->fixB x.now.toNat=Sx.getV s x.cell
 r3:0<=x.cell->x.sub=3->x.stamp<verW ws x.b x.cell
 mn:x.part≠1->x.cell<0->∃ j,x.m=runN s j m0
 mr:0<=x.cell->∃ j,x.m=(a07 (runN s j m0)).1/\(a07 (runN s j m0)).2.kind=1/\(a07 (runN s j m0)).2.cell=x.cell
section
variable {ws ws':List Int} {s:List Nat} {m0:Mac} {x:Rx}
theorem Rg.tick (h:Rg s m0 x ws):Rg s m0 (a23 x) ws:=⟨h.mc,h.r1,h.r2,h.r3,h.mn,h.mr⟩
theorem Rg.env (h:Rg s m0 x ws) (hr:aB9 x.a x.b x.stamp ws ws') (hc:x.cell<x.a):Rg s m0 x ws':=by
 refine⟨h.mc,fun h0 q=>?_,fun h0 q e=>?_,fun h0 q=>?_,h.mn,h.mr⟩
 ·obtain⟨k1,k2⟩:=h.r1 h0 q
  refine⟨k1,?_⟩
  rcases hr x.cell h0 hc with e | e
  ·rw[e];exact k2
  ·exact .inr e
 ·have k1:=(h.r1 h0 (.inr q)).1
  rcases hr x.cell h0 hc with e2 | e2
  ·exact h.r2 h0 q (e2 ▸ e)
  ·omega
 ·rcases hr x.cell h0 hc with e | e
  ·rw[e];exact h.r3 h0 q
  ·exact e
theorem Rg.read (h:Rg s m0 x ws) (hs:SeesAt ws x.a x.b x.stamp s) (hc:0<=x.cell) (hca:x.cell<x.a) (hp:x.part≠1) (h1:1<=x.sub) (h3:x.sub<=3):Rg s m0 (a28 x ws) ws:=by
 obtain⟨j,j1,j2,j3⟩:=h.mr hc;have e0:atW x 0=3+x.b+3*x.cell:=by unfold atW;omega
 have e1:atW x 1=3+x.b+3*x.cell+1:=rfl;have e2:atW x 2=3+x.b+3*x.cell+2:=rfl;have G:∀ v,v=Sx.getV s x.cell->a65 x.m v=runN s (j+1) m0:=fun v hv=>by
  rw[ai7,at3 j2,j3,<- j1,hv]
 have nn:¬ (0:Int)<=-1:=by omega
 unfold a28;rw[if_neg (by omega)]
 by_cases q1:x.sub=1
 ·rw[if_pos q1]
  obtain⟨k1,k2⟩:=h.r1 hc (.inl q1);refine⟨fun q=>absurd q hp,fun _ _=>⟨k1,k2⟩,fun _ _ e=>?_,(fun _ q=>by cases q),fun _ q=>absurd hc (Int.not_le.2 q),fun _=>⟨j,j1,j2,j3⟩⟩
  show fixB (wordAt ws (atW x 1)).toNat=_
  rw[e1];have e':verW ws x.b x.cell=x.ver:=e;exact hs.now x.cell hc hca (by rw[e'];exact k1)
 ·rw[if_neg q1]
  by_cases q2:x.sub=2
  ·rw[if_pos q2]
   obtain⟨k1,k2⟩:=h.r1 hc (.inr q2)
   by_cases e:wordAt ws (atW x 0)=x.ver
   ·rw[if_pos e]
    rw[e0]at e;refine⟨fun q=>absurd q hp,fun q=>absurd q nn,fun q=>absurd q nn,fun q=>absurd q nn,fun _ _=>⟨j+1,G _ (h.r2 hc q2 e)⟩,fun q=>absurd q nn⟩
   ·rw[if_neg e]
    rw[e0]at e;refine⟨fun q=>absurd q hp,(fun _ q=>by rcases q with q | q <;> cases q),(fun _ q=>by cases q),fun _ _=>?_,fun _ q=>absurd hc (Int.not_le.2 q),fun _=>⟨j,j1,j2,j3⟩⟩
    rcases k2 with k2 | k2
    ·exact absurd k2 e
    ·exact k2
  ·rw[if_neg q2]
   have q3:x.sub=3:=by omega
   refine⟨fun q=>absurd q hp,fun q=>absurd q nn,fun q=>absurd q nn,fun q=>absurd q nn,fun _ _=>⟨j+1,G _ ?_⟩,fun q=>absurd q nn⟩;rw[e2];exact hs.was x.cell hc hca (h.r3 hc q3)
theorem Rg.run (h:Rg s m0 x ws) (hI:InX x) (hp:x.part=2) (hs:SeesAt ws x.a x.b x.stamp s):Rg s m0 (runX (a23 x) ws).1 ws:=by
 obtain⟨h0,hq⟩:=hI.p2 hp;have n1:¬ x.part=1:=by omega
 unfold runX
 by_cases hc:0<=x.cell
 ·rw[if_pos (show 0<=(a23 x).cell from hc)]
  have hq2:1<=x.sub/\x.sub<=3:=by
   rcases hq with q | q
   ·omega
   ·exact⟨q.2.2.1,q.2.2.2⟩
  exact h.tick.read hs hc hI.toIn0.celB.2 n1 hq2.1 hq2.2
 ·rw[if_neg (show ¬ 0<=(a23 x).cell from hc)]
  obtain⟨j,hj⟩:=h.mn n1 (by omega)
  by_cases k1:(a07 x.m).2.kind=1
  ·rw[if_pos (show (a07 (a23 x).m).2.kind=1 from k1)]
   have hr:a28 (begX (a23 x)) ws={ begX (a23 x) with ver:=wordAt ws (atW (begX (a23 x)) 0),sub:=if (begX (a23 x)).stamp<wordAt ws (atW (begX (a23 x)) 0) then 3 else 1 }:=by
    unfold a28;rw[if_pos (show (begX (a23 x)).sub=0 from rfl)]
   have e0:atW (begX (a23 x)) 0=3+x.b+3*(a07 x.m).2.cell:=by show 3+x.b+3*(a07 x.m).2.cell+0=_;omega
   rw[hr,e0];refine⟨fun q=>absurd q n1,fun _ q=>?_,fun _ q=>?_,fun _ q=>?_,fun _ q=>?_,fun _=>⟨j,?_,?_,?_⟩⟩
   ·dsimp only at q ⊢
    split at q
    ·omega
    ·next z=>exact⟨Int.not_lt.1 z,.inl rfl⟩
   ·dsimp only at q
    split at q <;> omega
   ·dsimp only at q
    split at q
    ·next z=>exact z
    ·omega
   ·exfalso
    have ht:=a77 hI.inv (by rcases hq with q' | q';exact q'.2;omega) h0
    rcases ht.2 with⟨k4,_⟩ | ⟨_,e1,e2,_⟩ | ⟨k0,_⟩
    ·omega
    ·have q':(a07 x.m).2.cell<0:=q
     omega
    ·omega
   ·show (a07 x.m).1=_
    rw[hj]
   ·rw[<- hj];exact k1
   ·show _=(a07 x.m).2.cell
    rw[hj]
  ·rw[if_neg (show ¬ (a07 (a23 x).m).2.kind=1 from k1)]
   have E:(a07 x.m).1=runN s (j+1) m0:=by rw[ai7,<- hj,ag4 k1]
   by_cases k4:(a07 x.m).2.kind=4
   ·rw[if_pos (show (a07 (a23 x).m).2.kind=4 from k4)]
    exact⟨(fun q=>by cases q),fun q=>absurd q hc,fun q=>absurd q hc,fun q=>absurd q hc,fun _ _=>⟨j+1,E⟩,fun q=>absurd q hc⟩
   ·rw[if_neg (show ¬ (a07 (a23 x).m).2.kind=4 from k4)]
    exact⟨(fun q=>by cases q),fun q=>absurd q hc,fun q=>absurd q hc,fun q=>absurd q hc,fun _ _=>⟨j+1,E⟩,fun q=>absurd q hc⟩
theorem bl6 (h1:x.part=1) (hI:InX x) (hm:x.m=m0) (v:Int):Rg s m0 { a23 x with stamp:=v,part:=2 } ws:=by
 have hc:¬ 0<=x.cell:=by have:=(hI.p1 h1).2.1;omega
 exact⟨(fun q=>by cases q),fun q=>absurd q hc,fun q=>absurd q hc,fun q=>absurd q hc,fun _ _=>⟨0,hm⟩,fun q=>absurd q hc⟩
end
end Go.Proofs.YtipakfjpfjehmaaGreatDoor.Rr
namespace Go.Proofs.YtipakfjpfjehmaaGreatDoor.Ww
open Go.ChangeShapes Go.WideShapes Go.ChangeAt Go.RowKit Num Rr
structure CellOk (ws:List Int) (b:Int) (k:Nat) (S:Nat->List Nat) (c:Int):Prop where
 pos:0<=verW ws b c
 ver:verW ws b c<=(k:Int)
 now:∀ j:Nat,verW ws b c<=(j:Int)->j<=k->fixB (wordAt ws (3+b+3*c+1)).toNat=Sx.getV (S j) c
 was:∀ j:Nat,verW ws b c=(j:Int)+1->fixB (wordAt ws (3+b+3*c+2)).toNat=Sx.getV (S j) c
def a79 (ws:List Int) (a b:Int) (k:Nat) (S:Nat->List Nat):Prop:=∀ c,0<=c->c<a->CellOk ws b k S c
theorem a79.sees {ws:List Int} {a b:Int} {k st:Nat} {S:Nat->List Nat} (h:a79 ws a b k S) (h1:st<=k) (h2:k<=st+1):SeesAt ws a b (st:Int) (S st):=by
 refine⟨fun c h0 hc hv=>(h c h0 hc).now st hv h1,fun c h0 hc hv=>?_⟩;have q:=h c h0 hc;have:=q.ver;exact q.was st (by omega)
theorem a79.same {ws ws':List Int} {a b:Int} {k:Nat} {S:Nat->List Nat} (h:a79 ws a b k S) (e:∀ p,3+b<=p->wordAt ws' p=wordAt ws p):a79 ws' a b k S:=fun c h0 hc=>by
 obtain⟨q1,q2,q3,q4⟩:=h c h0 hc;have e0:verW ws' b c=verW ws b c:=e _ (by omega);exact⟨by rw[e0];exact q1,by rw[e0];exact q2,fun j hj hk=>by rw[e _ (by omega)];exact q3 j (by rw[<- e0];exact hj) hk,fun j hj=>by rw[e _ (by omega)];exact q4 j (by rw[<- e0];exact hj)⟩
section
variable {x:Wx} {wsb ws:List Int} {k:Nat} {S:Nat->List Nat}
theorem a74 {k:Nat} (h:k<4611686018427387904):Md.Cv.passV (k:Int)=(k:Int)+1:=by
 unfold Md.Cv.passV;rw[IntKind.wrap_u64];omega
theorem bz8 (b:Int) (buf:Wr) (i:Nat):a38 b buf (3*i)=3+b+3*(buf.getD i (0,0)).1+2/\a38 b buf (3*i+1)=3+b+3*(buf.getD i (0,0)).1/\a38 b buf (3*i+2)=3+b+3*(buf.getD i (0,0)).1+1:=by
 have d0:(3*i) / 3=i:=by omega
 have d1:(3*i+1) / 3=i:=by omega
 have d2:(3*i+2) / 3=i:=by omega
 have m0:(3*i) % 3=0:=by omega
 have m1:(3*i+1) % 3=1:=by omega
 have m2:(3*i+2) % 3=2:=by omega
 unfold a38;rw[d0,d1,d2,m0,m1,m2]
 simp
theorem bz9 (st:Int) (buf:Wr) (was:List Nat) (i:Nat):storeV st buf was (3*i)=((was.getD i 0:Nat):Int)/\storeV st buf was (3*i+1)=Md.Cv.passV st/\storeV st buf was (3*i+2)=(((buf.getD i (0,0)).2:Nat):Int):=by
 have d0:(3*i) / 3=i:=by omega
 have d2:(3*i+2) / 3=i:=by omega
 have m0:(3*i) % 3=0:=by omega
 have m1:(3*i+1) % 3=1:=by omega
 have m2:(3*i+2) % 3=2:=by omega
 unfold storeV;rw[d0,d2,m0,m1,m2]
 simp
theorem aP6 (h:InY x) (hl:(wsb.length:Int)=plY x) {n i:Nat} (hn:n<=3*x.m.buf.length) (hi:i<n):wordAt (a88 x.b x.stamp x.m.buf x.was n wsb) (a38 x.b x.m.buf i)=storeV x.stamp x.m.buf x.was i :=
 aC2 (by have:=h.cb;omega) (fun k hk=>(ai1 h k hk).1) (by rw[hl];exact(ak2 h (by omega)).2) n hn hi (fun j hj hj2 e=>by have:=ar0 h.rest.nod (i:=i) (j:=j) (by omega) (by omega) e;omega)
theorem aP7 (h:InY x) {n i:Nat} (hn:n<=3*x.m.buf.length) (hi:n<=i) (hi2:i<3*x.m.buf.length):wordAt (a88 x.b x.stamp x.m.buf x.was n wsb) (a38 x.b x.m.buf i)=wordAt wsb (a38 x.b x.m.buf i) :=
 au5 (by have:=(ak2 h hi2).1;have:=h.cb;omega) (by have:=h.cb;omega) (fun k hk=>(ai1 h k hk).1) n hn (fun j hj e=>by have:=ar0 h.rest.nod (i:=i) (j:=j) hi2 (by omega) e;omega)
theorem bn0 (h:InY x) (hl:(wsb.length:Int)=plY x) (hk:x.stamp=(k:Int)) (hk2:k<4611686018427387904) (hC:a79 wsb x.a x.b k S) (hw:x.was=(a05 x.m.buf).map (Sx.getV (S k))) (hok:okS (S k)) {n:Nat} (hn:n<=3*x.m.buf.length) (e:∀ p,3+x.b<=p->wordAt ws p=wordAt (a88 x.b x.stamp x.m.buf x.was n wsb) p):SeesAt ws x.a x.b (k:Int) (S k):=by
 have hb:=h.cb;have hp:Md.Cv.passV x.stamp=(k:Int)+1:=by rw[hk];exact a74 hk2
 have hcell:∀ c,0<=c->c<x.a->(verW ws x.b c<=(k:Int)->fixB (wordAt ws (3+x.b+3*c+1)).toNat=Sx.getV (S k) c)/\((k:Int)<verW ws x.b c->fixB (wordAt ws (3+x.b+3*c+2)).toNat=Sx.getV (S k) c):=fun c h0 hc=>by
  have ev:verW ws x.b c=wordAt (a88 x.b x.stamp x.m.buf x.was n wsb) (3+x.b+3*c):=e _ (by omega);have en:wordAt ws (3+x.b+3*c+1)=wordAt (a88 x.b x.stamp x.m.buf x.was n wsb) (3+x.b+3*c+1):=e _ (by omega);have ew:wordAt ws (3+x.b+3*c+2)=wordAt (a88 x.b x.stamp x.m.buf x.was n wsb) (3+x.b+3*c+2):=e _ (by omega);have q:=hC c h0 hc
  by_cases hm:c∈a05 x.m.buf
  ·obtain⟨t,ht,et⟩:=List.mem_map.1 hm
   obtain⟨i,hi,e2⟩:=List.getElem_of_mem ht;have e3:(x.m.buf.getD i (0,0)).1=c:=by simp[hi,e2,et]
   obtain⟨p0,p1,p2⟩:=bz8 x.b x.m.buf i;obtain⟨s0,s1,s2⟩:=bz9 x.stamp x.m.buf x.was i;rw[e3]at p0 p1 p2
   by_cases hv:3*i+1<n
   ·have d1:=aP6 (wsb:=wsb) h hl hn hv
    have d0:=aP6 (wsb:=wsb) h hl hn (i:=3*i) (by omega);rw[p1,s1,hp]at d1;rw[p0,s0]at d0;refine⟨fun y=>by rw[ev,d1]at y;omega,fun _=>?_⟩;rw[ew,d0,Int.toNat_natCast,hw];have hi2:i<(a05 x.m.buf).length:=by unfold a05;simpa using hi
    have:((a05 x.m.buf).map (Sx.getV (S k))).getD i 0=Sx.getV (S k) c:=by
     have:(a05 x.m.buf)[i]=c:=by simp[a05,e2,et]
     simp[hi2,this]
    rw[this];exact(aM3 hok c).1
   ·have d1:=aP7 (wsb:=wsb) h hn (i:=3*i+1) (by omega) (by omega)
    have d2:=aP7 (wsb:=wsb) h hn (i:=3*i+2) (by omega) (by omega);rw[p1]at d1;rw[p2]at d2;have qv:=q.ver;refine⟨fun _=>?_,fun y=>?_⟩
    ·rw[en,d2]
     exact q.now k qv (zE _)
    ·rw[ev,d1]at y
     have qv':wordAt wsb (3+x.b+3*c)<=(k:Int):=qv;omega
  ·have o:∀ j,0<=j->j<3->wordAt (a88 x.b x.stamp x.m.buf x.was n wsb) (3+x.b+3*c+j)=wordAt wsb (3+x.b+3*c+j):=fun j j0 j1=>aP8 h h0 ⟨j0,j1⟩ hm n hn
   have o0:=o 0 (by omega) (by omega);rw[Int.add_zero]at o0;have qv:verW wsb x.b c<=(k:Int):=q.ver;refine⟨fun _=>?_,fun y=>?_⟩
   ·rw[en,o 1 (by omega) (by omega)]
    exact q.now k qv (zE _)
   ·rw[ev,o0]at y
    have qv':wordAt wsb (3+x.b+3*c)<=(k:Int):=qv;omega
 exact⟨fun c h0 hc=>(hcell c h0 hc).1,fun c h0 hc=>(hcell c h0 hc).2⟩
theorem aO0 (h:InY x) (hp:x.part=6) {st:Int} (hs:st<Md.Cv.passV x.stamp) (ws:List Int) (hl:(ws.length:Int)=plY x):aB9 x.a x.b st ws (ah7 x ws):=fun c h0 hc=>by
 have hb:=h.cb;have h6:=h.at6 hp;rw[aC3];have hin:=ak2 h h6
 by_cases e:3+x.b+3*c=a38 x.b x.m.buf x.at_
 ·unfold verW
  rw[e];have hv:storeV x.stamp x.m.buf x.was x.at_=Md.Cv.passV x.stamp:=by
   unfold a38 at e;unfold storeV
   generalize (x.m.buf.getD (x.at_ / 3) (0,0)).1=u at e
   have h3:x.at_ % 3=0∨x.at_ % 3=1∨x.at_ % 3=2:=by omega
   rcases h3 with q | q | q
   ·simp[q]at e;omega
   ·simp[q]
   ·simp[q]at e;omega
  right
  have:wordAt (ws.set (a38 x.b x.m.buf x.at_).toNat (storeV x.stamp x.m.buf x.was x.at_)) (a38 x.b x.m.buf x.at_)=Md.Cv.passV x.stamp:=by
   rw[<- hv];have:=ar7 (l:=ws) (k:=(a38 x.b x.m.buf x.at_).toNat) (by omega) (storeV x.stamp x.m.buf x.was x.at_);rw[show (((a38 x.b x.m.buf x.at_).toNat:Nat):Int)=a38 x.b x.m.buf x.at_ by omega]at this;exact this
  rw[this];exact hs
 ·left
  unfold verW;exact a17 (by omega) (by omega)
theorem b82 (h:InY x) (hl:(wsb.length:Int)=plY x) (hk:x.stamp=(k:Int)) (hk2:k<4611686018427387904) (hC:a79 wsb x.a x.b k S) (hw:x.was=(a05 x.m.buf).map (Sx.getV (S k))) (hok:okS (S k)) (hln:((S k).length:Int)=x.a) (e:∀ p,3+x.b<=p->wordAt ws p=wordAt (a88 x.b x.stamp x.m.buf x.was (3*x.m.buf.length) wsb) p):a79 ws x.a x.b (k+1) (fun j=>if j=k+1 then Sx.foldL (S k) x.m.buf else S j):=fun c h0 hc=>by
 have hb:=h.cb;have hp:Md.Cv.passV x.stamp=(k:Int)+1:=by rw[hk];exact a74 hk2
 obtain⟨cn,rfl⟩:=Int.eq_ofNat_of_zero_le h0;have ev:verW ws x.b (cn:Int)=wordAt (a88 x.b x.stamp x.m.buf x.was (3*x.m.buf.length) wsb) (3+x.b+3*(cn:Int)):=e _ (by omega);have en:wordAt ws (3+x.b+3*(cn:Int)+1)=wordAt (a88 x.b x.stamp x.m.buf x.was (3*x.m.buf.length) wsb) (3+x.b+3*(cn:Int)+1):=e _ (by omega);have ew:wordAt ws (3+x.b+3*(cn:Int)+2)=wordAt (a88 x.b x.stamp x.m.buf x.was (3*x.m.buf.length) wsb) (3+x.b+3*(cn:Int)+2):=e _ (by omega);have q:=hC (cn:Int) h0 hc;have hcs:cn<(S k).length:=by omega
 have gv:∀ l:List Nat,l.length=(S k).length->Sx.getV l (cn:Int)=l.getD cn 0:=fun l hll=>by
  unfold Sx.getV;rw[if_pos (by simp[Sx.hasN];omega)]
  simp
 have fold:Sx.getV (Sx.foldL (S k) x.m.buf) (cn:Int)=if hasC x.m.buf (cn:Int) then fixB (getC x.m.buf (cn:Int)) else Sx.getV (S k) (cn:Int):=by
  rw[gv _ (Sx.foldL_len _ _),gv _ rfl];exact aQ6 x.m.buf (S k) hcs h.rest.nod
 by_cases hm:(cn:Int)∈a05 x.m.buf
 ·obtain⟨t,ht,et⟩:=List.mem_map.1 hm
  obtain⟨i,hi,e2⟩:=List.getElem_of_mem ht;have e3:x.m.buf.getD i (0,0)=t:=by simp[hi,e2]
  obtain⟨b0,b1,b2⟩:=bs8 (l:=wsb) h hl hi;rw[e3,et]at b0 b1 b2;rw[hp]at b0;have hhc:hasC x.m.buf (cn:Int)=true:=aj6.2 hm;have hgc:getC x.m.buf (cn:Int)=t.2:=by
   have g:=b41 h.rest.nod hi;rw[e2,et]at g;exact g
  rw[hhc,if_pos rfl,hgc]at fold;have hv:verW ws x.b (cn:Int)=(k:Int)+1:=ev.trans b0;refine⟨by omega,by rw[hv];omega,fun j hj hjk=>?_,fun j hj=>?_⟩
  ·obtain rfl:j=k+1:=by omega
   rw[if_pos rfl,en,b1,Int.toNat_natCast,fold]
  ·obtain rfl:j=k:=by omega
   rw[if_neg (by omega),ew,b2,Int.toNat_natCast,hw];have hi2:i<(a05 x.m.buf).length:=by unfold a05;simpa using hi
   have:((a05 x.m.buf).map (Sx.getV (S j))).getD i 0=Sx.getV (S j) (cn:Int):=by
    have:(a05 x.m.buf)[i]=(cn:Int):=by simp[a05,e2,et]
    simp[hi2,this]
   rw[this];exact(aM3 hok _).1
 ·have hhc:hasC x.m.buf (cn:Int)=false:=by
   cases hh:hasC x.m.buf (cn:Int) with
   | false=>rfl
   | true=>exact absurd (aj6.1 hh) hm
  rw[hhc,if_neg Bool.false_ne_true]at fold;have o:∀ j,0<=j->j<3->wordAt (a88 x.b x.stamp x.m.buf x.was (3*x.m.buf.length) wsb) (3+x.b+3*(cn:Int)+j)=wordAt wsb (3+x.b+3*(cn:Int)+j):=fun j j0 j1=>aP8 h h0 ⟨j0,j1⟩ hm _ (zE _)
  have o0:=o 0 (by omega) (by omega);rw[Int.add_zero]at o0;have hv:verW ws x.b (cn:Int)=verW wsb x.b (cn:Int):=ev.trans o0;have qv:=q.ver;refine⟨by rw[hv];exact q.pos,by rw[hv];omega,fun j hj hjk=>?_,fun j hj=>?_⟩
  ·rw[en,o 1 (by omega) (by omega)]
   by_cases hj1:j=k+1
   ·rw[if_pos hj1,fold]
    exact q.now k qv (zE _)
   ·rw[if_neg hj1]
    exact q.now j (by rw[<- hv];exact hj) (by omega)
  ·rw[ew,o 2 (by omega) (by omega),if_neg (by rw[hv]at hj;omega)]
   exact q.was j (by rw[<- hv];exact hj)
end
theorem ah1 {x:Rx} {ws:List Int} (hI:InX x) {p:Int} (h0:0<=p) (hp:p≠3+x.th):wordAt (a19 x ws).2.1 p=wordAt ws p:=by
 have ht:=hI.th;unfold a19 a54
 split
 ·dsimp only
  split
  ·rfl
  ·split
   ·exact a17 h0 (by show p≠(((3+x.th).toNat:Nat):Int);omega)
   ·rfl
 ·split
  ·exact a17 h0 (by omega)
  ·rfl
theorem aX6 {x:Rx} {ws:List Int} (hI:InX x) (h1:x.part=1) (hs:x.sub=1) (hl:3+x.th<(ws.length:Int)):wordAt (a19 x ws).2.1 (3+x.th)=Md.Cv.passV x.claim/\(a19 x ws).1.part=1/\(a19 x ws).1.sub=2/\(a19 x ws).1.claim=x.claim:=by
 have ht:=hI.th;have e:a19 x ws=({ a23 x with sub:=2 },ws.set (3+x.th).toNat (Md.Cv.passV x.claim),true):=by
  unfold a19 a54;rw[if_pos h1,if_neg (show ¬ (a23 x).sub=0 by show ¬ x.sub=0;omega),if_pos (show (a23 x).sub=1 from hs)]
  rfl
 rw[e];refine⟨?_,h1,rfl,rfl⟩;have:=ar7 (l:=ws) (k:=(3+x.th).toNat) (by omega) (Md.Cv.passV x.claim);rw[show (((3+x.th).toNat:Nat):Int)=3+x.th by omega]at this;exact this
section
variable {x:Wx} {ws:List Int}
theorem a50 (x:Wx) (ws:List Int):a09 x ws=a62 (a16 x) ws:=rfl
theorem a76 (h1:x.part=1):(a09 x ws).2.1=ws.set 0 (Md.Cv.passV (wordAt ws 0))/\(a09 x ws).1={ a16 x with tick:=wordAt ws 0,part:=2 }:=by
 rw[a50];unfold a62;rw[if_pos (show (a16 x).part=1 from h1)];exact⟨rfl,rfl⟩
theorem a58 (hp:2<=x.part/\x.part<=5):(a09 x ws).2.1=ws:=by
 rw[a50];unfold a62;rw[if_neg (show ¬ (a16 x).part=1 by show ¬ x.part=1;omega)]
 split
 ·rfl
 ·split
  ·rfl
  ·split
   ·rfl
   ·split
    ·rfl
    ·next a b c d=>exact absurd hp (by have a':¬ x.part=2:=a;have b':¬ x.part=3:=b;have c':¬ x.part=4:=c;have d':¬ x.part=5:=d;omega)
theorem a81 (h7:x.part=7):(a09 x ws).2.1=ws.set 2 (Md.Cv.passV x.stamp)/\(a09 x ws).1={ a16 x with num:=wrap64 (Md.Cv.passV x.stamp),part:=8 }:=by
 rw[a50];unfold a62;rw[if_neg (show ¬ (a16 x).part=1 by show ¬ x.part=1;omega),if_neg (show ¬ (a16 x).part=2 by show ¬ x.part=2;omega),if_neg (show ¬ (a16 x).part=3 by show ¬ x.part=3;omega),if_neg (show ¬ (a16 x).part=4 by show ¬ x.part=4;omega),if_neg (show ¬ (a16 x).part=5 by show ¬ x.part=5;omega),if_neg (show ¬ (a16 x).part=6 by show ¬ x.part=6;omega),if_pos (show (a16 x).part=7 from h7)];exact⟨rfl,rfl⟩
theorem a85 (h8:x.part=8):(a09 x ws).2.1=ws.set 1 (Md.Cv.passV x.tick)/\(a09 x ws).1={ a16 x with part:=9 }:=by
 rw[a50];unfold a62;rw[if_neg (show ¬ (a16 x).part=1 by show ¬ x.part=1;omega),if_neg (show ¬ (a16 x).part=2 by show ¬ x.part=2;omega),if_neg (show ¬ (a16 x).part=3 by show ¬ x.part=3;omega),if_neg (show ¬ (a16 x).part=4 by show ¬ x.part=4;omega),if_neg (show ¬ (a16 x).part=5 by show ¬ x.part=5;omega),if_neg (show ¬ (a16 x).part=6 by show ¬ x.part=6;omega),if_neg (show ¬ (a16 x).part=7 by show ¬ x.part=7;omega)];exact⟨rfl,rfl⟩
theorem a84 (h6:x.part=6):(a09 x ws).2.1=ah7 x ws/\(a09 x ws).1=ae1 (a16 x):=by
 rw[a50];unfold a62;rw[if_neg (show ¬ (a16 x).part=1 by show ¬ x.part=1;omega),if_neg (show ¬ (a16 x).part=2 by show ¬ x.part=2;omega),if_neg (show ¬ (a16 x).part=3 by show ¬ x.part=3;omega),if_neg (show ¬ (a16 x).part=4 by show ¬ x.part=4;omega),if_neg (show ¬ (a16 x).part=5 by show ¬ x.part=5;omega),if_pos (show (a16 x).part=6 from h6)];exact⟨rfl,rfl⟩
theorem a99 (h:InY x) (h6:x.part=6) {p:Int} (h0:0<=p) (hp:p<3+x.b):wordAt (ah7 x ws) p=wordAt ws p:=by
 rw[aC3];have:=ak2 h (h.at6 h6);exact a17 h0 (by omega)
theorem ay2 (h:InY x) (hp:x.part≠6) {p:Int} (h0:3+x.b<=p):wordAt (a09 x ws).2.1 p=wordAt ws p:=by
 have hP:=h.part;have hb:=h.cb
 rcases(by omega:x.part=1∨(2<=x.part/\x.part<=5)∨x.part=7∨x.part=8∨x.part=9) with e | e | e | e | e
 ·rw[(a76 e).1]
  exact a17 (by omega) (by omega)
 ·rw[a58 e]
 ·rw[(a81 e).1]
  exact a17 (by omega) (by omega)
 ·rw[(a85 e).1]
  exact a17 (by omega) (by omega)
 ·rw[a50]
  unfold a62;rw[if_neg (show ¬ (a16 x).part=1 by show ¬ x.part=1;omega),if_neg (show ¬ (a16 x).part=2 by show ¬ x.part=2;omega),if_neg (show ¬ (a16 x).part=3 by show ¬ x.part=3;omega),if_neg (show ¬ (a16 x).part=4 by show ¬ x.part=4;omega),if_neg (show ¬ (a16 x).part=5 by show ¬ x.part=5;omega),if_neg (show ¬ (a16 x).part=6 from hp),if_neg (show ¬ (a16 x).part=7 by show ¬ x.part=7;omega)];exact a17 (by omega) (by omega)
theorem aK5 (h:InY x) {t:Int} (h0:0<=t) (h1:t<x.b):wordAt (a09 x ws).2.1 (3+t)=wordAt ws (3+t):=by
 have hP:=h.part
 by_cases e6:x.part=6
 ·rw[(a84 e6).1]
  exact a99 h e6 (by omega) (by omega)
 ·rcases(by omega:x.part=1∨(2<=x.part/\x.part<=5)∨x.part=7∨x.part=8∨x.part=9) with e | e | e | e | e
  ·rw[(a76 e).1]
   exact a17 (by omega) (by omega)
  ·rw[a58 e]
  ·rw[(a81 e).1]
   exact a17 (by omega) (by omega)
  ·rw[(a85 e).1]
   exact a17 (by omega) (by omega)
  ·rw[a50]
   unfold a62;rw[if_neg (show ¬ (a16 x).part=1 by show ¬ x.part=1;omega),if_neg (show ¬ (a16 x).part=2 by show ¬ x.part=2;omega),if_neg (show ¬ (a16 x).part=3 by show ¬ x.part=3;omega),if_neg (show ¬ (a16 x).part=4 by show ¬ x.part=4;omega),if_neg (show ¬ (a16 x).part=5 by show ¬ x.part=5;omega),if_neg (show ¬ (a16 x).part=6 from e6),if_neg (show ¬ (a16 x).part=7 by show ¬ x.part=7;omega)];exact a17 (by omega) (by omega)
end
structure Cf where
 a:Int
 b:Int
structure ROk (C:Cf) (S:Nat->List Nat) (k:Nat) (ws:List Int) (t:Nat) (m0:Mac) (x:Rx):Prop where
 inx:InX x
 a:x.a=C.a
 b:x.b=C.b
 th:x.th=(t:Int)
 np:x.part≠4
 m1:x.part=1->x.m=m0
 cl:x.part=1->1<=x.sub->x.claim<=(k:Int)
 ce0:x.part=1->x.sub≠2->wordAt ws (3+(t:Int))=0
 ce1:(x.part=1->x.sub=2)->wordAt ws (3+(t:Int))=x.claim+1
 st:x.part≠1->∃ s:Nat,x.stamp=(s:Int)/\x.claim<=(s:Int)/\s<=k/\k<=s+1/\Rg (S s) m0 x ws
section
variable {C:Cf} {S S':Nat->List Nat} {k k':Nat} {ws ws':List Int} {t:Nat} {m0:Mac} {x:Rx}
theorem ROk.env (h:ROk C S k ws t m0 x) (hk:k<=k') (hS:∀ j,j<=k->S' j=S j) (hc:wordAt ws' (3+(t:Int))=wordAt ws (3+(t:Int))) (hs:∀ s:Nat,x.part≠1->x.stamp=(s:Int)->k'<=s+1/\aB9 C.a C.b (s:Int) ws ws'):ROk C S' k' ws' t m0 x:=by
 refine⟨h.inx,h.a,h.b,h.th,h.np,h.m1,fun q1 q2=>by have:=h.cl q1 q2;omega,fun q1 q2=>by rw[hc];exact h.ce0 q1 q2,fun q=>by rw[hc];exact h.ce1 q,fun q=>?_⟩;obtain⟨s,e1,e2,e3,e4,e5⟩:=h.st q;obtain⟨g1,g2⟩:=hs s q e1;refine⟨s,e1,e2,by omega,g1,?_⟩;rw[hS s e3];refine e5.env ?_ h.inx.toIn0.celB.2;rw[h.a,h.b,e1];exact g2
theorem ROk.step (h:ROk C S k ws t m0 x) (hW:okW ws) (h2:wordAt ws 2=(k:Int)) (hk:k<4611686018427387904) (hl:plW x<=(ws.length:Int)) (hs:∀ s:Nat,x.part≠1->x.stamp=(s:Int)->SeesAt ws C.a C.b (s:Int) (S s)):((a19 x ws).1.part≠4->ROk C S k (a19 x ws).2.1 t m0 (a19 x ws).1)/\((a19 x ws).1.part=4->wordAt (a19 x ws).2.1 (3+(t:Int))=0/\∃ s:Nat,(a19 x ws).1.stamp=(s:Int)/\s<=k/\∃ j,(a19 x ws).1.m=runN (S s) j m0):=by
 have hI:=h.inx;have hP:=hI.part;have hth:=hI.th;have hcb:=hI.cb;have hca:=hI.ca;obtain⟨k1,k2,_,_,_⟩:=step_in hI h.np hW;have al:(a19 x ws).1.a=C.a/\(a19 x ws).1.b=C.b/\(a19 x ws).1.th=(t:Int):=⟨k2.a.trans h.a,k2.b.trans h.b,k2.th.trans h.th⟩;have ht:x.th=(t:Int):=h.th;have hlt:3+x.th<(ws.length:Int):=by unfold plW at hl;omega
 rcases(by have:=h.np;omega:x.part=1∨x.part=2∨x.part=3) with e | e | e
 ·obtain⟨c1,c2,c3,c4,c6,c7⟩:=hI.p1 e
  rcases(by omega:x.sub=0∨x.sub=1∨x.sub=2) with d | d | d
  ·have E:a19 x ws=({ a23 x with claim:=wordAt ws 2,sub:=1 },ws,true):=by unfold a19 a54;rw[if_pos e,if_pos (show (a23 x).sub=0 from d)]
   rw[E]at k1 al ⊢;refine⟨fun _=>⟨k1,al.1,al.2.1,al.2.2,(by show x.part≠4;omega),fun _=>h.m1 e,fun _ _=>by show wordAt ws 2<=_;omega,fun _ _=>h.ce0 e (by omega),(fun q=>by cases q e),fun q=>absurd e q⟩,fun q=>absurd (show x.part=4 from q) h.np⟩
  ·obtain⟨g1,g2,g3,g4⟩:=aX6 (ws:=ws) hI e d hlt
   have cl:=h.cl e (by omega);have pos:=hI.k.1;have pv:Md.Cv.passV x.claim=x.claim+1:=by
    obtain⟨n,hn⟩:=Int.eq_ofNat_of_zero_le pos;rw[hn];exact a74 (by omega)
   refine⟨fun q=>⟨k1,al.1,al.2.1,al.2.2,q,fun _=>?_,fun _ _=>by rw[g4];exact cl,(fun _ q=>absurd g3 q),fun _=>by rw[<- ht,g1,g4,pv],fun q=>absurd g2 q⟩,fun q=>by rw[g2]at q;cases q⟩;have E:(a19 x ws).1.m=x.m:=by unfold a19 a54;rw[if_pos e,if_neg (show ¬ (a23 x).sub=0 by show ¬ x.sub=0;omega),if_pos (show (a23 x).sub=1 from d)];rfl
   rw[E];exact h.m1 e
  ·have E:a19 x ws=({ a23 x with stamp:=wordAt ws 2,part:=2 },ws,true):=by unfold a19 a54;rw[if_pos e,if_neg (show ¬ (a23 x).sub=0 by show ¬ x.sub=0;omega),if_neg (show ¬ (a23 x).sub=1 by show ¬ x.sub=1;omega)]
   rw[E]at k1 al ⊢;refine⟨fun _=>⟨k1,al.1,al.2.1,al.2.2,(fun q=>by cases q),(fun q=>by cases q),(fun q=>by cases q),(fun q=>by cases q),fun _=>h.ce1 (fun _=>d),fun _=>⟨k,h2,h.cl e (by omega),zE _,Nat.le_succ _,bl6 e hI (h.m1 e) _⟩⟩,(fun q=>by cases q)⟩
 ·obtain⟨s,e1,e2,e3,e4,e5⟩:=h.st (by omega)
  have n1:¬ x.part=1:=by omega
  have n3:¬ x.part=3:=by omega
  have E:a19 x ws=((runX (a23 x) ws).1,ws,(runX (a23 x) ws).2):=by unfold a19;rw[if_neg n1,if_neg n3]
  have hR:=e5.run hI e (by rw[h.a,h.b,e1];exact hs s n1 e1);obtain⟨_,ra,rs,rp⟩:=br5 hI e hW;have keep:(runX (a23 x) ws).1.stamp=x.stamp/\(runX (a23 x) ws).1.claim=x.claim:=by
   unfold runX a28 begX a23
   split
   ·split
    ·exact⟨rfl,rfl⟩
    ·split
     ·exact⟨rfl,rfl⟩
     ·split
      ·split <;> exact⟨rfl,rfl⟩
      ·exact⟨rfl,rfl⟩
   ·split
    ·exact⟨rfl,rfl⟩
    ·exact⟨rfl,rfl⟩
  rw[E]at k1 al ⊢;refine⟨fun q=>⟨k1,al.1,al.2.1,al.2.2,q,(fun q=>by dsimp only at q;omega),(fun q=>by dsimp only at q;omega),(fun q=>by dsimp only at q;omega),fun _=>?_,fun _=>⟨s,keep.1.trans e1,by dsimp only;rw[keep.2];exact e2,e3,e4,hR⟩⟩,fun q=>by dsimp only at q;omega⟩;dsimp only;rw[keep.2];exact h.ce1 (fun q=>absurd q n1)
 ·obtain⟨s,e1,e2,e3,e4,e5⟩:=h.st (by omega)
  have n1:¬ x.part=1:=by omega
  have E:a19 x ws=(an5 (a23 x),ws.set (3+x.th).toNat 0,true):=by unfold a19;rw[if_neg n1,if_pos e]
  rw[E];refine⟨fun q=>absurd rfl q,fun _=>⟨?_,s,e1,e3,e5.mn n1 (by have:=(hI.p3 (.inl e)).2.1;omega)⟩⟩;have:=ar7 (l:=ws) (k:=(3+x.th).toNat) (by omega) 0;rw[show (((3+x.th).toNat:Nat):Int)=3+x.th by omega]at this
  show wordAt (ws.set (3+x.th).toNat 0) (3+(t:Int))=0
  rw[<- ht];exact this
end
def aC9 (x:Wx):Nat:=if x.part=6 then x.at_ else 3*x.m.buf.length
structure WOk (C:Cf) (S:Nat->List Nat) (k:Nat) (ws:List Int) (t:Nat) (m0:Mac) (x:Wx):Prop where
 iny:InY x
 a:x.a=C.a
 b:x.b=C.b
 th:x.th=(t:Int)
 np:x.part≠9
 ce:wordAt ws (3+(t:Int))=0
 m3:x.part<=3->x.m=m0/\x.was=[]
 tk:2<=x.part->wordAt ws 1<=x.tick/\x.tick<wordAt ws 0
 sv:3<=x.part->x.tick=wordAt ws 1
 st:4<=x.part->x.part<=7->x.stamp=(k:Int)
 mac:4<=x.part->x.part<=7->(∃ j,x.m=runN (S k) j m0)/\x.was=(a05 x.m.buf).map (Sx.getV (S k))
 mid:x.part=6∨x.part=7->∃ wsb:List Int,(wsb.length:Int)=plY x/\a79 wsb C.a C.b k S/\∀ p,3+x.b<=p->wordAt ws p=wordAt (a88 x.b x.stamp x.m.buf x.was (aC9 x) wsb) p
section
variable {C:Cf} {S:Nat->List Nat} {k:Nat} {ws:List Int} {t:Nat} {m0:Mac} {x:Wx}
theorem WOk.early (h:WOk C S k ws t m0 x) (hW:okW ws) (h2:wordAt ws 2=(k:Int)) (hl:3<=ws.length) (hsn:wordAt ws 1<=wordAt ws 0) (hnx:wordAt ws 0<4611686018427387904) (hb0:m0.buf=[]) (hp:x.part<=3):WOk C S k (a09 x ws).2.1 t m0 (a09 x ws).1:=by
 have hI:=h.iny;have hP:=hI.part;obtain⟨k1,k2,_,_,_⟩:=a94 (ws:=ws) hI h.np hW;have al:(a09 x ws).1.a=C.a/\(a09 x ws).1.b=C.b/\(a09 x ws).1.th=(t:Int):=⟨k2.a.trans h.a,k2.b.trans h.b,k2.th.trans h.th⟩;obtain⟨e1,e2⟩:=h.m3 hp
 rcases(by omega:x.part=1∨x.part=2∨x.part=3) with e | e | e
 ·obtain⟨E2,E1⟩:=a76 (ws:=ws) e
  have hpv:Md.Cv.passV (wordAt ws 0)=wordAt ws 0+1:=by
   obtain⟨n,hn⟩:=Int.eq_ofNat_of_zero_le (hW.at 0).1;rw[hn];exact a74 (by omega)
  have w0:wordAt (ws.set 0 (Md.Cv.passV (wordAt ws 0))) 0=wordAt ws 0+1:=by rw[am1 (by omega),hpv]
  have w1:wordAt (ws.set 0 (Md.Cv.passV (wordAt ws 0))) 1=wordAt ws 1:=a17 (by omega) (by omega);rw[E1]at k1 al;rw[E1,E2];exact⟨k1,al.1,al.2.1,al.2.2,(fun q=>by cases q),by rw[a17 (by omega) (by omega)];exact h.ce,fun _=>⟨e1,e2⟩,fun _=>⟨by rw[w1];exact hsn,by rw[w0];show wordAt ws 0<_;omega⟩,(fun q=>by dsimp only at q;omega),(fun q=>by dsimp only at q;omega),(fun q=>by dsimp only at q;omega),(fun q=>by dsimp only at q;omega)⟩
 ·rw[a58 (ws:=ws) ⟨by omega,by omega⟩]
  obtain⟨t1,t2⟩:=h.tk (by omega);have E:(a09 x ws).1=if wordAt ws 1=x.tick then { a16 x with part:=3 } else a16 x:=by
   rw[a50];unfold a62;rw[if_neg (show ¬ (a16 x).part=1 by show ¬ x.part=1;omega),if_pos (show (a16 x).part=2 from e)]
   rfl
  rw[E]at k1 al ⊢
  by_cases q:wordAt ws 1=x.tick
  ·rw[if_pos q]at k1 al ⊢
   exact⟨k1,al.1,al.2.1,al.2.2,(fun q=>by cases q),h.ce,fun _=>⟨e1,e2⟩,fun _=>⟨t1,t2⟩,fun _=>q.symm,(fun q=>by dsimp only at q;omega),(fun q=>by dsimp only at q;omega),(fun q=>by dsimp only at q;omega)⟩
  ·rw[if_neg q]at k1 al ⊢
   exact⟨k1,al.1,al.2.1,al.2.2,h.np,h.ce,h.m3,h.tk,h.sv,h.st,h.mac,h.mid⟩
 ·rw[a58 (ws:=ws) ⟨by omega,by omega⟩]
  have E:(a09 x ws).1={ a16 x with stamp:=wordAt ws 2,part:=4 }:=by
   rw[a50];unfold a62;rw[if_neg (show ¬ (a16 x).part=1 by show ¬ x.part=1;omega),if_neg (show ¬ (a16 x).part=2 by show ¬ x.part=2;omega),if_pos (show (a16 x).part=3 from e)]
  rw[E]at k1 al ⊢;exact⟨k1,al.1,al.2.1,al.2.2,(fun q=>by cases q),h.ce,(fun q=>by dsimp only at q;omega),fun _=>h.tk (by omega),fun _=>h.sv (by omega),fun _ _=>h2,fun _ _=>⟨⟨0,e1⟩,by show x.was=(a05 x.m.buf).map _;rw[e1,e2,hb0];rfl⟩,(fun q=>by dsimp only at q;omega)⟩
theorem WOk.back (h:WOk C S k ws t m0 x) (hW:okW ws) (hl:(ws.length:Int)=plY x) (hp:x.part=6):WOk C S k (a09 x ws).2.1 t m0 (a09 x ws).1:=by
 have hI:=h.iny;have h6:=hI.at6 hp;have hb:=hI.cb;have hth:=hI.th;obtain⟨k1,k2,_,_,_⟩:=a94 (ws:=ws) hI h.np hW;have al:(a09 x ws).1.a=C.a/\(a09 x ws).1.b=C.b/\(a09 x ws).1.th=(t:Int):=⟨k2.a.trans h.a,k2.b.trans h.b,k2.th.trans h.th⟩;obtain⟨E2,E1⟩:=a84 (ws:=ws) hp;have hin:=ak2 hI h6;have low:∀ p,0<=p->p<3+x.b->wordAt (ah7 x ws) p=wordAt ws p:=fun p h0 h1=>a99 hI hp h0 h1
 obtain⟨t1,t2⟩:=h.tk (by omega);have ts:=h.sv (by omega);have ht:=h.th;have hst:=h.st (by omega) (by omega);have hmc:=h.mac (by omega) (by omega);obtain⟨wsb,m1,m2,m3⟩:=h.mid (.inl hp);have hd:aC9 x=x.at_:=by unfold aC9;rw[if_pos hp]
 rw[hd]at m3;have M:∀ p,3+x.b<=p->wordAt (ah7 x ws) p=wordAt (a88 x.b x.stamp x.m.buf x.was (x.at_+1) wsb) p:=fun p hp0=>by
  rw[aC3];unfold a88
  by_cases q:p=a38 x.b x.m.buf x.at_
  ·subst q
   have s1:=ar7 (l:=ws) (k:=(a38 x.b x.m.buf x.at_).toNat) (by omega) (storeV x.stamp x.m.buf x.was x.at_);have s2:=ar7 (l:=a88 x.b x.stamp x.m.buf x.was x.at_ wsb) (k:=(a38 x.b x.m.buf x.at_).toNat) (by rw[aG2];omega) (storeV x.stamp x.m.buf x.was x.at_);rw[show (((a38 x.b x.m.buf x.at_).toNat:Nat):Int)=a38 x.b x.m.buf x.at_ by omega]at s1 s2;rw[s1,s2]
  ·rw[a17 (by omega) (by omega),a17 (by omega) (by omega)]
   exact m3 p hp0
 have D:aC9 (ae1 (a16 x))=x.at_+1:=by
  unfold aC9 ae1
  by_cases q:x.at_+1=3*x.m.buf.length
  ·rw[if_pos (show (a16 x).at_+1=3*(a16 x).m.buf.length from q)]
   rw[if_neg (by show ¬ (7:Nat)=6;omega)];exact q.symm
  ·rw[if_neg (show ¬ (a16 x).at_+1=3*(a16 x).m.buf.length from q),if_pos rfl]
   rfl
 have pt:(ae1 (a16 x)).part=6∨(ae1 (a16 x)).part=7:=by
  unfold ae1;dsimp only
  split
  ·exact .inr rfl
  ·exact .inl rfl
 rw[E1]at k1 al;rw[E1,E2];refine⟨k1,al.1,al.2.1,al.2.2,by omega,by rw[low _ (by omega) (by omega)];exact h.ce,(fun q=>by omega),fun _=>⟨by rw[low 1 (by omega) (by omega)];exact t1,by rw[low 0 (by omega) (by omega)];exact t2⟩,fun _=>by rw[low 1 (by omega) (by omega)];exact ts,fun _ _=>hst,fun _ _=>hmc,fun _=>⟨wsb,m1,m2,fun p hp0=>?_⟩⟩;rw[D];exact M p hp0
theorem WOk.run (h:WOk C S k ws t m0 x) (hW:okW ws) (hp:x.part=4) (hC:a79 ws C.a C.b k S):WOk C S k (a09 x ws).2.1 t m0 (a09 x ws).1:=by
 have hI:=h.iny;have h0:=hI.run (by omega);have hR:=hI.rest;have hb:=ai9 hR.inv hR.nw h0;obtain⟨k1,k2,_,_,_⟩:=a94 (ws:=ws) hI h.np hW;have al:(a09 x ws).1.a=C.a/\(a09 x ws).1.b=C.b/\(a09 x ws).1.th=(t:Int):=⟨k2.a.trans h.a,k2.b.trans h.b,k2.th.trans h.th⟩;obtain⟨⟨j,hj⟩,hw⟩:=h.mac (by omega) (by omega);have hst:=h.st (by omega) (by omega);obtain⟨t1,t2⟩:=h.tk (by omega);have ts:=h.sv (by omega);have hnow:∀ c,0<=c->c<x.a->nowN (a16 x) ws c=Sx.getV (S k) c:=fun c q0 q1=>by
  have q:=hC c q0 (by rw[<- h.a];exact q1);have e:=q.now k q.ver (zE _);rw[<- h.b]at e;exact e
 have E:(a09 x ws).1=(runY (a16 x) ws).1:=by
  rw[a50];unfold a62;rw[if_neg (show ¬ (a16 x).part=1 by show ¬ x.part=1;omega),if_neg (show ¬ (a16 x).part=2 by show ¬ x.part=2;omega),if_neg (show ¬ (a16 x).part=3 by show ¬ x.part=3;omega),if_pos (show (a16 x).part=4 from hp)]
 rw[a58 (ws:=ws) ⟨by omega,by omega⟩];rw[E]at k1 al ⊢;have keep:∀ y:Wx,InY y->y.a=C.a->y.b=C.b->y.th=(t:Int)->y.tick=x.tick->y.stamp=x.stamp->4<=y.part->y.part<=5∨y.part=8->(∃ j,y.m=runN (S k) j m0)->y.was=(a05 y.m.buf).map (Sx.getV (S k))->WOk C S k ws t m0 y:=fun y i1 i2 i3 i4 i5 i6 i7 i8 i9 i10 =>
  ⟨i1,i2,i3,i4,by omega,h.ce,(fun q=>by omega),fun _=>by rw[i5];exact⟨t1,t2⟩,fun _=>by rw[i5];exact ts,fun _ _=>by rw[i6];exact hst,fun _ _=>⟨i9,i10⟩,(fun q=>by omega)⟩
 unfold runY at k1 al ⊢
 by_cases q1:(a07 x.m).2.kind=1
 ·rw[if_pos (show (a07 (a16 x).m).2.kind=1 from q1)]at k1 al ⊢
  have cr:0<=(a07 x.m).2.cell/\(a07 x.m).2.cell<x.m.cells/\(a07 x.m).1.buf=x.m.buf:=by
   rcases hb with⟨q,_⟩ | ⟨q,_⟩ | ⟨_,e,_,c1,c2⟩ | ⟨q,_⟩ | ⟨q,_⟩
   ·omega
   ·omega
   ·exact⟨c1,c2,e⟩
   ·omega
   ·omega
  refine keep _ k1 al.1 al.2.1 al.2.2 rfl rfl (by show 4<=x.part;omega) (by show x.part<=5∨x.part=8;omega) ⟨j+1,?_⟩ ?_
  ·show a65 (a07 x.m).1 (nowN (a16 x) ws (a07 x.m).2.cell)=_
   rw[ai7,<- hj,at3 q1,hnow _ cr.1 (by rw[<- hI.cel];exact cr.2.1)]
  ·show x.was=(a05 (a65 (a07 x.m).1 _).buf).map _
   rw[aw1,cr.2.2];exact hw
 ·rw[if_neg (show ¬ (a07 (a16 x).m).2.kind=1 from q1)]at k1 al ⊢
  have E1:(a07 x.m).1=runN (S k) (j+1) m0:=by rw[ai7,<- hj,ag4 q1]
  by_cases q3:(a07 x.m).2.kind=3/\(a07 x.m).2.first=true
  ·rw[if_pos (show (a07 (a16 x).m).2.kind=3/\(a07 (a16 x).m).2.first=true from q3)]at k1 al ⊢
   refine keep _ k1 al.1 al.2.1 al.2.2 rfl rfl (by show 4<=x.part;omega) (by show x.part<=5∨x.part=8;omega) ⟨j+1,E1⟩ ?_
   rcases hb with⟨q,_⟩ | ⟨q,_⟩ | ⟨q,_⟩ | ⟨q,_⟩ | ⟨_,e,f,c1,c2⟩
   ·omega
   ·omega
   ·omega
   ·omega
   ·rw[q3.2]at f
    have hc:hasC x.m.buf (a07 x.m).2.cell=false:=by simpa using f.symm
    show x.was ++ [nowN (a16 x) ws (a07 x.m).2.cell]=(a05 (a07 x.m).1.buf).map _
    rw[e,ab0,hc,hw,hnow _ c1 (by rw[<- hI.cel];exact c2)]
    simp
  ·rw[if_neg (show ¬ ((a07 (a16 x).m).2.kind=3/\(a07 (a16 x).m).2.first=true) from q3)]at k1 al ⊢
   have hcl:a05 (a07 x.m).1.buf=a05 x.m.buf:=by
    rcases hb with⟨_,e⟩ | ⟨_,e⟩ | ⟨_,e,_⟩ | ⟨_,e,_⟩ | ⟨q,e,f,_⟩
    ·rw[e]
    ·rw[e]
    ·rw[e]
    ·rw[e]
    ·rw[e,ab0]
     have hc:hasC x.m.buf (a07 x.m).2.cell=true:=by
      cases hq:hasC x.m.buf (a07 x.m).2.cell with
      | true=>rfl
      | false=>exact absurd ⟨q,by rw[f,hq];rfl⟩ q3
     rw[hc]
     rfl
   have hw':x.was=(a05 (a07 x.m).1.buf).map (Sx.getV (S k)):=by rw[hcl];exact hw
   by_cases q4:(a07 x.m).2.kind=4
   ·rw[if_pos (show (a07 (a16 x).m).2.kind=4 from q4)]at k1 al ⊢
    refine keep _ k1 al.1 al.2.1 al.2.2 rfl rfl ?_ ?_ ⟨j+1,E1⟩ hw'
    ·dsimp only
     split <;> omega
    ·dsimp only
     split <;> omega
   ·rw[if_neg (show ¬ (a07 (a16 x).m).2.kind=4 from q4)]at k1 al ⊢
    exact keep _ k1 al.1 al.2.1 al.2.2 rfl rfl (by show 4<=x.part;omega) (by show x.part<=5∨x.part=8;omega) ⟨j+1,E1⟩ hw'
theorem WOk.scan (h:WOk C S k ws t m0 x) (hW:okW ws) (hl:(ws.length:Int)=plY x) (hp:x.part=5) (hC:a79 ws C.a C.b k S):WOk C S k (a09 x ws).2.1 t m0 (a09 x ws).1:=by
 have hI:=h.iny;obtain⟨k1,k2,_,_,_⟩:=a94 (ws:=ws) hI h.np hW;have al:(a09 x ws).1.a=C.a/\(a09 x ws).1.b=C.b/\(a09 x ws).1.th=(t:Int):=⟨k2.a.trans h.a,k2.b.trans h.b,k2.th.trans h.th⟩;have E:(a09 x ws).1=a97 (a16 x) ws:=by
  rw[a50];unfold a62;rw[if_neg (show ¬ (a16 x).part=1 by show ¬ x.part=1;omega),if_neg (show ¬ (a16 x).part=2 by show ¬ x.part=2;omega),if_neg (show ¬ (a16 x).part=3 by show ¬ x.part=3;omega),if_neg (show ¬ (a16 x).part=4 by show ¬ x.part=4;omega),if_pos (show (a16 x).part=5 from hp)]
 rw[a58 (ws:=ws) ⟨by omega,by omega⟩];rw[E]at k1 al ⊢;have tk:=h.tk (by omega);have ts:=h.sv (by omega);have hst:=h.st (by omega) (by omega);have hmc:=h.mac (by omega) (by omega);have nz:∀ q:(x.part=6∨x.part=7),False:=fun q=>by omega
 unfold a97 at k1 al ⊢
 split at k1
 ·next c1 =>
  rw[if_pos c1]at al ⊢
  split at k1
  ·next c2 =>
   rw[if_pos c2]at al ⊢
   by_cases hlen:x.m.buf.length=0
   ·rw[if_pos (show (a16 x).m.buf.length=0 from hlen)]at k1 al ⊢
    refine⟨k1,al.1,al.2.1,al.2.2,(fun q=>by cases q),h.ce,(fun q=>by dsimp only at q;omega),fun _=>tk,fun _=>ts,fun _ _=>hst,fun _ _=>hmc,fun _=>⟨ws,hl,hC,fun p _=>?_⟩⟩
    show wordAt ws p=wordAt (a88 x.b x.stamp x.m.buf x.was (if (7:Nat)=6 then 0 else 3*x.m.buf.length) ws) p
    rw[if_neg (by omega),hlen]
    rfl
   ·rw[if_neg (show ¬ (a16 x).m.buf.length=0 from hlen)]at k1 al ⊢
    exact⟨k1,al.1,al.2.1,al.2.2,(fun q=>by cases q),h.ce,(fun q=>by dsimp only at q;omega),fun _=>tk,fun _=>ts,fun _ _=>hst,fun _ _=>hmc,fun _=>⟨ws,hl,hC,fun p _=>rfl⟩⟩
  ·next c2 =>
   rw[if_neg c2]at al ⊢;exact⟨k1,al.1,al.2.1,al.2.2,h.np,h.ce,(fun q=>by have q':x.part<=3:=q;omega),fun _=>tk,fun _=>ts,fun _ _=>hst,fun _ _=>hmc,fun q=>(nz q).elim⟩
 ·next c1 =>
  rw[if_neg c1]at al ⊢;exact⟨k1,al.1,al.2.1,al.2.2,h.np,h.ce,(fun q=>by have q':x.part<=3:=q;omega),fun _=>tk,fun _=>ts,fun _ _=>hst,fun _ _=>hmc,fun q=>(nz q).elim⟩
theorem WOk.pub (h:WOk C S k ws t m0 x) (hW:okW ws) (hl:(ws.length:Int)=plY x) (hk:k<4611686018427387904) (hp:x.part=7) (hok:okS (S k)) (hln:((S k).length:Int)=x.a):WOk C (fun j=>if j=k+1 then Sx.foldL (S k) x.m.buf else S j) (k+1) (a09 x ws).2.1 t m0 (a09 x ws).1/\a79 (a09 x ws).2.1 C.a C.b (k+1) (fun j=>if j=k+1 then Sx.foldL (S k) x.m.buf else S j)/\wordAt (a09 x ws).2.1 2=((k+1:Nat):Int):=by
 have hI:=h.iny;have hb:=hI.cb;have hca:=hI.ca;obtain⟨k1,k2,_,_,_⟩:=a94 (ws:=ws) hI h.np hW;have al:(a09 x ws).1.a=C.a/\(a09 x ws).1.b=C.b/\(a09 x ws).1.th=(t:Int):=⟨k2.a.trans h.a,k2.b.trans h.b,k2.th.trans h.th⟩;obtain⟨E2,E1⟩:=a81 (ws:=ws) hp;obtain⟨t1,t2⟩:=h.tk (by omega);have ts:=h.sv (by omega);have hst:=h.st (by omega) (by omega);obtain⟨_,hw⟩:=h.mac (by omega) (by omega);obtain⟨wsb,m1,m2,m3⟩:=h.mid (.inr hp);have hd:aC9 x=3*x.m.buf.length:=by unfold aC9;rw[if_neg (by omega)]
 rw[hd]at m3;have low:∀ p,0<=p->p≠2->wordAt (ws.set 2 (Md.Cv.passV x.stamp)) p=wordAt ws p:=fun p h0 h1=>a17 h0 (by omega)
 have hC:=b82 (ws:=ws.set 2 (Md.Cv.passV x.stamp)) hI m1 hst hk (by rw[h.a,h.b];exact m2) hw hok hln (fun p hp0=>by rw[low p (by omega) (by omega)];exact m3 p hp0);rw[h.a,h.b]at hC;rw[E1]at k1 al;rw[E1,E2];refine⟨⟨k1,al.1,al.2.1,al.2.2,(fun q=>by cases q),by rw[low _ (by omega) (by omega)];exact h.ce,(fun q=>by dsimp only at q;omega),fun _=>⟨by rw[low 1 (by omega) (by omega)];exact t1,by rw[low 0 (by omega) (by omega)];exact t2⟩,fun _=>by rw[low 1 (by omega) (by omega)];exact ts,(fun _ q=>by dsimp only at q;omega),(fun _ q=>by dsimp only at q;omega),(fun q=>by dsimp only at q;omega)⟩,hC,?_⟩;have hs2:=ar7 (l:=ws) (k:=2) (by unfold plY at hl;omega) (Md.Cv.passV x.stamp);rw[hst,a74 hk]at hs2;rw[hst,a74 hk];exact hs2.trans (by omega)
end
abbrev Tx:=Option ((Mac × Rx) ⊕ (Mac × Wx))
abbrev Tx.idle:Tx:=none
abbrev Tx.rd (m0:Mac) (x:Rx):Tx:=some (.inl (m0,x))
abbrev Tx.wr (m0:Mac) (x:Wx):Tx:=some (.inr (m0,x))
theorem aS3 {m m':Mac} {x x':Rx} (h:Tx.rd m x=Tx.rd m' x'):m=m'/\x=x':=by cases h;exact⟨rfl,rfl⟩
theorem ab6 {m m':Mac} {x x':Wx} (h:Tx.wr m x=Tx.wr m' x'):m=m'/\x=x':=by cases h;exact⟨rfl,rfl⟩
def upT (T:Nat->Tx) (t:Nat) (y:Tx):Nat->Tx:=fun u=>if u=t then y else T u
theorem a08 (T:Nat->Tx) (t:Nat) (y:Tx):upT T t y t=y:=if_pos rfl
theorem a24 (T:Nat->Tx) {t u:Nat} (y:Tx) (h:u≠t):upT T t y u=T u:=if_neg h
structure GI (C:Cf) (n:Nat) (S:Nat->List Nat) (k:Nat) (T:Nat->Tx) (ws:List Int):Prop where
 nb:C.b=(n:Int)
 len:(ws.length:Int)=3+C.b+3*C.a
 ok:okW ws
 w2:wordAt ws 2=(k:Int)
 sn:wordAt ws 1<=wordAt ws 0
 so:∀ j,j<=k->((S j).length:Int)=C.a/\okS (S j)
 idle:∀ t,t<n->T t=.idle->wordAt ws (3+(t:Int))=0
 rd:∀ t m0 x,t<n->T t=.rd m0 x->ROk C S k ws t m0 x
 wr:∀ t m0 x,t<n->T t=.wr m0 x->WOk C S k ws t m0 x/\m0.buf=[]
 one:∀ t u m x m' x',t<n->u<n->T t=.wr m x->T u=.wr m' x'->2<=x.part->2<=x'.part->x.tick=x'.tick->t=u
 cells:(∀ t m0 x,t<n->T t=.wr m0 x->x.part≠6/\x.part≠7)->a79 ws C.a C.b k S
 passed:∀ t m0 x,t<n->T t=.wr m0 x->5<=x.part->x.part<=7->∀ u m r,u<n->(x.part=5->u<x.at_)->T u=.rd m r->r.part≠1->r.stamp=(k:Int)
section
variable {C:Cf} {n:Nat} {S S':Nat->List Nat} {k k':Nat} {T:Nat->Tx} {ws ws':List Int}
theorem GI.sees (h:GI C n S k T ws) (hk:k<4611686018427387904) {t:Nat} {m0:Mac} {x:Rx} (ht:t<n) (hT:T t=.rd m0 x) {s:Nat} (hp:x.part≠1) (hs:x.stamp=(s:Int)):SeesAt ws C.a C.b (s:Int) (S s):=by
 obtain⟨s',e1,_,e3,e4,_⟩:=(h.rd t m0 x ht hT).st hp;have es:s'=s:=by omega
 subst es
 by_cases q:∀ t m0 x,t<n->T t=.wr m0 x->x.part≠6/\x.part≠7
 ·exact(h.cells q).sees e3 e4
 ·have ⟨u,m,y,hu,hTu,hy⟩:∃ u m y,u<n/\T u=.wr m y/\(y.part=6∨y.part=7):=by
   refine Classical.byContradiction fun z=>q fun t m0 x h1 h2=>?_
   refine⟨fun e=>z ⟨t,m0,x,h1,h2,.inl e⟩,fun e=>z ⟨t,m0,x,h1,h2,.inr e⟩⟩
  obtain⟨w,_⟩:=h.wr u m y hu hTu;have ek:s'=k:=by
   have:=h.passed u m y hu hTu (by omega) (by omega) t m0 x ht (fun e=>by omega) hT hp;omega
  subst ek;obtain⟨wsb,m1,m2,m3⟩:=w.mid hy;have hst:=w.st (by omega) (by omega);obtain⟨_,hw⟩:=w.mac (by omega) (by omega);have dn:aC9 y<=3*y.m.buf.length:=by
   unfold aC9
   split
   ·next e=>have:=w.iny.at6 e;omega
   ·exact zE _
  have:=bn0 (ws:=ws) w.iny m1 hst hk (by rw[w.a,w.b];exact m2) hw (h.so s' (zE _)).2 dn m3;rw[w.a,w.b]at this;exact this
theorem WOk.env {t:Nat} {m0:Mac} {x:Wx} (h:WOk C S k ws t m0 x) (hc:wordAt ws' (3+(t:Int))=wordAt ws (3+(t:Int))) (h0:wordAt ws 0<=wordAt ws' 0) (h1:wordAt ws' 1=wordAt ws 1) (hcell:x.part=6∨x.part=7->∀ p,3+x.b<=p->wordAt ws' p=wordAt ws p):WOk C S k ws' t m0 x :=
 ⟨h.iny,h.a,h.b,h.th,h.np,by rw[hc];exact h.ce,h.m3,fun q=>⟨by rw[h1];exact(h.tk q).1,by have:=(h.tk q).2;omega⟩,fun q=>by rw[h1];exact h.sv q,h.st,h.mac,fun q=>by
  obtain⟨wsb,m1,m2,m3⟩:=h.mid q;exact⟨wsb,m1,m2,fun p hp=>(hcell q p hp).trans (m3 p hp)⟩⟩
theorem GI.reads (h:GI C n S k T ws) (hk:k<4611686018427387904) {t:Nat} {m0:Mac} {x:Rx} (ht:t<n) (hT:T t=.rd m0 x):GI C n S k (upT T t (if (a19 x ws).1.part=4 then .idle else .rd m0 (a19 x ws).1)) (a19 x ws).2.1:=by
 have R:=h.rd t m0 x ht hT;have hI:=R.inx;have hth:=hI.th;have hb:=R.b;have hnb:=h.nb;have hpl:plW x<=(ws.length:Int):=by unfold plW;rw[R.a,R.b,h.len];omega
 obtain⟨i1,i2,_,i4,i5⟩:=step_in hI R.np h.ok;obtain⟨g1,g2⟩:=R.step h.ok h.w2 hk hpl (fun s q1 q2=>h.sees hk ht hT q1 q2);have keep:∀ p,0<=p->p≠3+(t:Int)->wordAt (a19 x ws).2.1 p=wordAt ws p:=fun p q0 q1=>ah1 hI q0 (by rw[R.th];exact q1)
 have cellw:∀ p,3+C.b<=p->wordAt (a19 x ws).2.1 p=wordAt ws p:=fun p hp=>keep p (by omega) (by omega)
 obtain⟨Y,hY⟩:∃ Y,(if (a19 x ws).1.part=4 then Tx.idle else .rd m0 (a19 x ws).1)=Y:=⟨_,rfl⟩
 have notw:∀ m y,Y≠.wr m y:=fun m y e=>by rw[<- hY]at e;split at e <;> cases e
 have stY:∀ m r,Y=.rd m r->r.part≠1->(x.part≠1/\r.stamp=x.stamp)∨r.stamp=(k:Int):=fun m r e hr=>by
  rw[<- hY]at e
  split at e
  ·cases e
  ·next np =>
   obtain⟨e1,e2⟩:=aS3 e;subst e2
   by_cases p1:x.part=1
   ·right
    obtain⟨c1,_⟩:=hI.p1 p1;unfold a19 a54 at hr ⊢;rw[if_pos p1]at hr ⊢;dsimp only at hr ⊢
    split at hr
    ·exact absurd p1 hr
    ·split at hr
     ·exact absurd p1 hr
     ·next z0 z1=>rw[if_neg z0,if_neg z1];exact h.w2
   ·left
    refine⟨p1,?_⟩;obtain⟨s,e1',_⟩:=R.st p1;obtain⟨s2,e2',_,_,_,_⟩:=(g1 np).st hr;unfold a19 at np ⊢;rw[if_neg p1]at np ⊢
    split
    ·rfl
    ·next n3 =>
     show (runX (a23 x) ws).1.stamp=x.stamp
     unfold runX a28 begX a23
     split
     ·split
      ·rfl
      ·split
       ·rfl
       ·split
        ·split <;> rfl
        ·rfl
     ·split <;> rfl
 rw[hY];refine⟨h.nb,by rw[i5];exact h.len,i4,by rw[keep 2 (by omega) (by omega)];exact h.w2,by rw[keep 1 (by omega) (by omega),keep 0 (by omega) (by omega)];exact h.sn,h.so,fun u hu e=>?_,fun u m r hu e=>?_,fun u m y hu e=>?_,fun u v m y m' y' hu hv e1 e2=>?_,fun q=>?_,fun u m y hu e hp5 hp7 v m' r hv hat e2 hr=>?_⟩
 ·by_cases eu:u=t
  ·subst eu
   rw[a08,<- hY]at e
   split at e
   ·next e4=>exact(g2 e4).1
   ·cases e
  ·rw[a24 T Y eu]at e
   rw[keep _ (by omega) (by omega)];exact h.idle u hu e
 ·by_cases eu:u=t
  ·subst eu
   rw[a08,<- hY]at e
   split at e
   ·cases e
   ·next e4 =>
    obtain⟨e1,e2⟩:=aS3 e;subst e1 e2;exact g1 e4
  ·rw[a24 T Y eu]at e
   refine(h.rd u m r hu e).env (zE _) (fun _ _=>rfl) (keep _ (by omega) (by omega)) (fun s q1 q2=>?_);obtain⟨s',e1,_,_,e4,_⟩:=(h.rd u m r hu e).st q1;have:s'=s:=by omega
   subst this;exact⟨e4,fun c h0 _=>.inl (cellw _ (by omega))⟩
 ·by_cases eu:u=t
  ·subst eu
   rw[a08]at e;exact absurd e (notw _ _)
  ·rw[a24 T Y eu]at e
   obtain⟨w1,w2⟩:=h.wr u m y hu e;exact⟨w1.env (keep _ (by omega) (by omega)) (by rw[keep 0 (by omega) (by omega)];omega) (keep 1 (by omega) (by omega)) (fun _ p hp=>cellw p (by rw[<- w1.b];exact hp)),w2⟩
 ·have n1:u≠t:=fun eu=>by subst eu;rw[a08]at e1;exact notw _ _ e1
  have n2:v≠t:=fun ev=>by subst ev;rw[a08]at e2;exact notw _ _ e2
  rw[a24 T Y n1]at e1;rw[a24 T Y n2]at e2;exact h.one u v m y m' y' hu hv e1 e2
 ·refine(h.cells fun u m y hu e=>?_).same cellw
  have n1:u≠t:=fun eu=>by subst eu;rw[hT]at e;cases e
  exact q u m y hu (by rw[a24 T Y n1];exact e)
 ·have n1:u≠t:=fun eu=>by subst eu;rw[a08]at e;exact notw _ _ e
  rw[a24 T Y n1]at e
  by_cases ev:v=t
  ·subst ev
   rw[a08]at e2
   rcases stY m' r e2 hr with⟨p1,es⟩ | es
   ·rw[es]
    exact h.passed u m y hu e hp5 hp7 v m0 x hv hat hT p1
   ·exact es
  ·rw[a24 T Y ev]at e2
   exact h.passed u m y hu e hp5 hp7 v m' r hv hat e2 hr
end
section
variable {C:Cf} {n:Nat} {S:Nat->List Nat} {k:Nat} {T:Nat->Tx} {ws ws':List Int} {t:Nat} {m0:Mac} {x y:Wx}
theorem GI.alone (h:GI C n S k T ws) (ht:t<n) (hT:T t=.wr m0 x) (hp:3<=x.part) {u:Nat} {m:Mac} {z:Wx} (hu:u<n) (hne:u≠t) (hTu:T u=.wr m z):z.part<=2:=by
 refine Classical.byContradiction fun q=>hne ?_
 have e1:=(h.wr t m0 x ht hT).1.sv hp;have e2:=(h.wr u m z hu hTu).1.sv (by omega);exact h.one u t m z m0 x hu ht hTu hT (by omega) (by omega) (e2.trans e1.symm)
theorem GI.moved (h:GI C n S k T ws) (ht:t<n) (hT:T t=.wr m0 x) (hlen:ws'.length=ws.length) (hok:okW ws') (h2:wordAt ws' 2=wordAt ws 2) (hsn:wordAt ws' 1<=wordAt ws' 0) (hcl:∀ u,u<n->wordAt ws' (3+(u:Int))=wordAt ws (3+(u:Int))) (hW:WOk C S k ws' t m0 y)
  (hoth:∀ u m z,u<n->u≠t->T u=.wr m z->WOk C S k ws' u m z) (hone:∀ u m z,u<n->u≠t->T u=.wr m z->2<=z.part->2<=y.part->z.tick≠y.tick)
  (hris:∀ u m r,u<n->T u=.rd m r->r.part≠1->∀ s:Nat,r.stamp=(s:Int)->aB9 C.a C.b (s:Int) ws ws')
  (hcell:(∀ u m z,u<n->upT T t (.wr m0 y) u=.wr m z->z.part≠6/\z.part≠7)->a79 ws' C.a C.b k S)
  (hpass:5<=y.part->y.part<=7->∀ u m r,u<n->(y.part=5->u<y.at_)->T u=.rd m r->r.part≠1->r.stamp=(k:Int)):GI C n S k (upT T t (.wr m0 y)) ws':=by
 have hb0:=(h.wr t m0 x ht hT).2;refine⟨h.nb,by rw[hlen];exact h.len,hok,by rw[h2];exact h.w2,hsn,h.so,fun u hu e=>?_,fun u m r hu e=>?_,fun u m z hu e=>?_,fun u v m z m' z' hu hv e1 e2 p1 p2 et=>?_,hcell,fun u m z hu e hp5 hp7 v m' r hv hat e2 hr=>?_⟩
 ·have eu:u≠t:=fun q=>by subst q;rw[a08]at e;cases e
  rw[a24 _ _ eu]at e;rw[hcl u hu];exact h.idle u hu e
 ·have eu:u≠t:=fun q=>by subst q;rw[a08]at e;cases e
  rw[a24 _ _ eu]at e;refine(h.rd u m r hu e).env (zE _) (fun _ _=>rfl) (hcl u hu) (fun s q1 q2=>?_);obtain⟨s',e1,_,_,e4,_⟩:=(h.rd u m r hu e).st q1;have:s'=s:=by omega
  subst this;exact⟨e4,hris u m r hu e q1 s' q2⟩
 ·by_cases eu:u=t
  ·subst eu
   rw[a08]at e;obtain⟨e1,e2⟩:=ab6 e;subst e1 e2;exact⟨hW,hb0⟩
  ·rw[a24 _ _ eu]at e
   exact⟨hoth u m z hu eu e,(h.wr u m z hu e).2⟩
 ·by_cases eu:u=t
  ·by_cases ev:v=t
   ·omega
   ·rw[a24 _ _ ev]at e2
    subst eu;rw[a08]at e1;obtain⟨_,q2⟩:=ab6 e1;subst q2;exact absurd et.symm (hone v m' z' hv ev e2 p2 p1)
  ·rw[a24 _ _ eu]at e1
   by_cases ev:v=t
   ·subst ev
    rw[a08]at e2;obtain⟨_,q2⟩:=ab6 e2;subst q2;exact absurd et (hone u m z hu eu e1 p1 p2)
   ·rw[a24 _ _ ev]at e2
    exact h.one u v m z m' z' hu hv e1 e2 p1 p2 et
 ·have ev:v≠t:=fun q=>by subst q;rw[a08]at e2;cases e2
  rw[a24 _ _ ev]at e2
  by_cases eu:u=t
  ·subst eu
   rw[a08]at e;obtain⟨_,q2⟩:=ab6 e;subst q2;exact hpass hp5 hp7 v m' r hv hat e2 hr
  ·rw[a24 _ _ eu]at e
   exact h.passed u m z hu e hp5 hp7 v m' r hv hat e2 hr
theorem aq7 {a b st:Int} (e:∀ p,3+b<=p->wordAt ws' p=wordAt ws p):aB9 a b st ws ws':=fun c h0 _=>.inl (e _ (by omega))
theorem GI.writes (h:GI C n S k T ws) (hk:k<4611686018427387904) (hn:wordAt ws 0<4611686018427387904) (ht:t<n) (hT:T t=.wr m0 x) (hp:x.part<=6):GI C n S k (upT T t (.wr m0 (a09 x ws).1)) (a09 x ws).2.1:=by
 obtain⟨W,hb0⟩:=h.wr t m0 x ht hT;have hI:=W.iny;have hP:=hI.part;have hb:=W.b;have hnb:=h.nb;have hcb:=hI.cb;have hca:=hI.ca;have hl:(ws.length:Int)=plY x:=by unfold plY;rw[W.a,W.b];exact h.len
 obtain⟨i1,i2,_,i4,i5⟩:=a94 (ws:=ws) hI W.np h.ok;have claims:∀ u,u<n->wordAt (a09 x ws).2.1 (3+(u:Int))=wordAt ws (3+(u:Int)):=fun u hu=>aK5 hI (by omega) (by rw[hb,hnb];omega)
 rcases(by omega:x.part<=3∨x.part=4∨x.part=5∨x.part=6) with e | e | e | e
 ·-- a48,waiting,marking
  have hW:=W.early h.ok h.w2 (by unfold plY at hl;omega) h.sn hn hb0 e;have cw:∀ p,3+C.b<=p->wordAt (a09 x ws).2.1 p=wordAt ws p:=fun p hp0=>ay2 hI (by omega) (by rw[hb];exact hp0)
  have hw0:wordAt ws 0<=wordAt (a09 x ws).2.1 0/\wordAt (a09 x ws).2.1 1=wordAt ws 1/\wordAt (a09 x ws).2.1 2=wordAt ws 2:=by
   by_cases e1:x.part=1
   ·rw[(a76 e1).1]
    have hpv:Md.Cv.passV (wordAt ws 0)=wordAt ws 0+1:=by
     obtain⟨m,hm⟩:=Int.eq_ofNat_of_zero_le (h.ok.at 0).1;rw[hm];exact a74 (by omega)
    rw[am1 (by unfold plY at hl;omega),hpv];exact⟨by omega,a17 (by omega) (by omega),a17 (by omega) (by omega)⟩
   ·rw[a58 (ws:=ws) ⟨by omega,by omega⟩]
    exact⟨zW _,rfl,rfl⟩
  have pt:(a09 x ws).1.part<=4/\(x.part≠1->(a09 x ws).1.tick=x.tick)/\(x.part=1->(a09 x ws).1.tick=wordAt ws 0)/\(2<=x.part∨(a09 x ws).1.tick=wordAt ws 0):=by
   rcases(by omega:x.part=1∨x.part=2∨x.part=3) with q | q | q
   ·rw[(a76 (ws:=ws) q).2]
    exact⟨by show (2:Nat)<=4;omega,fun z=>absurd q z,fun _=>rfl,.inr rfl⟩
   ·rw[a50]
    unfold a62;rw[if_neg (show ¬ (a16 x).part=1 by show ¬ x.part=1;omega),if_pos (show (a16 x).part=2 from q)];dsimp only
    split
    ·exact⟨by show (3:Nat)<=4;omega,fun _=>rfl,fun z=>by omega,.inl (by omega)⟩
    ·exact⟨by show x.part<=4;omega,fun _=>rfl,fun z=>by omega,.inl (by omega)⟩
   ·rw[a50]
    unfold a62;rw[if_neg (show ¬ (a16 x).part=1 by show ¬ x.part=1;omega),if_neg (show ¬ (a16 x).part=2 by show ¬ x.part=2;omega),if_pos (show (a16 x).part=3 from q)];exact⟨by show (4:Nat)<=4;omega,fun _=>rfl,fun z=>by omega,.inl (by omega)⟩
  refine h.moved ht hT i5 i4 hw0.2.2 (by rw[hw0.2.1];have:=h.sn;omega) claims hW (fun u m z hu hne hTu=>?_) (fun u m z hu hne hTu z2 _=>?_) (fun u m r hu hTu q1 s q2=>aq7 cw) (fun q=>?_) (fun q=>by omega)
  ·exact(h.wr u m z hu hTu).1.env (claims u hu) hw0.1 hw0.2.1 (fun _ p hp0=>cw p (by rw[<- (h.wr u m z hu hTu).1.b];exact hp0))
  ·have tz:=((h.wr u m z hu hTu).1.tk z2).2
   by_cases e1:x.part=1
   ·rw[pt.2.2.1 e1]
    omega
   ·rw[pt.2.1 e1]
    intro et;exact hne (h.one u t m z m0 x hu ht hTu hT z2 (by omega) et)
  ·refine(h.cells fun u m z hu hTu=>?_).same cw
   by_cases eu:u=t
   ·subst eu
    rw[hT]at hTu;obtain⟨_,q2⟩:=ab6 hTu;subst q2;omega
   ·exact q u m z hu (by rw[a24 _ _ eu];exact hTu)
 ·-- running
  have oth:∀ u m z,u<n->u≠t->T u=.wr m z->z.part<=2:=fun u m z hu hne hTu=>h.alone ht hT (by omega) hu hne hTu
  have hC:a79 ws C.a C.b k S:=h.cells fun u m z hu hTu=>by
   by_cases eu:u=t
   ·subst eu
    rw[hT]at hTu;obtain⟨_,q2⟩:=ab6 hTu;subst q2;omega
   ·have:=oth u m z hu eu hTu
    omega
  have hW:=W.run h.ok e hC;have hws:(a09 x ws).2.1=ws:=a58 ⟨by omega,by omega⟩;rw[hws]at hW i4 ⊢;have at0:(a09 x ws).1.tick=x.tick/\(a09 x ws).1.at_=x.at_:=by
   rw[a50];unfold a62;rw[if_neg (show ¬ (a16 x).part=1 by show ¬ x.part=1;omega),if_neg (show ¬ (a16 x).part=2 by show ¬ x.part=2;omega),if_neg (show ¬ (a16 x).part=3 by show ¬ x.part=3;omega),if_pos (show (a16 x).part=4 from e)]
   show (runY (a16 x) ws).1.tick=x.tick/\(runY (a16 x) ws).1.at_=x.at_
   unfold runY
   split
   ·exact⟨rfl,rfl⟩
   ·split
    ·exact⟨rfl,rfl⟩
    ·split <;> exact⟨rfl,rfl⟩
  have p67:(a09 x ws).1.part≠6/\(a09 x ws).1.part≠7:=by
   rw[a50];unfold a62;rw[if_neg (show ¬ (a16 x).part=1 by show ¬ x.part=1;omega),if_neg (show ¬ (a16 x).part=2 by show ¬ x.part=2;omega),if_neg (show ¬ (a16 x).part=3 by show ¬ x.part=3;omega),if_pos (show (a16 x).part=4 from e)]
   show (runY (a16 x) ws).1.part≠6/\(runY (a16 x) ws).1.part≠7
   have e':(a16 x).part=4:=e;unfold runY
   split
   ·dsimp only;omega
   ·split
    ·dsimp only;omega
    ·split
     ·dsimp only
      split <;> omega
     ·dsimp only;omega
  refine h.moved ht hT rfl i4 rfl h.sn (fun _ _=>rfl) hW (fun u m z hu hne hTu=>(h.wr u m z hu hTu).1) (fun u m z hu hne hTu z2 _ et=>?_) (fun u m r hu hTu q1 s q2=>aB9.refl _ _ _ _) (fun _=>hC) (fun q5 q7 u m r hu hat=>?_)
  ·rw[at0.1]at et
   exact hne (h.one u t m z m0 x hu ht hTu hT z2 (by omega) et)
  ·have h5:(a09 x ws).1.part=5:=by omega
   have:=hat h5;rw[at0.2,hI.at4 (by omega)]at this;omega
 ·-- scanning
  have oth:∀ u m z,u<n->u≠t->T u=.wr m z->z.part<=2:=fun u m z hu hne hTu=>h.alone ht hT (by omega) hu hne hTu
  have hC:a79 ws C.a C.b k S:=h.cells fun u m z hu hTu=>by
   by_cases eu:u=t
   ·subst eu
    rw[hT]at hTu;obtain⟨_,q2⟩:=ab6 hTu;subst q2;omega
   ·have:=oth u m z hu eu hTu
    omega
  have hW:=W.scan h.ok hl e hC;have hws:(a09 x ws).2.1=ws:=a58 ⟨by omega,by omega⟩;rw[hws]at hW i4 ⊢;have hst:=W.st (by omega) (by omega);have E:(a09 x ws).1=a97 (a16 x) ws:=by
   rw[a50];unfold a62;rw[if_neg (show ¬ (a16 x).part=1 by show ¬ x.part=1;omega),if_neg (show ¬ (a16 x).part=2 by show ¬ x.part=2;omega),if_neg (show ¬ (a16 x).part=3 by show ¬ x.part=3;omega),if_neg (show ¬ (a16 x).part=4 by show ¬ x.part=4;omega),if_pos (show (a16 x).part=5 from e)]
  have tkE:(a97 (a16 x) ws).tick=x.tick:=by
   unfold a97
   split
   ·split <;> rfl
   ·rfl
  rw[E]at hW ⊢
  -- a reader whose entry was looked at and let by has the stamp
  have let_by:∀ u m r,u<n->T u=.rd m r->r.part≠1->(u:Int)=(x.at_:Int)->(wordAt ws (3+(x.at_:Int))=0∨x.stamp<wordAt ws (3+(x.at_:Int)))->r.stamp=(k:Int):=fun u m r hu hTu hr eu hc=>by
   have R:=h.rd u m r hu hTu;obtain⟨s,e1,e2,e3,_,_⟩:=R.st hr;have c1:=R.ce1 (fun q=>absurd q hr);have c0:=R.inx.k.1;rw[eu]at c1;rw[c1,hst]at hc;omega
  refine h.moved ht hT rfl i4 rfl h.sn (fun _ _=>rfl) hW (fun u m z hu hne hTu=>(h.wr u m z hu hTu).1) (fun u m z hu hne hTu z2 _ et=>?_) (fun u m r hu hTu q1 s q2=>aB9.refl _ _ _ _) (fun _=>hC) (fun q5 q7 u m r hu hat hTu hr=>?_)
  ·rw[tkE]at et
   exact hne (h.one u t m z m0 x hu ht hTu hT z2 (by omega) et)
  ·have old:=fun q=>h.passed t m0 x ht hT (by omega) (by omega) u m r hu q hTu hr
   unfold a97 at hat
   split at hat
   ·next hc =>
    have hc':wordAt ws (3+(x.at_:Int))=0∨x.stamp<wordAt ws (3+(x.at_:Int)):=hc
    split at hat
    ·next hb1 =>
     have hb1':((x.at_+1:Nat):Int)=x.b:=hb1
     by_cases q:u<x.at_
     ·exact old (fun _=>q)
     ·exact let_by u m r hu hTu hr (by omega) hc'
    ·have hat':u<x.at_+1:=hat e
     by_cases q:u<x.at_
     ·exact old (fun _=>q)
     ·exact let_by u m r hu hTu hr (by omega) hc'
   ·have hat':u<x.at_:=hat e
    exact old (fun _=>hat')
 ·-- writing back
  have oth:∀ u m z,u<n->u≠t->T u=.wr m z->z.part<=2:=fun u m z hu hne hTu=>h.alone ht hT (by omega) hu hne hTu
  have hW:=W.back h.ok hl e;obtain⟨E2,E1⟩:=a84 (ws:=ws) e;rw[E2]at hW i4 i5 claims ⊢;rw[E1]at hW ⊢;have hst:=W.st (by omega) (by omega);have low:∀ p,0<=p->p<3+x.b->wordAt (ah7 x ws) p=wordAt ws p:=fun p q0 q1=>a99 hI e q0 q1
  have pt:(ae1 (a16 x)).part=6∨(ae1 (a16 x)).part=7:=by
   unfold ae1;dsimp only
   split
   ·exact .inr rfl
   ·exact .inl rfl
  refine h.moved ht hT i5 i4 (low 2 (by omega) (by omega)) (by rw[low 1 (by omega) (by omega),low 0 (by omega) (by omega)];exact h.sn) claims hW (fun u m z hu hne hTu=>?_) (fun u m z hu hne hTu z2 _ et=>?_) (fun u m r hu hTu q1 s q2=>?_) (fun q=>?_) (fun q5 q7 u m r hu hat hTu hr=>h.passed t m0 x ht hT (by omega) (by omega) u m r hu (fun q=>by omega) hTu hr)
  ·exact(h.wr u m z hu hTu).1.env (claims u hu) (by rw[low 0 (by omega) (by omega)];omega) (low 1 (by omega) (by omega)) (fun q=>by have:=oth u m z hu hne hTu;omega)
  ·exact hne (h.one u t m z m0 x hu ht hTu hT z2 (by omega) et)
  ·have ek:=h.passed t m0 x ht hT (by omega) (by omega) u m r hu (fun q=>by omega) hTu q1
   have:=aO0 hI e (st:=(s:Int)) (by rw[hst,a74 hk];omega) ws hl;rw[W.a,W.b]at this;exact this
  ·have:=q t m0 _ ht (a08 _ _ _)
   omega
end
def more (S:Nat->List Nat) (k:Nat) (l:List Nat):Nat->List Nat:=fun j=>if j=k+1 then l else S j
section
variable {C:Cf} {n:Nat} {S S':Nat->List Nat} {k k':Nat} {T:Nat->Tx} {ws ws':List Int} {t:Nat} {m0:Mac} {x:Wx}
theorem WOk.waits (h:WOk C S k ws t m0 x) (hp:x.part<=2) (hc:wordAt ws' (3+(t:Int))=wordAt ws (3+(t:Int))) (ht:2<=x.part->wordAt ws' 1<=x.tick/\x.tick<wordAt ws' 0):WOk C S' k' ws' t m0 x :=
 ⟨h.iny,h.a,h.b,h.th,h.np,by rw[hc];exact h.ce,h.m3,ht,(fun q=>by omega),(fun q=>by omega),(fun q=>by omega),(fun q=>by omega)⟩
theorem GI.publishes (h:GI C n S k T ws) (hk:k<4611686018427387904) (ht:t<n) (hT:T t=.wr m0 x) (hp:x.part=7):GI C n (more S k (Sx.foldL (S k) x.m.buf)) (k+1) (upT T t (.wr m0 (a09 x ws).1)) (a09 x ws).2.1:=by
 obtain⟨W,hb0⟩:=h.wr t m0 x ht hT;have hI:=W.iny;have hcb:=hI.cb;have hca:=hI.ca;have hnb:=h.nb;have hb:=W.b;have hl:(ws.length:Int)=plY x:=by unfold plY;rw[W.a,W.b];exact h.len
 have so:=h.so k (zE _);obtain⟨w1,w2,w3⟩:=W.pub h.ok hl hk hp so.2 (by rw[W.a];exact so.1);obtain⟨_,_,_,i4,i5⟩:=a94 (ws:=ws) hI W.np h.ok;obtain⟨E2,E1⟩:=a81 (ws:=ws) hp;have keep:∀ p,0<=p->p≠2->wordAt (a09 x ws).2.1 p=wordAt ws p:=fun p q0 q1=>by rw[E2];exact a17 q0 (by omega)
 have oth:∀ u m z,u<n->u≠t->T u=.wr m z->z.part<=2:=fun u m z hu hne hTu=>h.alone ht hT (by omega) hu hne hTu
 have p8:(a09 x ws).1.part=8/\(a09 x ws).1.tick=x.tick:=by rw[E1];exact⟨rfl,rfl⟩
 refine⟨h.nb,by rw[i5];exact h.len,i4,w3,by rw[keep 1 (by omega) (by omega),keep 0 (by omega) (by omega)];exact h.sn,fun j hj=>?_,fun u hu e=>?_,fun u m r hu e=>?_,fun u m z hu e=>?_,fun u v m z m' z' hu hv e1 e2 p1 p2 et=>?_,fun _=>w2,fun u m z hu e hp5 hp7=>?_⟩
 ·unfold more
  by_cases q:j=k+1
  ·rw[if_pos q,Sx.foldL_len]
   exact⟨so.1,aQ7 x.m.buf so.2 hI.rest.inv.buf⟩
  ·rw[if_neg q]
   exact h.so j (by omega)
 ·have eu:u≠t:=fun q=>by subst q;rw[a08]at e;cases e
  rw[a24 _ _ eu]at e;rw[keep _ (by omega) (by omega)];exact h.idle u hu e
 ·have eu:u≠t:=fun q=>by subst q;rw[a08]at e;cases e
  rw[a24 _ _ eu]at e;refine(h.rd u m r hu e).env (Nat.le_succ _) (fun j hj=>by unfold more;rw[if_neg (by omega)]) (keep _ (by omega) (by omega)) (fun s q1 q2=>?_);have:=h.passed t m0 x ht hT (by omega) (by omega) u m r hu (fun q=>by omega) e q1;exact⟨by omega,aq7 (fun p hp0=>keep p (by omega) (by omega))⟩
 ·by_cases eu:u=t
  ·subst eu
   rw[a08]at e;obtain⟨e1,e2⟩:=ab6 e;subst e1 e2;exact⟨w1,hb0⟩
  ·rw[a24 _ _ eu]at e
   obtain⟨z1,z2⟩:=h.wr u m z hu e;exact⟨z1.waits (oth u m z hu eu e) (keep _ (by omega) (by omega)) (fun q=>by rw[keep 1 (by omega) (by omega),keep 0 (by omega) (by omega)];exact z1.tk q),z2⟩
 ·by_cases eu:u=t
  ·by_cases ev:v=t
   ·omega
   ·rw[a24 _ _ ev]at e2
    subst eu;rw[a08]at e1;obtain⟨_,q2⟩:=ab6 e1;subst q2;rw[p8.2]at et;exact h.one u v m0 x m' z' hu hv hT e2 (by omega) p2 et
  ·rw[a24 _ _ eu]at e1
   by_cases ev:v=t
   ·subst ev
    rw[a08]at e2;obtain⟨_,q2⟩:=ab6 e2;subst q2;rw[p8.2]at et;exact h.one u v m z m0 x hu hv e1 hT p1 (by omega) et
   ·rw[a24 _ _ ev]at e2
    exact h.one u v m z m' z' hu hv e1 e2 p1 p2 et
 ·by_cases eu:u=t
  ·subst eu
   rw[a08]at e;obtain⟨_,q2⟩:=ab6 e;subst q2;omega
  ·rw[a24 _ _ eu]at e
   have:=oth u m z hu eu e;omega
theorem GI.passes (h:GI C n S k T ws) (hn:wordAt ws 0<4611686018427387904) (ht:t<n) (hT:T t=.wr m0 x) (hp:x.part=8):GI C n S k (upT T t .idle) (a09 x ws).2.1:=by
 obtain⟨W,_⟩:=h.wr t m0 x ht hT;have hI:=W.iny;have hcb:=hI.cb;have hca:=hI.ca;have hnb:=h.nb;have hb:=W.b;obtain⟨_,_,_,i4,i5⟩:=a94 (ws:=ws) hI W.np h.ok;obtain⟨E2,_⟩:=a85 (ws:=ws) hp;have tk:=W.tk (by omega);have ts:=W.sv (by omega);have hpv:Md.Cv.passV x.tick=x.tick+1:=by
  obtain⟨q,hq⟩:=Int.eq_ofNat_of_zero_le hI.tk.1;rw[hq];exact a74 (by omega)
 have keep:∀ p,0<=p->p≠1->wordAt (a09 x ws).2.1 p=wordAt ws p:=fun p q0 q1=>by rw[E2];exact a17 q0 (by omega)
 have s1:wordAt (a09 x ws).2.1 1=x.tick+1:=by
  rw[E2,<- hpv];exact ar7 (k:=1) (by have:=h.len;have:=W.a;omega) _
 have oth:∀ u m z,u<n->u≠t->T u=.wr m z->z.part<=2:=fun u m z hu hne hTu=>h.alone ht hT (by omega) hu hne hTu
 have nt:∀ u m z,upT T t .idle u=.wr m z->u≠t/\T u=.wr m z:=fun u m z e=>by
  have eu:u≠t:=fun q=>by subst q;rw[a08]at e;cases e
  rw[a24 _ _ eu]at e;exact⟨eu,e⟩
 have nr:∀ u m r,upT T t .idle u=.rd m r->u≠t/\T u=.rd m r:=fun u m r e=>by
  have eu:u≠t:=fun q=>by subst q;rw[a08]at e;cases e
  rw[a24 _ _ eu]at e;exact⟨eu,e⟩
 refine⟨h.nb,by rw[i5];exact h.len,i4,by rw[keep 2 (by omega) (by omega)];exact h.w2,by rw[s1,keep 0 (by omega) (by omega)];omega,h.so,fun u hu e=>?_,fun u m r hu e=>?_,fun u m z hu e=>?_,fun u v m z m' z' hu hv e1 e2 p1 p2 et=>h.one u v m z m' z' hu hv (nt _ _ _ e1).2 (nt _ _ _ e2).2 p1 p2 et,fun _=>?_,fun u m z hu e hp5 hp7=>?_⟩
 ·rw[keep _ (by omega) (by omega)]
  by_cases eu:u=t
  ·subst eu
   exact W.ce
  ·rw[a24 _ _ eu]at e
   exact h.idle u hu e
 ·obtain⟨eu,e⟩:=nr _ _ _ e
  refine(h.rd u m r hu e).env (zE _) (fun _ _=>rfl) (keep _ (by omega) (by omega)) (fun s q1 q2=>?_);obtain⟨s',e1,_,_,e4,_⟩:=(h.rd u m r hu e).st q1;have:s'=s:=by omega
  subst this;exact⟨e4,aq7 (fun p hp0=>keep p (by omega) (by omega))⟩
 ·obtain⟨eu,e⟩:=nt _ _ _ e
  obtain⟨z1,z2⟩:=h.wr u m z hu e;refine⟨z1.waits (oth u m z hu eu e) (keep _ (by omega) (by omega)) (fun q=>?_),z2⟩;have zt:=z1.tk q;have ne:z.tick≠x.tick:=fun et=>eu (h.one u t m z m0 x hu ht e hT q (by omega) et)
  rw[s1,keep 0 (by omega) (by omega)];omega
 ·refine(h.cells fun u m z hu e=>?_).same (fun p hp0=>keep p (by omega) (by omega))
  by_cases eu:u=t
  ·subst eu
   rw[hT]at e;obtain⟨_,q2⟩:=ab6 e;subst q2;omega
  ·have:=oth u m z hu eu e
   omega
 ·obtain⟨eu,e⟩:=nt _ _ _ e
  have:=oth u m z hu eu e;omega
theorem GI.begins_rd (h:GI C n S k T ws) (ht:t<n) (hT:T t=.idle) {y:Rx} (hI:InX y) (ha:y.a=C.a) (hb:y.b=C.b) (hth:y.th=(t:Int)) (h1:y.part=1) (hs:y.sub=0) (hm:y.m=m0):GI C n S k (upT T t (.rd m0 y)) ws:=by
 have nt:∀ u m z,upT T t (.rd m0 y) u=.wr m z->T u=.wr m z:=fun u m z e=>by
  have eu:u≠t:=fun q=>by subst q;rw[a08]at e;cases e
  rw[a24 _ _ eu]at e;exact e
 refine⟨h.nb,h.len,h.ok,h.w2,h.sn,h.so,fun u hu e=>?_,fun u m r hu e=>?_,fun u m z hu e=>h.wr u m z hu (nt _ _ _ e),fun u v m z m' z' hu hv e1 e2=>h.one u v m z m' z' hu hv (nt _ _ _ e1) (nt _ _ _ e2),fun q=>h.cells fun u m z hu e=>?_,fun u m z hu e hp5 hp7 v m' r hv hat e2 hr=>?_⟩
 ·have eu:u≠t:=fun q=>by subst q;rw[a08]at e;cases e
  rw[a24 _ _ eu]at e;exact h.idle u hu e
 ·by_cases eu:u=t
  ·subst eu
   rw[a08]at e;obtain⟨e1,e2⟩:=aS3 e;subst e1 e2;exact⟨hI,ha,hb,hth,by omega,fun _=>hm,(fun _ q=>by omega),fun _ _=>h.idle u hu hT,(fun q=>by have:=q h1;omega),fun q=>absurd h1 q⟩
  ·rw[a24 _ _ eu]at e
   exact h.rd u m r hu e
 ·have eu:u≠t:=fun q=>by subst q;rw[hT]at e;cases e
  exact q u m z hu (by rw[a24 _ _ eu];exact e)
 ·by_cases ev:v=t
  ·subst ev
   rw[a08]at e2;obtain⟨_,q2⟩:=aS3 e2;subst q2;exact absurd h1 hr
  ·rw[a24 _ _ ev]at e2
   exact h.passed u m z hu (nt _ _ _ e) hp5 hp7 v m' r hv hat e2 hr
theorem GI.begins_wr (h:GI C n S k T ws) (ht:t<n) (hT:T t=.idle) {y:Wx} (hI:InY y) (ha:y.a=C.a) (hb:y.b=C.b) (hth:y.th=(t:Int)) (h1:y.part=1) (hm:y.m=m0) (hw:y.was=[]) (hb0:m0.buf=[]):GI C n S k (upT T t (.wr m0 y)) ws:=by
 have nr:∀ u m r,upT T t (.wr m0 y) u=.rd m r->T u=.rd m r:=fun u m r e=>by
  have eu:u≠t:=fun q=>by subst q;rw[a08]at e;cases e
  rw[a24 _ _ eu]at e;exact e
 have late:∀ u m z,upT T t (.wr m0 y) u=.wr m z->2<=z.part->T u=.wr m z:=fun u m z e q=>by
  have eu:u≠t:=fun q'=>by
   subst q';rw[a08]at e;obtain⟨_,q2⟩:=ab6 e;subst q2;omega
  rw[a24 _ _ eu]at e;exact e
 refine⟨h.nb,h.len,h.ok,h.w2,h.sn,h.so,fun u hu e=>?_,fun u m r hu e=>h.rd u m r hu (nr _ _ _ e),fun u m z hu e=>?_,fun u v m z m' z' hu hv e1 e2 p1 p2=>h.one u v m z m' z' hu hv (late _ _ _ e1 p1) (late _ _ _ e2 p2) p1 p2,fun q=>h.cells fun u m z hu e=>?_,fun u m z hu e hp5 hp7 v m' r hv hat e2 hr=>h.passed u m z hu (late _ _ _ e (by omega)) hp5 hp7 v m' r hv hat (nr _ _ _ e2) hr⟩
 ·have eu:u≠t:=fun q=>by subst q;rw[a08]at e;cases e
  rw[a24 _ _ eu]at e;exact h.idle u hu e
 ·by_cases eu:u=t
  ·subst eu
   rw[a08]at e;obtain⟨e1,e2⟩:=ab6 e;subst e1 e2;exact⟨⟨hI,ha,hb,hth,by omega,h.idle u hu hT,fun _=>⟨hm,hw⟩,(fun q=>by omega),(fun q=>by omega),(fun q=>by omega),(fun q=>by omega),(fun q=>by omega)⟩,hb0⟩
  ·rw[a24 _ _ eu]at e
   exact h.wr u m z hu e
 ·have eu:u≠t:=fun q=>by subst q;rw[hT]at e;cases e
  exact q u m z hu (by rw[a24 _ _ eu];exact e)
end
def Held (n:Nat) (T:Nat->Tx) (ws:List Int):Prop:=∀ j:Int,wordAt ws 1<=j->j<wordAt ws 0->∃ t m x,t<n/\T t=.wr m x/\2<=x.part/\x.tick=j
section
variable {C:Cf} {n:Nat} {S:Nat->List Nat} {k:Nat} {T:Nat->Tx} {ws ws':List Int} {t:Nat} {m0:Mac} {x:Wx}
theorem Held.other (h:Held n T ws) {Y:Tx} (hT:∀ m z,T t≠.wr m z) (h0:wordAt ws' 0=wordAt ws 0) (h1:wordAt ws' 1=wordAt ws 1):Held n (upT T t Y) ws':=fun j j1 j2=>by
 rw[h1]at j1;rw[h0]at j2;obtain⟨u,m,z,hu,e,p,et⟩:=h j j1 j2;have eu:u≠t:=fun q=>by subst q;exact hT _ _ e
 exact⟨u,m,z,hu,by rw[a24 _ _ eu];exact e,p,et⟩
theorem Held.begins_wr (h:Held n T ws) (hT:T t=.idle) {y:Wx}:Held n (upT T t (.wr m0 y)) ws:=h.other (fun m z e=>by rw[hT]at e;cases e) rfl rfl
theorem Held.writes (h:Held n T ws) (hG:GI C n S k T ws) (hn:wordAt ws 0<4611686018427387904) (ht:t<n) (hT:T t=.wr m0 x) (hp:x.part<=7):Held n (upT T t (.wr m0 (a09 x ws).1)) (a09 x ws).2.1:=by
 obtain⟨W,_⟩:=hG.wr t m0 x ht hT;have hI:=W.iny;have hP:=hI.part;have hcb:=hI.cb;have hca:=hI.ca;have hl:=hG.len;have ha:=W.a;have hb:=W.b
 by_cases e1:x.part=1
 ·obtain⟨E2,E1⟩:=a76 (ws:=ws) e1
  have hpv:Md.Cv.passV (wordAt ws 0)=wordAt ws 0+1:=by
   obtain⟨q,hq⟩:=Int.eq_ofNat_of_zero_le (hG.ok.at 0).1;rw[hq];exact a74 (by omega)
  intro j j1 j2;rw[E2,a17 (by omega) (by omega)]at j1;rw[E2,am1 (by omega),hpv]at j2
  by_cases ej:j=wordAt ws 0
  ·exact⟨t,m0,_,ht,a08 _ _ _,by rw[E1];exact zE 2,by rw[E1,ej]⟩
  ·obtain⟨u,m,z,hu,e,p,et⟩:=h j j1 (by omega)
   have eu:u≠t:=fun q=>by
    subst q;rw[hT]at e;obtain⟨_,q2⟩:=ab6 e;subst q2;omega
   exact⟨u,m,z,hu,by rw[a24 _ _ eu];exact e,p,et⟩
 ·have hw:wordAt (a09 x ws).2.1 0=wordAt ws 0/\wordAt (a09 x ws).2.1 1=wordAt ws 1:=by
   rcases(by omega:(2<=x.part/\x.part<=5)∨x.part=6∨x.part=7) with e | e | e
   ·rw[a58 e]
    exact⟨rfl,rfl⟩
   ·rw[(a84 e).1]
    exact⟨a99 hI e (by omega) (by omega),a99 hI e (by omega) (by omega)⟩
   ·rw[(a81 e).1]
    exact⟨a17 (by omega) (by omega),a17 (by omega) (by omega)⟩
  have hy:2<=(a09 x ws).1.part/\(a09 x ws).1.tick=x.tick:=by
   rcases(by omega:x.part=2∨x.part=3∨x.part=4∨x.part=5∨x.part=6∨x.part=7) with e | e | e | e | e | e
   ·rw[a50]
    unfold a62;rw[if_neg (show ¬ (a16 x).part=1 from e1),if_pos (show (a16 x).part=2 from e)];dsimp only
    split
    ·exact⟨by show 2<=3;omega,rfl⟩
    ·exact⟨by show 2<=x.part;omega,rfl⟩
   ·rw[a50]
    unfold a62;rw[if_neg (show ¬ (a16 x).part=1 from e1),if_neg (show ¬ (a16 x).part=2 by show ¬ x.part=2;omega),if_pos (show (a16 x).part=3 from e)];exact⟨by show 2<=4;omega,rfl⟩
   ·rw[a50]
    unfold a62;rw[if_neg (show ¬ (a16 x).part=1 from e1),if_neg (show ¬ (a16 x).part=2 by show ¬ x.part=2;omega),if_neg (show ¬ (a16 x).part=3 by show ¬ x.part=3;omega),if_pos (show (a16 x).part=4 from e)]
    show 2<=(runY (a16 x) ws).1.part/\(runY (a16 x) ws).1.tick=x.tick
    have e':(a16 x).part=4:=e;unfold runY
    split
    ·exact⟨by dsimp only;omega,rfl⟩
    ·split
     ·exact⟨by dsimp only;omega,rfl⟩
     ·split
      ·refine⟨?_,rfl⟩
       dsimp only
       split <;> omega
      ·exact⟨by dsimp only;omega,rfl⟩
   ·rw[a50]
    unfold a62;rw[if_neg (show ¬ (a16 x).part=1 from e1),if_neg (show ¬ (a16 x).part=2 by show ¬ x.part=2;omega),if_neg (show ¬ (a16 x).part=3 by show ¬ x.part=3;omega),if_neg (show ¬ (a16 x).part=4 by show ¬ x.part=4;omega),if_pos (show (a16 x).part=5 from e)]
    show 2<=(a97 (a16 x) ws).part/\(a97 (a16 x) ws).tick=x.tick
    have e':(a16 x).part=5:=e;unfold a97
    split
    ·split
     ·refine⟨?_,rfl⟩
      dsimp only
      split <;> omega
     ·exact⟨by dsimp only;omega,rfl⟩
    ·exact⟨by omega,rfl⟩
   ·rw[(a84 (ws:=ws) e).2]
    refine⟨?_,rfl⟩;unfold ae1;dsimp only
    split <;> omega
   ·rw[(a81 (ws:=ws) e).2]
    exact⟨by show 2<=8;omega,rfl⟩
  intro j j1 j2;rw[hw.2]at j1;rw[hw.1]at j2;obtain⟨u,m,z,hu,e,p,et⟩:=h j j1 j2
  by_cases eu:u=t
  ·subst eu
   rw[hT]at e;obtain⟨_,q2⟩:=ab6 e;subst q2;exact⟨u,m0,_,hu,a08 _ _ _,hy.1,hy.2.trans et⟩
  ·exact⟨u,m,z,hu,by rw[a24 _ _ eu];exact e,p,et⟩
theorem Held.passes (h:Held n T ws) (hG:GI C n S k T ws) (hn:wordAt ws 0<4611686018427387904) (ht:t<n) (hT:T t=.wr m0 x) (hp:x.part=8):Held n (upT T t .idle) (a09 x ws).2.1:=by
 obtain⟨W,_⟩:=hG.wr t m0 x ht hT;have hI:=W.iny;have hcb:=hI.cb;have hca:=hI.ca;have hl:=hG.len;have ha:=W.a;have hb:=W.b;obtain⟨E2,_⟩:=a85 (ws:=ws) hp;have tk:=W.tk (by omega);have ts:=W.sv (by omega);have hpv:Md.Cv.passV x.tick=x.tick+1:=by
  obtain⟨q,hq⟩:=Int.eq_ofNat_of_zero_le hI.tk.1;rw[hq];exact a74 (by omega)
 have s1:wordAt (a09 x ws).2.1 1=x.tick+1:=by
  rw[E2,<- hpv];exact ar7 (k:=1) (by omega) _
 intro j j1 j2;rw[s1]at j1;rw[E2,a17 (by omega) (by omega)]at j2;obtain⟨u,m,z,hu,e,p,et⟩:=h j (by omega) j2;have eu:u≠t:=fun q=>by
  subst q;rw[hT]at e;obtain⟨_,q2⟩:=ab6 e;subst q2;omega
 exact⟨u,m,z,hu,by rw[a24 _ _ eu];exact e,p,et⟩
end
def cu (f:Nat->Bool):Nat->Nat
 | 0=>0
 | n+1=>cu f n+(f n).toNat
theorem al0 {f g:Nat->Bool}:∀ n,(∀ i,i<n->f i=g i)->cu f n=cu g n
 | 0,_=>rfl
 | n+1,h=>by
  show cu f n+(f n).toNat=cu g n+(g n).toNat
  rw[al0 n (fun i hi=>h i (by omega)),h n (by omega)]
theorem aQ3 {f g:Nat->Bool} {t:Nat}:∀ n,t<n->(∀ i,i<n->i≠t->g i=f i)->cu g n+(f t).toNat=cu f n+(g t).toNat
 | 0,h,_=>absurd h (zI _)
 | n+1,h,k=>by
  show cu g n+(g n).toNat+(f t).toNat=cu f n+(f n).toNat+(g t).toNat
  by_cases e:t=n
  ·subst e
   rw[al0 t (fun i hi=>k i (by omega) (by omega))];omega
  ·have:=aQ3 n (by omega) (fun i hi=>k i (by omega))
   rw[k n (by omega) (fun q=>e q.symm)];omega
theorem b23 {f:Nat->Bool} (n:Nat) (h:∀ i,i<n->f i=false):cu f n=0:=by
 rw[al0 (g:=fun _=>false) n h]
 induction n with
 | zero=>rfl
 | succ n ih=>exact ih (fun i hi=>h i (by omega))
theorem bC5 {f g:Nat->Bool}:∀ n,(∀ i,i<n->f i=true->g i=true)->cu f n<=cu g n
 | 0,_=>zE _
 | n+1,h=>Nat.add_le_add (bC5 n (fun i hi=>h i (by omega))) (by
   cases q:f n with
   | false=>exact zV _
   | true=>rw[h n (by omega) q];exact zE _)
def su (f:Nat->Nat):Nat->Nat
 | 0=>0
 | n+1=>su f n+f n
theorem ba8 {f g:Nat->Nat}:∀ n,(∀ i,i<n->f i=g i)->su f n=su g n
 | 0,_=>rfl
 | n+1,h=>by
  show su f n+f n=su g n+g n
  rw[ba8 n (fun i hi=>h i (by omega)),h n (by omega)]
theorem aT0 {f g:Nat->Nat} {t:Nat}:∀ n,t<n->(∀ i,i<n->i≠t->g i=f i)->su g n+f t=su f n+g t
 | 0,h,_=>absurd h (zI _)
 | n+1,h,k=>by
  show su g n+g n+f t=su f n+f n+g t
  by_cases e:t=n
  ·subst e
   rw[ba8 t (fun i hi=>k i (by omega) (by omega))];omega
  ·have:=aT0 n (by omega) (fun i hi=>k i (by omega))
   rw[k n (by omega) (fun q=>e q.symm)];omega
theorem bA0 {f g:Nat->Nat}:∀ n,(∀ i,i<n->f i<=g i)->su f n<=su g n
 | 0,_=>zE _
 | n+1,h=>Nat.add_le_add (bA0 n (fun i hi=>h i (by omega))) (h n (by omega))
structure Eg where
 C:Cf
 n:Nat
 nc:Nat->Nat
 nx:Nat->Nat->Tx
 T:Nat->Tx
 B:Nat->Nat
 ws:List Int
 cnt:Int
 drw:Nat
 com:Nat
def isW:Tx->Bool
 | some (.inr _)=>true
 | _=>false
def a48:Tx->Bool
 | some (.inr (_,x))=>x.part == 1
 | _=>false
def pubd:Tx->Bool
 | some (.inr (_,x))=>x.part == 8 && x.m.how == 1
 | _=>false
def updN (B:Nat->Nat) (t v:Nat):Nat->Nat:=fun u=>if u=t then v else B u
theorem a41 (B:Nat->Nat) (t v:Nat):updN B t v t=v:=if_pos rfl
theorem a67 (B:Nat->Nat) {t u:Nat} (v:Nat) (h:u≠t):updN B t v u=B u:=if_neg h
def begE (E:Eg) (t:Nat):Eg:=if (E.T t).isNone then { E with T:=upT E.T t (E.nx t (E.B t)),B:=updN E.B t (E.B t+1),drw:=E.drw+(isW (E.nx t (E.B t))).toNat } else E
def goT:Tx->List Int->Tx × List Int × Bool × Bool
 | none,ws=>(none,ws,false,false)
 | some (.inl (m,x)),ws=>(if (a19 x ws).1.part=4 then .idle else .rd m (a19 x ws).1,(a19 x ws).2.1,(a19 x ws).2.2,false)
 | some (.inr (m,x)),ws=>(if (a09 x ws).1.part=9 then .idle else .wr m (a09 x ws).1,(a09 x ws).2.1,(a09 x ws).2.2,decide ((a09 x ws).1.part=9) && x.m.how == 1)
def goE (E:Eg) (t:Nat):Eg:={ E with T:=upT E.T t (goT (E.T t) E.ws).1,ws:=(goT (E.T t) E.ws).2.1,cnt:=if (goT (E.T t) E.ws).2.2.1 then up E.cnt else E.cnt,com:=E.com+(goT (E.T t) E.ws).2.2.2.toNat }
abbrev finE (E:Eg) (t:Nat):Prop:=E.T t=.idle/\E.B t=E.nc t
def aq8 (E:Eg) (t:Nat):Eg:=goE (begE E t) t
def br8 (C:Cf) (t:Nat) (y:Tx):Prop:=(∃ x,y=.rd x.m x/\InX x/\x.a=C.a/\x.b=C.b/\x.th=(t:Int)/\x.part=1/\x.sub=0/\x.steps=0)∨∃ x,y=.wr x.m x/\InY x/\x.a=C.a/\x.b=C.b/\x.th=(t:Int)/\x.part=1/\x.was=[]/\x.m.buf=[]
structure EI (E:Eg) (S:Nat->List Nat) (k:Nat):Prop where
 gi:GI E.C E.n S k E.T E.ws
 held:Held E.n E.T E.ws
 new:∀ t j,t<E.n->j<E.nc t->br8 E.C t (E.nx t j)
 bg:∀ t,t<E.n->E.B t<=E.nc t
 dr:wordAt E.ws 0+(cu (fun t=>a48 (E.T t)) E.n:Int)=(E.drw:Int)
 cm:k=E.com+cu (fun t=>pubd (E.T t)) E.n
 few:E.drw<=su E.B E.n
 all:su E.nc E.n<=1000000
 ck:E.com+cu (fun t=>isW (E.T t)) E.n<=E.drw
theorem aJ2 {x:Wx} {ws:List Int} (hI:InY x) (hp:x.part<=6):(a09 x ws).1.part≠9/\((a09 x ws).1.part=8->(a09 x ws).1.m.how≠1)/\(a09 x ws).1.part≠1:=by
 have hP:=hI.part;have e8:(a16 x).part=x.part:=rfl;unfold a09 a62
 rcases(by omega:x.part=1∨x.part=2∨x.part=3∨x.part=4∨x.part=5∨x.part=6) with e | e | e | e | e | e
 ·rw[if_pos (e8.trans e)]
  exact⟨by dsimp only;omega,fun q=>by dsimp only at q;omega,by dsimp only;omega⟩
 ·rw[if_neg (by omega),if_pos (e8.trans e)]
  dsimp only
  split
  ·exact⟨by dsimp only;omega,fun q=>by dsimp only at q;omega,by dsimp only;omega⟩
  ·exact⟨by omega,fun q=>by omega,by omega⟩
 ·rw[if_neg (by omega),if_neg (by omega),if_pos (e8.trans e)]
  exact⟨by dsimp only;omega,fun q=>by dsimp only at q;omega,by dsimp only;omega⟩
 ·rw[if_neg (by omega),if_neg (by omega),if_neg (by omega),if_pos (e8.trans e)]
  show (runY (a16 x) ws).1.part≠9/\((runY (a16 x) ws).1.part=8->(runY (a16 x) ws).1.m.how≠1)/\(runY (a16 x) ws).1.part≠1
  unfold runY
  split
  ·exact⟨by dsimp only;omega,fun q=>by dsimp only at q;omega,by dsimp only;omega⟩
  ·split
   ·exact⟨by dsimp only;omega,fun q=>by dsimp only at q;omega,by dsimp only;omega⟩
   ·split
    ·dsimp only
     split
     ·exact⟨by omega,fun q=>by omega,by omega⟩
     ·next q=>exact⟨by omega,fun _=>q,by omega⟩
    ·exact⟨by dsimp only;omega,fun q=>by dsimp only at q;omega,by dsimp only;omega⟩
 ·rw[if_neg (by omega),if_neg (by omega),if_neg (by omega),if_neg (by omega),if_pos (e8.trans e)]
  show (a97 (a16 x) ws).part≠9/\((a97 (a16 x) ws).part=8->(a97 (a16 x) ws).m.how≠1)/\(a97 (a16 x) ws).part≠1
  unfold a97
  split
  ·split
   ·dsimp only
    split
    ·exact⟨by omega,fun q=>by omega,by omega⟩
    ·exact⟨by omega,fun q=>by omega,by omega⟩
   ·exact⟨by dsimp only;omega,fun q=>by dsimp only at q;omega,by dsimp only;omega⟩
  ·exact⟨by omega,fun q=>by omega,by omega⟩
 ·rw[if_neg (by omega),if_neg (by omega),if_neg (by omega),if_neg (by omega),if_neg (by omega),if_pos (e8.trans e)]
  show (ae1 (a16 x)).part≠9/\((ae1 (a16 x)).part=8->_)/\(ae1 (a16 x)).part≠1
  unfold ae1;dsimp only
  split
  ·exact⟨by omega,fun q=>by omega,by omega⟩
  ·exact⟨by omega,fun q=>by omega,by omega⟩
section
variable {E:Eg} {S:Nat->List Nat} {k t:Nat}
theorem EI.next (h:EI E S k):wordAt E.ws 0<=1000000:=by
 have h1:=bA0 (f:=E.B) (g:=E.nc) E.n h.bg;have h2:=h.dr;have h3:=h.few;have h4:=h.all;omega
theorem am9 {f:Tx->Bool} {T:Nat->Tx} {n:Nat} (ht:t<n) (Y:Tx):cu (fun u=>f (upT T t Y u)) n+(f (T t)).toNat=cu (fun u=>f (T u)) n+(f Y).toNat:=by
 have:=aQ3 (f:=fun u=>f (T u)) (g:=fun u=>f (upT T t Y u)) n ht (fun i _ hne=>by rw[a24 T Y hne]);simp only[a08]at this;exact this
theorem EI.begins (h:EI E S k) (ht:t<E.n) (hf:¬ finE E t):EI (begE E t) S k/\(begE E t).T t≠.idle:=by
 unfold begE
 cases hT:E.T t with
 | some y=>exact⟨by simpa[hT]using h,by simp[hT]⟩
 | none =>
  have hb:=h.bg t ht;have hlt:E.B t<E.nc t:=by
   rcases Nat.lt_or_eq_of_le hb with q | q
   ·exact q
   ·exact absurd ⟨hT,q⟩ hf
  have hs:su (updN E.B t (E.B t+1)) E.n=su E.B E.n+1:=by
   have:=aT0 (f:=E.B) (g:=updN E.B t (E.B t+1)) E.n ht (fun i _ hne=>a67 E.B _ hne);rw[a41]at this;omega
  have bg':∀ u,u<E.n->updN E.B t (E.B t+1) u<=E.nc u:=fun u hu=>by
   by_cases e:u=t
   ·subst e
    rw[a41];exact hlt
   ·rw[a67 E.B _ e]
    exact h.bg u hu
  have hd:=am9 (f:=a48) (T:=E.T) (n:=E.n) ht (E.nx t (E.B t));have hp:=am9 (f:=pubd) (T:=E.T) (n:=E.n) ht (E.nx t (E.B t));have hw:=am9 (f:=isW) (T:=E.T) (n:=E.n) ht (E.nx t (E.B t));rw[hT]at hd hp hw;have hdr:=h.dr;have hcm:=h.cm;have hfw:=h.few;have hck:=h.ck;simp only[Option.isNone_none,if_true]
  rcases h.new t (E.B t) ht hlt with⟨x,e,q1,q2,q3,q4,q5,q6,_⟩ | ⟨x,e,q1,q2,q3,q4,q5,q6,q7⟩
  ·rw[e]at hd hp hw ⊢
   have z6:(isW (none:Tx)).toNat=0:=rfl;have z1:(a48 (Tx.rd x.m x)).toNat=0:=rfl;have z2:(pubd (Tx.rd x.m x)).toNat=0:=rfl;have z3:(a48 (none:Tx)).toNat=0:=rfl;have z4:(pubd (none:Tx)).toNat=0:=rfl;have z5:(isW (Tx.rd x.m x)).toNat=0:=rfl;rw[z1,z3]at hd;rw[z2,z4]at hp;rw[z5,z6]at hw;refine⟨⟨h.gi.begins_rd ht hT q1 q2 q3 q4 q5 q6 rfl,h.held.other (fun m z e=>by rw[hT]at e;cases e) rfl rfl,h.new,bg',?_,?_,?_,h.all,?_⟩,by rw[a08];simp⟩
   ·dsimp only;rw[z5];omega
   ·dsimp only;omega
   ·dsimp only;rw[hs,z5];omega
   ·dsimp only;rw[z5];omega
  ·rw[e]at hd hp hw ⊢
   have z6:(isW (none:Tx)).toNat=0:=rfl;have z1:(a48 (Tx.wr x.m x)).toNat=1:=by simp[a48,q5]
   have z2:(pubd (Tx.wr x.m x)).toNat=0:=by simp[pubd,q5]
   have z3:(a48 (none:Tx)).toNat=0:=rfl;have z4:(pubd (none:Tx)).toNat=0:=rfl;have z5:(isW (Tx.wr x.m x)).toNat=1:=rfl;rw[z1,z3]at hd;rw[z2,z4]at hp;rw[z5,z6]at hw;refine⟨⟨h.gi.begins_wr ht hT q1 q2 q3 q4 q5 rfl q6 q7,h.held.begins_wr hT,h.new,bg',?_,?_,?_,h.all,?_⟩,by rw[a08];simp⟩
   ·dsimp only;rw[z5];omega
   ·dsimp only;omega
   ·dsimp only;rw[hs,z5];omega
   ·dsimp only;rw[z5];omega
theorem EI.stamp (h:EI E S k):k<=1000000:=by
 have h1:=h.cm;have h2:cu (fun t=>pubd (E.T t)) E.n<=cu (fun t=>isW (E.T t)) E.n:=bC5 _ fun i _ q=>by
  cases hT:E.T i with
  | none=>rw[hT]at q;exact q
  | some y=>cases y with
   | inl p=>rw[hT]at q;exact q
   | inr p=>rfl
 have h3:=h.few;have h4:=bA0 (f:=E.B) (g:=E.nc) E.n h.bg;have h5:=h.all;have h6:=h.ck;omega
theorem EI.goes_rd (h:EI E S k) (ht:t<E.n) {m:Mac} {x:Rx} (hT:E.T t=.rd m x):EI (goE E t) S k:=by
 have hks:=h.stamp;have R:=h.gi.rd t m x ht hT;have hth:=R.inx.th;have kp:∀ p,0<=p->p<3->wordAt (a19 x E.ws).2.1 p=wordAt E.ws p:=fun p q0 q1=>ah1 R.inx q0 (by omega)
 obtain⟨Y,hY⟩:∃ Y,(if (a19 x E.ws).1.part=4 then Tx.idle else .rd m (a19 x E.ws).1)=Y:=⟨_,rfl⟩
 have eg:goE E t={ E with T:=upT E.T t Y,ws:=(a19 x E.ws).2.1,cnt:=if (a19 x E.ws).2.2 then up E.cnt else E.cnt,com:=E.com+0 }:=by
  unfold goE;rw[hT,<- hY]
  rfl
 have y1:(a48 Y).toNat=0/\(pubd Y).toNat=0/\(isW Y).toNat=0:=by
  rw[<- hY]
  split <;> exact⟨rfl,rfl,rfl⟩
 have x1:(a48 (E.T t)).toNat=0/\(pubd (E.T t)).toNat=0/\(isW (E.T t)).toNat=0:=by rw[hT];exact⟨rfl,rfl,rfl⟩
 have hd:=am9 (f:=a48) (T:=E.T) (n:=E.n) ht Y;have hp:=am9 (f:=pubd) (T:=E.T) (n:=E.n) ht Y;have hw:=am9 (f:=isW) (T:=E.T) (n:=E.n) ht Y;have hdr:=h.dr;have hcm:=h.cm;have hck:=h.ck;have g:=h.gi.reads (by omega) ht hT;rw[hY]at g;rw[eg];refine⟨g,h.held.other (fun m' z e=>by rw[hT]at e;cases e) (kp 0 (by omega) (by omega)) (kp 1 (by omega) (by omega)),h.new,h.bg,?_,?_,h.few,h.all,?_⟩
 ·dsimp only
  rw[kp 0 (by omega) (by omega)];omega
 ·dsimp only
  omega
 ·dsimp only
  omega
theorem EI.goes_wr (h:EI E S k) (ht:t<E.n) {m:Mac} {x:Wx} (hT:E.T t=.wr m x):∃ S' k',EI (goE E t) S' k'/\(x.part≠7->S'=S/\k'=k)/\(x.part=7->S'=more S k (Sx.foldL (S k) x.m.buf)/\k'=k+1):=by
 have hks:=h.stamp;have hnx:=h.next;obtain⟨Wk,hm0⟩:=h.gi.wr t m x ht hT;have hI:=Wk.iny;have hP:=hI.part;have hnp:=Wk.np;have hb:=hI.cb;obtain⟨Y,hY⟩:∃ Y,(if (a09 x E.ws).1.part=9 then Tx.idle else .wr m (a09 x E.ws).1)=Y:=⟨_,rfl⟩
 have eg:goE E t={ E with T:=upT E.T t Y,ws:=(a09 x E.ws).2.1,cnt:=if (a09 x E.ws).2.2 then up E.cnt else E.cnt,com:=E.com+(decide ((a09 x E.ws).1.part=9) && x.m.how == 1).toNat }:=by
  unfold goE;rw[hT,<- hY]
  rfl
 have hd:=am9 (f:=a48) (T:=E.T) (n:=E.n) ht Y;have hp:=am9 (f:=pubd) (T:=E.T) (n:=E.n) ht Y;have hw:=am9 (f:=isW) (T:=E.T) (n:=E.n) ht Y;have hdr:=h.dr;have hcm:=h.cm;have hck:=h.ck;have w1:(isW (E.T t)).toNat=1:=by rw[hT];rfl
 have d1:(a48 (E.T t)).toNat=(x.part == 1).toNat:=by rw[hT];rfl
 have p1:(pubd (E.T t)).toNat=(x.part == 8 && x.m.how == 1).toNat:=by rw[hT];rfl
 rw[w1]at hw;rw[d1]at hd;rw[p1]at hp;have h3:3<=E.ws.length:=by have:=h.gi.len;have:=hI.ca;rw[Wk.a]at this;rw[Wk.b]at hb;omega
 by_cases e8:x.part=8
 ·obtain⟨s1,s2⟩:=a85 (x:=x) (ws:=E.ws) e8
  have n9:(a09 x E.ws).1.part=9:=by rw[s2]
  rw[if_pos n9]at hY;subst hY;have z1:(a48 Tx.idle).toNat=0/\(pubd Tx.idle).toNat=0/\(isW Tx.idle).toNat=0:=⟨rfl,rfl,rfl⟩;have z2:(x.part == 1).toNat=0:=by rw[e8];rfl
  have z3:(x.part == 8 && x.m.how == 1)=(x.m.how == 1):=by rw[e8];rfl
  have z4:(decide ((a09 x E.ws).1.part=9) && x.m.how == 1)=(x.m.how == 1):=by rw[n9];rfl
  rw[z3]at hp;have g:=h.gi.passes (by omega) ht hT e8;have hh:=h.held.passes h.gi (by omega) ht hT e8;have k0:wordAt (a09 x E.ws).2.1 0=wordAt E.ws 0:=by rw[s1];exact a17 (by omega) (by omega)
  refine⟨S,k,?_,fun _=>⟨rfl,rfl⟩,fun q=>by omega⟩;rw[eg,z4];refine⟨g,hh,h.new,h.bg,?_,?_,h.few,h.all,?_⟩
  ·dsimp only
   rw[k0];omega
  ·dsimp only
   omega
  ·dsimp only
   have:(x.m.how == 1).toNat<=1:=by cases (x.m.how == 1) <;> decide
   omega
 by_cases e7:x.part=7
 ·obtain⟨s1,s2⟩:=a81 (x:=x) (ws:=E.ws) e7
  have n8:(a09 x E.ws).1.part=8:=by rw[s2]
  have nh:(a09 x E.ws).1.m.how=1:=by rw[s2];exact hI.com (by omega) (by omega)
  rw[if_neg (by omega)]at hY;subst hY;have z1:(a48 (Tx.wr m (a09 x E.ws).1)).toNat=0/\(pubd (Tx.wr m (a09 x E.ws).1)).toNat=1/\(isW (Tx.wr m (a09 x E.ws).1)).toNat=1:=⟨by simp[a48,n8],by simp[pubd,n8,nh],rfl⟩;have z2:(x.part == 1).toNat=0:=by rw[e7];rfl
  have z3:(x.part == 8 && x.m.how == 1).toNat=0:=by rw[e7];rfl
  have z4:(decide ((a09 x E.ws).1.part=9) && x.m.how == 1)=false:=by rw[n8];rfl
  have g:=h.gi.publishes (by omega) ht hT e7;have hh:=h.held.writes h.gi (by omega) ht hT (by omega);have k0:wordAt (a09 x E.ws).2.1 0=wordAt E.ws 0:=by rw[s1];exact a17 (by omega) (by omega)
  refine⟨more S k (Sx.foldL (S k) x.m.buf),k+1,?_,fun q=>absurd e7 q,fun _=>⟨rfl,rfl⟩⟩;rw[eg,z4];refine⟨g,hh,h.new,h.bg,?_,?_,h.few,h.all,?_⟩
  ·dsimp only
   rw[k0];omega
  ·dsimp only
   show k+1=E.com+0+_
   omega
  ·dsimp only
   show E.com+0+_<=E.drw
   omega
 have g:=h.gi.writes (by omega) (by omega) ht hT (by omega);have hh:=h.held.writes h.gi (by omega) ht hT (by omega);have n9:(a09 x E.ws).1.part≠9/\((a09 x E.ws).1.part=8->(a09 x E.ws).1.m.how≠1)/\(a09 x E.ws).1.part≠1:=aJ2 hI (by omega);rw[if_neg n9.1]at hY;subst hY;have z1:(a48 (Tx.wr m (a09 x E.ws).1)).toNat=0/\(pubd (Tx.wr m (a09 x E.ws).1)).toNat=0/\(isW (Tx.wr m (a09 x E.ws).1)).toNat=1:=by
  refine⟨by simp[a48,n9.2.2],?_,rfl⟩
  by_cases q:(a09 x E.ws).1.part=8
  ·simp[pubd,q,n9.2.1 q]
  ·simp[pubd,q]
 have z3:(x.part == 8 && x.m.how == 1).toNat=0:=by simp[e8]
 have z4:(decide ((a09 x E.ws).1.part=9) && x.m.how == 1)=false:=by simp[n9.1]
 refine⟨S,k,?_,fun _=>⟨rfl,rfl⟩,fun q=>by omega⟩;rw[eg,z4];refine⟨g,hh,h.new,h.bg,?_,?_,h.few,h.all,?_⟩
 ·dsimp only
  by_cases e1:x.part=1
  ·obtain⟨s1,_⟩:=a76 (x:=x) (ws:=E.ws) e1
   have z2:(x.part == 1).toNat=1:=by rw[e1];rfl
   have k0:wordAt (a09 x E.ws).2.1 0=wordAt E.ws 0+1:=by
    rw[s1,am1 (by omega)];have h0:=(h.gi.ok.at 0).1;obtain⟨q,hq⟩:=Int.eq_ofNat_of_zero_le h0;rw[hq];exact a74 (by omega)
   rw[k0];omega
  ·have z2:(x.part == 1).toNat=0:=by simp[e1]
   have k0:wordAt (a09 x E.ws).2.1 0=wordAt E.ws 0:=by
    by_cases e6:x.part=6
    ·rw[(a84 e6).1]
     exact a99 hI e6 (by omega) (by omega)
    ·rw[a58 (by omega)]
   rw[k0];omega
 ·dsimp only
  show k=E.com+0+_
  omega
 ·dsimp only
  show E.com+0+_<=E.drw
  omega
end
section
variable {E:Eg} {S:Nat->List Nat} {k t K:Nat}
theorem ae7 (E:Eg) (t:Nat):(begE E t).n=E.n/\(begE E t).nc=E.nc/\(begE E t).nx=E.nx/\(begE E t).C=E.C/\(begE E t).ws=E.ws/\(∀ u,u≠t->(begE E t).T u=E.T u/\(begE E t).B u=E.B u):=by
 unfold begE
 split
 ·exact⟨rfl,rfl,rfl,rfl,rfl,fun u hu=>⟨a24 _ _ hu,a67 _ _ hu⟩⟩
 ·exact⟨rfl,rfl,rfl,rfl,rfl,fun u _=>⟨rfl,rfl⟩⟩
theorem aq9 (E:Eg) (t:Nat):(aq8 E t).n=E.n/\(aq8 E t).nc=E.nc/\(aq8 E t).nx=E.nx/\(aq8 E t).C=E.C/\(∀ u,u≠t->(aq8 E t).T u=E.T u/\(aq8 E t).B u=E.B u):=by
 obtain⟨h1,h2,h3,h4,_,h6⟩:=ae7 E t;exact⟨h1,h2,h3,h4,fun u hu=>⟨(a24 _ _ hu).trans (h6 u hu).1,(h6 u hu).2⟩⟩
end
abbrev Ty:=(Mac × Rx) ⊕ (Mac × Wx)
structure Dd where
 th:Nat
 no:Nat
 bg:Nat
 en:Nat
 tx:Ty
structure Hs where
 E:Eg
 D:Nat->Dd
 dn:Nat
 at_:Nat->Nat
 N:Nat
def updD (D:Nat->Dd) (i:Nat) (v:Dd):Nat->Dd:=fun u=>if u=i then v else D u
theorem a18 (D:Nat->Dd) (i:Nat) (v:Dd):updD D i v i=v:=if_pos rfl
theorem a40 (D:Nat->Dd) {i u:Nat} (v:Dd) (h:u≠i):updD D i v u=D u:=if_neg h
def isU:Ty->Bool
 | .inr _=>true
 | _=>false
def comU:Ty->Bool
 | .inr (_,x)=>decide (8<=x.part) && x.m.how == 1
 | _=>false
def goS:Ty->List Int->Ty
 | .inl (m,x),ws=>.inl (m,(a19 x ws).1)
 | .inr (m,x),ws=>.inr (m,(a09 x ws).1)
def a51:Ty->Bool
 | .inl (_,x)=>decide (x.part=4)
 | .inr (_,x)=>decide (x.part=9)
def begH (H:Hs) (t:Nat):Hs :=
 match H.E.T t,H.E.nx t (H.E.B t) with
 | none,some y=>{ H with E:=begE H.E t,D:=updD H.D H.dn ⟨t,H.E.B t,H.N+1,0,y⟩,dn:=H.dn+1,at_:=updN H.at_ t H.dn,N:=H.N+1 }
 | _,_=>{ H with N:=H.N+1 }
def goH (H:Hs) (t:Nat):Hs :=
 match H.E.T t with
 | none=>H
 | some y=>{ H with E:=goE H.E t,D:=updD H.D (H.at_ t) { H.D (H.at_ t) with tx:=goS y H.E.ws,en:=if a51 (goS y H.E.ws) then H.N else 0 } }
def ak5 (H:Hs) (t:Nat):Hs:=goH (begH H t) t
structure HI (H:Hs) (S:Nat->List Nat) (k:Nat) (pt ld:Nat->Nat):Prop where
 ei:EI H.E S k
 len:H.dn=su H.E.B H.E.n
 drw:H.E.drw=cu (fun i=>isU (H.D i).tx) H.dn
 com:k=cu (fun i=>comU (H.D i).tx) H.dn
 up:∀ t y,t<H.E.n->H.E.T t=some y->H.at_ t<H.dn/\(H.D (H.at_ t)).th=t/\(H.D (H.at_ t)).en=0/\(H.D (H.at_ t)).tx=y
 un:∀ i,i<H.dn->(H.D i).en=0->(H.D i).th<H.E.n/\H.E.T (H.D i).th=some (H.D i).tx/\H.at_ (H.D i).th=i
 bg:∀ i,i<H.dn->1<=(H.D i).bg/\(H.D i).bg<=H.N
 rise:∀ i j,i<j->j<H.dn->(H.D i).bg<(H.D j).bg
 en:∀ i,i<H.dn->(H.D i).en≠0->(H.D i).bg<=(H.D i).en/\(H.D i).en<=H.N/\a51 (H.D i).tx=true
 tk:∀ i m x,i<H.dn->(H.D i).tx=.inr (m,x)->(x.part≠1->x.tick=(cu (fun j=>isU (H.D j).tx) i:Nat))/\(x.part=1->i+1=H.dn)
 sv:∀ i m x,i<H.dn->(H.D i).tx=.inr (m,x)->(H.D i).en≠0->x.tick<wordAt H.E.ws 1
 pt0:pt 0=0
 ptm:∀ j,j<k->pt j<=pt (j+1)
 ptN:∀ j,j<=k->pt j<=H.N
 rd:∀ i m x,i<H.dn->(H.D i).tx=.inl (m,x)->x.part≠1->∃ s:Nat,x.stamp=(s:Int)/\s<=k/\(H.D i).bg<=ld i/\ld i<=H.N/\((H.D i).en≠0->ld i<=(H.D i).en)/\pt s<=ld i/\(s<k->ld i<=pt (s+1))/\((H.D i).en≠0->∃ j,x.m=runN (S s) j m)
 wm:∀ i m x,i<H.dn->(H.D i).tx=.inr (m,x)->8<=x.part->∃ j,x.m=runN (S (cu (fun j=>comU (H.D j).tx) i)) j m
 wp:∀ i m x,i<H.dn->(H.D i).tx=.inr (m,x)->8<=x.part->x.m.how=1->∃ s:Nat,s=cu (fun j=>comU (H.D j).tx) i/\s<k/\x.num=(s:Int)+1/\S (s+1)=Sx.foldL (S s) x.m.buf/\(H.D i).bg<=pt (s+1)/\((H.D i).en≠0->pt (s+1)<=(H.D i).en)
def NoDr (H:Hs):Prop:=∀ t m x,t<H.E.n->H.E.T t=.wr m x->x.part≠1
section
variable {H:Hs} {S:Nat->List Nat} {k t:Nat} {pt ld:Nat->Nat}
theorem HI.tick (h:HI H S k pt ld):HI { H with N:=H.N+1 } S k pt ld :=
 ⟨h.ei,h.len,h.drw,h.com,h.up,h.un,fun i hi=>by have:=h.bg i hi;exact⟨this.1,by dsimp only;omega⟩,h.rise,fun i hi he=>by have:=h.en i hi he;exact⟨this.1,by dsimp only;omega,this.2.2⟩,h.tk,h.sv,h.pt0,h.ptm,fun j hj=>by have:=h.ptN j hj;dsimp only;omega,fun i m x hi e p=>by
  obtain⟨s,q1,q2,q3,q4,q5⟩:=h.rd i m x hi e p;exact⟨s,q1,q2,q3,by dsimp only;omega,q5⟩,h.wm,h.wp⟩
theorem al1 {f:Nat->Bool} (n:Nat):cu f (n+1)=cu f n+(f n).toNat:=rfl
theorem HI.begins (h:HI H S k pt ld) (hn:NoDr H) (ht:t<H.E.n) (hf:¬ finE H.E t):HI (begH H t) S k pt ld/\(begH H t).E=begE H.E t/\(begH H t).N=H.N+1/\(begH H t).E.T t≠none:=by
 obtain⟨b1,b2⟩:=h.ei.begins ht hf;unfold begH
 cases hT:H.E.T t with
 | some y =>
  have e:begE H.E t=H.E:=by unfold begE;rw[hT];rfl
  refine⟨h.tick,e.symm,rfl,?_⟩
  show H.E.T t≠none
  rw[hT];exact fun q=>by cases q
 | none =>
  have hlt:H.E.B t<H.E.nc t:=by
   rcases Nat.lt_or_eq_of_le (h.ei.bg t ht) with q | q
   ·exact q
   ·exact absurd ⟨hT,q⟩ hf
  obtain⟨y,hy⟩:∃ y,H.E.nx t (H.E.B t)=some y:=by
   rcases h.ei.new t (H.E.B t) ht hlt with⟨x,e,_⟩ | ⟨x,e,_⟩
   ·exact⟨_,e⟩
   ·exact⟨_,e⟩
  have hnew:(∃ m x,y=.inl (m,x)/\x.part=1)∨∃ m x,y=.inr (m,x)/\x.part=1:=by
   rcases h.ei.new t (H.E.B t) ht hlt with⟨x,e,_,_,_,_,q,_⟩ | ⟨x,e,_,_,_,_,q,_⟩
   ·rw[hy]at e
    cases e
    exact .inl ⟨_,_,rfl,q⟩
   ·rw[hy]at e
    cases e
    exact .inr ⟨_,_,rfl,q⟩
  rw[hy];dsimp only;have eE:begE H.E t={ H.E with T:=upT H.E.T t (some y),B:=updN H.E.B t (H.E.B t+1),drw:=H.E.drw+(isW (some y)).toNat }:=by
   unfold begE;rw[hT,hy]
   rfl
  have same:∀ i,i<H.dn->updD H.D H.dn ⟨t,H.E.B t,H.N+1,0,y⟩ i=H.D i:=fun i hi=>a40 _ _ (by omega)
  have cs:∀ (f:Ty->Bool) i,i<=H.dn->cu (fun j=>f (updD H.D H.dn ⟨t,H.E.B t,H.N+1,0,y⟩ j).tx) i=cu (fun j=>f (H.D j).tx) i:=fun f i hi=>al0 i fun j hj=>by rw[same j (by omega)]
  have cn:comU y=false:=by
   rcases hnew with⟨m,x,e,q⟩ | ⟨m,x,e,q⟩
   ·rw[e];rfl
   ·rw[e];simp[comU,q]
  have split:∀ {P:Nat->Prop},(∀ i,i<H.dn->P i)->P H.dn->∀ i,i<H.dn+1->P i:=fun p1 p2 i hi=>by
   rcases Nat.lt_or_eq_of_le (Nat.le_of_lt_succ hi) with q | q
   ·exact p1 i q
   ·rw[q];exact p2
  refine⟨⟨b1,?_,?_,?_,?_,?_,?_,?_,?_,?_,?_,h.pt0,h.ptm,?_,?_,?_,?_⟩,rfl,rfl,by
   show (begE H.E t).T t≠none
   exact b2⟩
  ·show H.dn+1=su (begE H.E t).B (begE H.E t).n
   rw[eE];dsimp only;have:=aT0 (f:=H.E.B) (g:=updN H.E.B t (H.E.B t+1)) H.E.n ht (fun i _ hne=>a67 H.E.B _ hne);rw[a41]at this;have:=h.len;omega
  ·show (begE H.E t).drw=_
   rw[eE,al1,cs isU H.dn (zE _)];have:=h.drw;dsimp only;rw[a18];dsimp only;have:(isW (some y)).toNat=(isU y).toNat:=by cases y <;> rfl
   omega
  ·dsimp only
   rw[al1,cs comU H.dn (zE _),a18];dsimp only;rw[cn];exact h.com
  ·intro u z hu hz
   rw[eE]at hu hz;dsimp only at hu hz ⊢
   by_cases eu:u=t
   ·subst eu
    rw[a08]at hz
    cases hz
    rw[a41,a18];exact⟨by omega,rfl,rfl,rfl⟩
   ·rw[a24 _ _ eu]at hz
    obtain⟨q1,q2⟩:=h.up u z hu hz;rw[a67 _ _ eu,same _ q1];exact⟨by omega,q2⟩
  ·rw[eE]
   dsimp only;refine split (fun i hi=>?_) ?_
   ·rw[same i hi]
    intro he;obtain⟨q1,q2,q3⟩:=h.un i hi he;have hne:(H.D i).th≠t:=fun q=>by rw[q,hT]at q2;cases q2
    exact⟨q1,by rw[a24 _ _ hne];exact q2,by rw[a67 _ _ hne];exact q3⟩
   ·rw[a18]
    exact fun _=>⟨ht,a08 _ _ _,a41 _ _ _⟩
  ·dsimp only
   refine split (fun i hi=>?_) ?_
   ·rw[same i hi]
    have:=h.bg i hi;omega
   ·rw[a18]
    exact⟨by dsimp only;omega,zE _⟩
  ·dsimp only
   intro i j hij hj
   rcases Nat.lt_or_eq_of_le (Nat.le_of_lt_succ hj) with q | q
   ·rw[same i (by omega),same j q]
    exact h.rise i j hij q
   ·rw[q,a18,same i (by omega)]
    have:=(h.bg i (by omega)).2;dsimp only;omega
  ·dsimp only
   refine split (fun i hi=>?_) ?_
   ·rw[same i hi]
    intro he;obtain⟨q1,q2,q3⟩:=h.en i hi he;exact⟨q1,by omega,q3⟩
   ·rw[a18]
    exact fun q=>absurd rfl q
  ·dsimp only
   intro i m x hi
   revert i
   refine fun i hi=>?_
   rcases Nat.lt_or_eq_of_le (Nat.le_of_lt_succ hi) with q | q
   ·rw[same i q,cs isU i (by omega)]
    intro e;obtain⟨q1,q2⟩:=h.tk i m x q e;refine⟨q1,fun p1=>?_⟩
    exfalso
    by_cases he:(H.D i).en=0
    ·obtain⟨z1,z2,_⟩:=h.un i q he
     rw[e]at z2;exact hn _ m x z1 z2 p1
    ·have:=(h.en i q he).2.2
     rw[e]at this;have:x.part=9:=zP this;omega
   ·rw[q,a18]
    intro e;refine⟨fun p1=>?_,fun _=>rfl⟩
    exfalso
    dsimp only at e
    rcases hnew with⟨m',x',e',q'⟩ | ⟨m',x',e',q'⟩
    ·rw[e']at e
     cases e
    ·rw[e']at e
     cases e
     exact p1 q'
  ·intro i m x hi
   show _->_->x.tick<wordAt (begE H.E t).ws 1
   rw[(ae7 H.E t).2.2.2.2.1];dsimp only at hi ⊢
   rcases Nat.lt_or_eq_of_le (Nat.le_of_lt_succ hi) with q | q
   ·rw[same i q]
    exact h.sv i m x q
   ·rw[q,a18]
    exact fun _ q'=>absurd rfl q'
  ·intro j hj
   have:=h.ptN j hj;dsimp only;omega
  ·dsimp only
   intro i m x hi
   rcases Nat.lt_or_eq_of_le (Nat.le_of_lt_succ hi) with q | q
   ·rw[same i q]
    intro e p;obtain⟨s,q1,q2,q3,q4,q5⟩:=h.rd i m x q e p;exact⟨s,q1,q2,q3,by omega,q5⟩
   ·rw[q,a18]
    intro e p
    exfalso
    dsimp only at e
    rcases hnew with⟨m',x',e',q'⟩ | ⟨m',x',e',q'⟩
    ·rw[e']at e
     cases e
     exact p q'
    ·rw[e']at e
     cases e
  ·dsimp only
   intro i m x hi
   rcases Nat.lt_or_eq_of_le (Nat.le_of_lt_succ hi) with q | q
   ·rw[same i q,cs comU i (by omega)]
    exact h.wm i m x q
   ·rw[q,a18]
    intro e p
    exfalso
    dsimp only at e
    rcases hnew with⟨m',x',e',q'⟩ | ⟨m',x',e',q'⟩
    ·rw[e']at e
     cases e
    ·rw[e']at e
     cases e
     omega
  ·dsimp only
   intro i m x hi
   rcases Nat.lt_or_eq_of_le (Nat.le_of_lt_succ hi) with q | q
   ·rw[same i q,cs comU i (by omega)]
    exact h.wp i m x q
   ·rw[q,a18]
    intro e p
    exfalso
    dsimp only at e
    rcases hnew with⟨m',x',e',q'⟩ | ⟨m',x',e',q'⟩
    ·rw[e']at e
     cases e
    ·rw[e']at e
     cases e
     omega
end
theorem b43 (y:Ty) (ws:List Int):(goT (some y) ws).1=if a51 (goS y ws) then none else some (goS y ws):=by
 rcases y with⟨m,x⟩ | ⟨m,x⟩
 ·show (if (a19 x ws).1.part=4 then Tx.idle else .rd m (a19 x ws).1)=if decide ((a19 x ws).1.part=4)=true then none else _
  by_cases q:(a19 x ws).1.part=4
  ·rw[if_pos q,if_pos (zT q)]
  ·rw[if_neg q,if_neg (by simp[q])]
   rfl
 ·show (if (a09 x ws).1.part=9 then Tx.idle else .wr m (a09 x ws).1)=if decide ((a09 x ws).1.part=9)=true then none else _
  by_cases q:(a09 x ws).1.part=9
  ·rw[if_pos q,if_pos (zT q)]
  ·rw[if_neg q,if_neg (by simp[q])]
   rfl
theorem av0 {f:Nat->Bool} {i n:Nat} (h:i<=n):cu f i<=cu f n:=by
 induction n with
 | zero=>rw[Nat.le_zero.mp h];exact zE _
 | succ n ih =>
  rcases Nat.lt_or_eq_of_le h with q | q
  ·exact zQ (ih (by omega)) (Nat.le_add_right _ _)
  ·rw[q];exact zE _
theorem bq5 (y:Ty) (ws:List Int):isU (goS y ws)=isU y:=by rcases y with⟨m,x⟩ | ⟨m,x⟩ <;> rfl
section
variable {H:Hs} {S S':Nat->List Nat} {k k' t:Nat} {pt ld pt' ld':Nat->Nat}
theorem HI.moves (h:HI H S k pt ld) (ht:t<H.E.n) {y:Ty} (hT:H.E.T t=some y) (e:EI (goE H.E t) S' k') (k1:k<=k') (k2:k'<=k+1) (sS:∀ j,j<=k->S' j=S j) (pS:∀ j,j<=k->pt' j=pt j) (pN:k'=k+1->pt' (k+1)=H.N) (lS:∀ i,i≠H.at_ t->ld' i=ld i)
  (cm:k'+(comU y).toNat=k+(comU (goS y H.E.ws)).toNat) (w1:wordAt H.E.ws 1<=wordAt (goE H.E t).ws 1)
  (lat:∀ i m x,H.at_ t<i->i<H.dn->(H.D i).tx=.inr (m,x)->8<=x.part->comU (goS y H.E.ws)=comU y)
  (Tk:∀ m x,goS y H.E.ws=.inr (m,x)->x.part≠1/\x.tick=(cu (fun j=>isU (H.D j).tx) (H.at_ t):Nat))
  (Sv:∀ m x,goS y H.E.ws=.inr (m,x)->a51 (goS y H.E.ws)=true->x.tick<wordAt (goE H.E t).ws 1)
  (Rd:∀ m x,goS y H.E.ws=.inl (m,x)->x.part≠1->∃ s:Nat,x.stamp=(s:Int)/\s<=k'/\(H.D (H.at_ t)).bg<=ld' (H.at_ t)/\ld' (H.at_ t)<=H.N/\pt' s<=ld' (H.at_ t)/\(s<k'->ld' (H.at_ t)<=pt' (s+1))/\(a51 (goS y H.E.ws)=true->∃ j,x.m=runN (S' s) j m))
  (Wm:∀ m x,goS y H.E.ws=.inr (m,x)->8<=x.part->∃ j,x.m=runN (S' (cu (fun j=>comU (H.D j).tx) (H.at_ t))) j m)
  (Wp:∀ m x,goS y H.E.ws=.inr (m,x)->8<=x.part->x.m.how=1->∃ s:Nat,s=cu (fun j=>comU (H.D j).tx) (H.at_ t)/\s<k'/\x.num=(s:Int)+1/\S' (s+1)=Sx.foldL (S' s) x.m.buf/\(H.D (H.at_ t)).bg<=pt' (s+1)/\pt' (s+1)<=H.N):HI (goH H t) S' k' pt' ld':=by
 obtain⟨a,ha⟩:∃ a,H.at_ t=a:=⟨_,rfl⟩
 obtain⟨u1,u2,u3,u4⟩:=h.up t y ht hT;obtain⟨d,hd⟩:∃ d:Dd,({ H.D (H.at_ t) with tx:=goS y H.E.ws,en:=if a51 (goS y H.E.ws) then H.N else 0 }:Dd)=d:=⟨_,rfl⟩
 have eH:goH H t={ H with E:=goE H.E t,D:=updD H.D a d }:=by
  unfold goH;rw[hT];dsimp only;rw[hd,ha]
 rw[ha]at u1 u2 u3 u4 lat Tk Rd Wm Wp lS hd;have d1:d.th=t:=by rw[<- hd];exact u2
 have d2:d.bg=(H.D a).bg:=by rw[<- hd]
 have d3:d.tx=goS y H.E.ws:=by rw[<- hd]
 have d4:d.en=if a51 (goS y H.E.ws) then H.N else 0:=by rw[<- hd]
 have hN:=h.bg a u1;have d5:d.en≠0->a51 (goS y H.E.ws)=true/\d.en=H.N:=fun q=>by
  rw[d4]at q ⊢
  split
  ·next z=>exact⟨z,rfl⟩
  ·next z=>rw[if_neg z]at q;exact absurd rfl q
 have d6:d.en=0->a51 (goS y H.E.ws)=false:=fun q=>by
  rw[d4]at q
  cases z:a51 (goS y H.E.ws) with
  | false=>rfl
  | true=>rw[z]at q;simp only[if_true]at q;omega
 have eT:(goE H.E t).T=upT H.E.T t (if a51 (goS y H.E.ws) then none else some (goS y H.E.ws)):=by
  rw[<- b43];unfold goE;rw[hT]
 have other:∀ i,i≠a->updD H.D a d i=H.D i:=fun i hi=>a40 _ _ hi
 have bgs:∀ i,(updD H.D a d i).bg=(H.D i).bg:=fun i=>by
  by_cases q:i=a
  ·subst q;rw[a18];exact d2
  ·rw[other i q]
 have ius:∀ i,isU (updD H.D a d i).tx=isU (H.D i).tx:=fun i=>by
  by_cases q:i=a
  ·subst q;rw[a18,d3,bq5,u4]
  ·rw[other i q]
 have cuU:∀ i,cu (fun j=>isU (updD H.D a d j).tx) i=cu (fun j=>isU (H.D j).tx) i:=fun i=>al0 i fun j _=>ius j
 have cuC:∀ i,i<=a->cu (fun j=>comU (updD H.D a d j).tx) i=cu (fun j=>comU (H.D j).tx) i:=fun i hi=>al0 i fun j hj=>by rw[other j (by omega)]
 have cuC2:∀ i,comU (goS y H.E.ws)=comU y->cu (fun j=>comU (updD H.D a d j).tx) i=cu (fun j=>comU (H.D j).tx) i:=fun i q=>al0 i fun j hj=>by
  by_cases z:j=a
  ·subst z;rw[a18,d3,q,u4]
  ·rw[other j z]
 have cuC3:∀ i m x,i<H.dn->i≠a->(H.D i).tx=.inr (m,x)->8<=x.part->cu (fun j=>comU (updD H.D a d j).tx) i=cu (fun j=>comU (H.D j).tx) i:=fun i m x hi hne q p=>by
  rcases(by omega:i<=a∨a<i) with z | z
  ·exact cuC i z
  ·exact cuC2 i (lat i m x z hi q p)
 rw[eH];refine⟨e,h.len,?_,?_,?_,?_,?_,?_,?_,?_,?_,?_,?_,?_,?_,?_,?_⟩
 ·dsimp only
  rw[cuU];exact h.drw
 ·dsimp only
  have:=aQ3 (f:=fun j=>comU (H.D j).tx) (g:=fun j=>comU (updD H.D a d j).tx) H.dn u1 (fun i _ hi=>by rw[other i hi]);rw[a18,d3,u4]at this;have:=h.com;omega
 ·dsimp only
  intro u z hu hz;rw[eT]at hz
  by_cases eu:u=t
  ·subst eu
   rw[a08]at hz
   cases q:a51 (goS y H.E.ws) with
   | true=>rw[q]at hz;cases hz
   | false =>
    rw[q]at hz;rw[ha,a18];refine⟨u1,d1,?_,?_⟩
    ·rw[d4,q];rfl
    ·rw[d3];cases hz;rfl
  ·rw[a24 _ _ eu]at hz
   obtain⟨q1,q2,q3,q4⟩:=h.up u z hu hz;have hne:H.at_ u≠a:=fun q=>by rw[q,u2]at q2;exact eu q2.symm
   rw[other _ hne];exact⟨q1,q2,q3,q4⟩
 ·dsimp only
  intro i hi he;rw[eT]
  by_cases q:i=a
  ·subst q
   rw[a18]at he ⊢;rw[d1,a08,d6 he,d3];exact⟨ht,rfl,ha⟩
  ·rw[other i q]at he ⊢
   obtain⟨q1,q2,q3⟩:=h.un i hi he;have hne:(H.D i).th≠t:=fun z=>by rw[z,ha]at q3;exact q q3.symm
   exact⟨q1,by rw[a24 _ _ hne];exact q2,q3⟩
 ·dsimp only
  intro i hi;rw[bgs];exact h.bg i hi
 ·dsimp only
  intro i j hij hj;rw[bgs,bgs];exact h.rise i j hij hj
 ·dsimp only
  intro i hi he
  by_cases q:i=a
  ·subst q
   rw[a18]at he ⊢;obtain⟨z1,z2⟩:=d5 he;rw[d2,d3,z2];exact⟨hN.2,zE _,z1⟩
  ·rw[other i q]at he ⊢
   exact h.en i hi he
 ·dsimp only
  intro i m x hi;rw[cuU]
  by_cases q:i=a
  ·subst q
   rw[a18,d3];intro z;obtain⟨z1,z2⟩:=Tk m x z;exact⟨fun _=>z2,fun z3=>absurd z3 z1⟩
  ·rw[other i q]
   exact h.tk i m x hi
 ·dsimp only
  intro i m x hi
  by_cases q:i=a
  ·subst q
   rw[a18,d3];exact fun z he=>Sv m x z (d5 he).1
  ·rw[other i q]
   intro z he;have:=h.sv i m x hi z he;omega
 ·rw[pS 0 (zV _)]
  exact h.pt0
 ·intro j hj
  rcases(by omega:j<k∨j=k/\k'=k+1) with q | ⟨q,q'⟩
  ·rw[pS j (by omega),pS (j+1) (by omega)]
   exact h.ptm j q
  ·rw[q,pN q',pS k (zE _)]
   exact h.ptN k (zE _)
 ·dsimp only
  intro j hj
  rcases(by omega:j<=k∨j=k+1/\k'=k+1) with q | ⟨q,q'⟩
  ·rw[pS j q]
   exact h.ptN j q
  ·rw[q,pN q']
   exact zE _
 ·dsimp only
  intro i m x hi
  by_cases q:i=a
  ·subst q
   rw[a18,d3];intro z p;obtain⟨s,r1,r2,r3,r4,r5,r6,r7⟩:=Rd m x z p;exact⟨s,r1,r2,by rw[d2];exact r3,r4,fun he=>by rw[(d5 he).2];exact r4,r5,r6,fun he=>r7 (d5 he).1⟩
  ·rw[other i q,lS i q]
   intro z p;obtain⟨s,r1,r2,r3,r4,r5,r6,r7,r8⟩:=h.rd i m x hi z p;refine⟨s,r1,by omega,r3,r4,r5,by rw[pS s r2];exact r6,fun hs=>?_,fun he=>by rw[sS s r2];exact r8 he⟩
   rcases(by omega:s<k∨s=k/\k'=k+1) with w | ⟨w,w'⟩
   ·rw[pS (s+1) (by omega)]
    exact r7 w
   ·rw[w,pN w']
    exact r4
 ·dsimp only
  intro i m x hi
  by_cases q:i=a
  ·subst q
   rw[a18,d3,cuC i (zE _)];exact Wm m x
  ·rw[other i q]
   intro z p;rw[cuC3 i m x hi q z p];have hc:cu (fun j=>comU (H.D j).tx) i<=k:=by
    rw[h.com];exact av0 (by omega)
   rw[sS _ hc];exact h.wm i m x hi z p
 ·dsimp only
  intro i m x hi
  by_cases q:i=a
  ·subst q
   rw[a18,d3,cuC i (zE _)];intro z p p1;obtain⟨s,r1,r2,r3,r4,r5,r6⟩:=Wp m x z p p1;exact⟨s,r1,r2,r3,r4,by rw[d2];exact r5,fun he=>by rw[(d5 he).2];exact r6⟩
  ·rw[other i q]
   intro z p p1;rw[cuC3 i m x hi q z p];obtain⟨s,r1,r2,r3,r4,r5,r6⟩:=h.wp i m x hi z p p1;exact⟨s,r1,by omega,r3,by rw[sS (s+1) (by omega),sS s (by omega)];exact r4,by rw[pS (s+1) (by omega)];exact r5,fun he=>by rw[pS (s+1) (by omega)];exact r6 he⟩
end
theorem ay1 {x:Rx} {ws:List Int} (hp:x.part≠1):(a19 x ws).1.stamp=x.stamp:=by
 unfold a19;rw[if_neg hp]
 split
 ·rfl
 ·show (runX (a23 x) ws).1.stamp=x.stamp
  unfold runX
  split
  ·unfold a28
   split
   ·rfl
   ·split
    ·rfl
    ·split
     ·split <;> rfl
     ·rfl
  ·split
   ·show (a28 (begX (a23 x)) ws).stamp=x.stamp
    unfold a28
    split
    ·rfl
    ·split
     ·rfl
     ·split
      ·split <;> rfl
      ·rfl
   ·rfl
theorem aO5 {x:Rx} {ws:List Int} (hp:x.part=1) (hq:(a19 x ws).1.part≠1):(a19 x ws).1.stamp=wordAt ws 2/\(a19 x ws).1.part=2:=by
 unfold a19 a54 at hq ⊢;rw[if_pos hp]at hq ⊢;dsimp only at hq ⊢
 by_cases q0:(a23 x).sub=0
 ·rw[if_pos q0]at hq
  exact absurd hp hq
 ·rw[if_neg q0]at hq ⊢
  by_cases q1:(a23 x).sub=1
  ·rw[if_pos q1]at hq
   exact absurd hp hq
  ·rw[if_neg q1]at hq ⊢
   exact⟨rfl,rfl⟩
theorem al8 {x:Wx} {ws:List Int} (hP:1<=x.part/\x.part<=9) (hp:x.part≠9):(x.part≠1->(a09 x ws).1.tick=x.tick)/\(a09 x ws).1.part≠1/\((a09 x ws).1.part=9->x.part=8)/\(8<=(a09 x ws).1.part->x.part=4∨x.part=7∨x.part=8)/\(x.part=4->8<=(a09 x ws).1.part->(a09 x ws).1.m=(a07 x.m).1/\(a07 x.m).2.kind≠1):=by
 have e8:(a16 x).part=x.part:=rfl;unfold a09 a62
 rcases(by omega:x.part=1∨x.part=2∨x.part=3∨x.part=4∨x.part=5∨x.part=6∨x.part=7∨x.part=8) with e | e | e | e | e | e | e | e
 ·rw[if_pos (e8.trans e)]
  exact⟨fun q=>absurd e q,by dsimp only;omega,(fun q=>by dsimp only at q;omega),(fun q=>by dsimp only at q;omega),(fun q=>by omega)⟩
 ·rw[if_neg (by omega),if_pos (e8.trans e)]
  dsimp only
  split
  ·exact⟨fun _=>rfl,by dsimp only;omega,(fun q=>by dsimp only at q;omega),(fun q=>by dsimp only at q;omega),(fun q=>by omega)⟩
  ·exact⟨fun _=>rfl,by omega,(fun q=>by omega),(fun q=>by omega),(fun q=>by omega)⟩
 ·rw[if_neg (by omega),if_neg (by omega),if_pos (e8.trans e)]
  exact⟨fun _=>rfl,by dsimp only;omega,(fun q=>by dsimp only at q;omega),(fun q=>by dsimp only at q;omega),(fun q=>by omega)⟩
 ·rw[if_neg (by omega),if_neg (by omega),if_neg (by omega),if_pos (e8.trans e)]
  dsimp only;unfold runY
  split
  ·exact⟨fun _=>rfl,by dsimp only;omega,(fun q=>by dsimp only at q;omega),(fun q=>by dsimp only at q;omega),(fun _ q=>by dsimp only at q;omega)⟩
  ·next z =>
   split
   ·exact⟨fun _=>rfl,by dsimp only;omega,(fun q=>by dsimp only at q;omega),(fun q=>by dsimp only at q;omega),(fun _ q=>by dsimp only at q;omega)⟩
   ·split
    ·refine⟨fun _=>rfl,?_,?_,fun _=>.inl e,fun _ _=>⟨rfl,z⟩⟩
     ·dsimp only;split <;> omega
     ·dsimp only;intro q;split at q <;> omega
    ·exact⟨fun _=>rfl,by dsimp only;omega,(fun q=>by dsimp only at q;omega),(fun q=>by dsimp only at q;omega),(fun _ q=>by dsimp only at q;omega)⟩
 ·rw[if_neg (by omega),if_neg (by omega),if_neg (by omega),if_neg (by omega),if_pos (e8.trans e)]
  dsimp only;unfold a97
  split
  ·split
   ·refine⟨fun _=>rfl,?_,?_,?_,(fun q=>by omega)⟩
    ·dsimp only;split <;> omega
    ·dsimp only;intro q;split at q <;> omega
    ·dsimp only;intro q;split at q <;> omega
   ·exact⟨fun _=>rfl,by dsimp only;omega,(fun q=>by dsimp only at q;omega),(fun q=>by dsimp only at q;omega),(fun q=>by omega)⟩
  ·exact⟨fun _=>rfl,by omega,(fun q=>by omega),(fun q=>by omega),(fun q=>by omega)⟩
 ·rw[if_neg (by omega),if_neg (by omega),if_neg (by omega),if_neg (by omega),if_neg (by omega),if_pos (e8.trans e)]
  dsimp only;unfold ae1;refine⟨fun _=>rfl,?_,?_,?_,(fun q=>by omega)⟩
  ·dsimp only;split <;> omega
  ·dsimp only;intro q;split at q <;> omega
  ·dsimp only;intro q;split at q <;> omega
 ·rw[if_neg (by omega),if_neg (by omega),if_neg (by omega),if_neg (by omega),if_neg (by omega),if_neg (by omega),if_pos (e8.trans e)]
  exact⟨fun _=>rfl,by dsimp only;omega,(fun q=>by dsimp only at q;omega),fun _=>.inr (.inl e),(fun q=>by omega)⟩
 ·rw[if_neg (by omega),if_neg (by omega),if_neg (by omega),if_neg (by omega),if_neg (by omega),if_neg (by omega),if_neg (by omega)]
  exact⟨fun _=>rfl,by dsimp only;omega,fun _=>e,fun _=>.inr (.inr e),(fun q=>by omega)⟩
theorem ay7 {ws:List Int} {k:Nat} {v:Int} (h:k<ws.length):wordAt (ws.set k v) (k:Int)=v:=by
 unfold wordAt;rw[Int.toNat_natCast,zG,List.getElem?_set_self h]
 rfl
theorem b22 {f:Nat->Bool} {a n:Nat} (h:a<=n) (hf:∀ i,a<=i->i<n->f i=false):cu f n=cu f a:=by
 induction n with
 | zero=>rw[Nat.le_zero.mp h]
 | succ n ih =>
  rcases Nat.lt_or_eq_of_le h with q | q
  ·rw[al1,hf n (by omega) (by omega),ih (by omega) (fun i i1 i2=>hf i i1 (by omega))]
   rfl
  ·rw[q]
section
variable {H:Hs} {S:Nat->List Nat} {k t:Nat} {pt ld:Nat->Nat}
theorem HI.goes_rd (h:HI H S k pt ld) (ht:t<H.E.n) {m:Mac} {x:Rx} (hT:H.E.T t=.rd m x):∃ ld',HI (goH H t) S k pt ld':=by
 have hE:=h.ei.goes_rd ht hT;have R:=h.ei.gi.rd t m x ht hT;have hth:=R.inx.th;obtain⟨u1,u2,u3,u4⟩:=h.up t _ ht hT;have hbg:=h.bg _ u1;have ews:(goE H.E t).ws=(a19 x H.E.ws).2.1:=by unfold goE;rw[hT];rfl
 have ww:wordAt (goE H.E t).ws 1=wordAt H.E.ws 1:=by rw[ews];exact ah1 R.inx (by omega) (by omega)
 refine⟨if x.part=1 then updN ld (H.at_ t) H.N else ld,h.moves ht hT hE (zE _) (by omega) (fun _ _=>rfl) (fun _ _=>rfl) (fun q=>by omega) (fun i hi=>?_) rfl (by omega) (fun _ _ _ _ _ _ _=>rfl) (fun _ _ q=>by cases q) (fun _ _ q=>by cases q) ?_ (fun _ _ q=>by cases q) (fun _ _ q=>by cases q)⟩
 ·split
  ·exact a67 _ _ hi
  ·rfl
 ·intro m' x' q p
  cases q
  by_cases e1:x.part=1
  ·obtain⟨l1,l2⟩:=aO5 e1 p
   rw[if_pos e1,a41];refine⟨k,by rw[l1];exact h.ei.gi.w2,zE _,hbg.2,zE _,h.ptN k (zE _),fun q=>absurd q (Nat.lt_irrefl _),fun q=>?_⟩;have:(a19 x H.E.ws).1.part=4:=zP q;omega
  ·rw[if_neg e1]
   obtain⟨s,r1,r2,r3,r4,r5,r6,r7,r8⟩:=h.rd _ m x u1 u4 e1;refine⟨s,by rw[ay1 e1];exact r1,r2,r3,r4,r6,r7,fun q=>?_⟩;have q4:(a19 x H.E.ws).1.part=4:=zP q;have hks:=h.ei.stamp;have hl:plW x<=(H.E.ws.length:Int):=by
    have:=h.ei.gi.len;unfold plW;rw[R.a,R.b];omega
   obtain⟨_,s',z1,z2,z3⟩:=(R.step h.ei.gi.ok h.ei.gi.w2 (by omega) hl (fun s p' z=>h.ei.gi.sees (by omega) ht hT p' z)).2 q4;rw[ay1 e1,r1]at z1;have:s=s':=by omega
   subst this;exact z3
theorem HI.later (h:HI H S k pt ld) {a:Nat} {m:Mac} {x:Wx} (ha:a<H.dn) (hx:(H.D a).tx=.inr (m,x)) (hp:x.part≠1) (hs:x.tick=wordAt H.E.ws 1) {i:Nat} {m':Mac} {z:Wx} (hi:a<i) (hn:i<H.dn) (hz:(H.D i).tx=.inr (m',z)):¬ 3<=z.part:=fun q=>by
 have t1:=(h.tk a m x ha hx).1 hp;have t2:=(h.tk i m' z hn hz).1 (by omega);have c:cu (fun j=>isU (H.D j).tx) (a+1)<=cu (fun j=>isU (H.D j).tx) i:=av0 hi;rw[al1]at c;have c1:(isU (H.D a).tx).toNat=1:=by rw[hx];rfl
 by_cases he:(H.D i).en=0
 ·obtain⟨z1,z2,_⟩:=h.un i hn he
  rw[hz]at z2;have:=(h.ei.gi.wr _ m' z z1 z2).1.sv q;omega
 ·have:=h.sv i m' z hn hz he
  omega
theorem HI.goes_wr (h:HI H S k pt ld) (ht:t<H.E.n) {m:Mac} {x:Wx} (hT:H.E.T t=.wr m x):∃ S' k' pt',HI (goH H t) S' k' pt' ld/\(∀ j,j<=k->S' j=S j)/\k<=k':=by
 obtain⟨S',k',hE,c1,c2⟩:=h.ei.goes_wr ht hT;obtain⟨W,hm0⟩:=h.ei.gi.wr t m x ht hT;have hI:=W.iny;have hP:=hI.part;have hnp:=W.np;have hcb:=hI.cb;have hks:=h.ei.stamp;have hnx:=h.ei.next;obtain⟨u1,u2,u3,u4⟩:=h.up t _ ht hT;have hbg:=h.bg _ u1;obtain⟨y1,y2,y3,y4,y5⟩:=al8 (ws:=H.E.ws) hP W.np;have hl3:3<=H.E.ws.length:=by have:=h.ei.gi.len;have:=hI.ca;rw[W.a]at this;rw[W.b]at hcb;omega
 have ews:(goE H.E t).ws=(a09 x H.E.ws).2.1:=by unfold goE;rw[hT];rfl
 have ww:(x.part=8->wordAt (goE H.E t).ws 1=wordAt H.E.ws 1+1)/\(x.part≠8->wordAt (goE H.E t).ws 1=wordAt H.E.ws 1):=by
  rw[ews];refine⟨fun e=>?_,fun e=>?_⟩
  ·rw[(a85 e).1,W.sv (by omega)]
   have h0:=(h.ei.gi.ok.at 1).1;have hs:=h.ei.gi.sn;obtain⟨q,hq⟩:=Int.eq_ofNat_of_zero_le h0;rw[show (1:Int)=((1:Nat):Int) from rfl,ay7 (by omega)]
   show Md.Cv.passV (wordAt H.E.ws 1)=wordAt H.E.ws 1+1
   rw[hq];exact a74 (by omega)
  ·rcases(by omega:x.part=1∨(2<=x.part/\x.part<=5)∨x.part=6∨x.part=7) with q | q | q | q
   ·rw[(a76 q).1]
    exact a17 (by omega) (by omega)
   ·rw[a58 q]
   ·rw[(a84 q).1]
    exact a99 hI q (by omega) (by omega)
   ·rw[(a81 q).1]
    exact a17 (by omega) (by omega)
 obtain⟨a,ha⟩:∃ a,H.at_ t=a:=⟨_,rfl⟩
 have flat:3<=x.part->x.part<=7->cu (fun j=>comU (H.D j).tx) a=k:=fun q1 q2=>by
  rw[h.com];rw[ha]at u1 u4;refine(b22 (by omega) fun i i1 i2=>?_).symm
  rcases Nat.lt_or_eq_of_le i1 with z | z
  ·cases hz:(H.D i).tx with
   | inl p=>rfl
   | inr p =>
    have:=h.later u1 u4 (by omega) (W.sv q1) z i2 hz
    simp[comU]
    intro q;omega
  ·rw[<- z,u4]
   simp[comU]
   intro q;omega
 have tick':x.part≠1->(a09 x H.E.ws).1.tick=(cu (fun j=>isU (H.D j).tx) (H.at_ t):Nat):=fun q=>(y1 q).trans ((h.tk _ m x u1 u4).1 q)
 by_cases e7:x.part=7
 ·obtain⟨eS,ek⟩:=c2 e7
  subst eS;subst ek;obtain⟨_,s2⟩:=a81 (x:=x) (ws:=H.E.ws) e7;have n8:(a09 x H.E.ws).1.part=8:=by rw[s2]
  have nm:(a09 x H.E.ws).1.m=x.m:=by rw[s2];rfl
  have nn:(a09 x H.E.ws).1.num=(k:Int)+1:=by
   rw[s2]
   show wrap64 (Md.Cv.passV x.stamp)=_
   rw[W.st (by omega) (by omega),a74 (by omega)];exact Go.IntWalk.wrap64_in _ ⟨by omega,by omega⟩
  have hh:=hI.com (by omega) (by omega);have cy:comU (.inr (m,x))=false:=by simp[comU,e7]
  have cz:comU (.inr (m,(a09 x H.E.ws).1))=true:=by simp[comU,n8,nm,hh]
  have sS:∀ j,j<=k->more S k (Sx.foldL (S k) x.m.buf) j=S j:=fun j hj=>if_neg (by omega)
  have hc:=flat (by omega) (by omega);refine⟨_,_,fun j=>if j=k+1 then H.N else pt j,h.moves ht hT hE (Nat.le_succ _) (zE _) sS (fun j hj=>if_neg (by omega)) (fun _=>if_pos rfl) (fun _ _=>rfl) ?_ (by have:=ww.2 (by omega);omega) ?_ ?_ ?_ (fun _ _ q=>by cases q) ?_ ?_,sS,Nat.le_succ _⟩
  ·show k+1+(comU (.inr (m,x))).toNat=k+(comU (.inr (m,(a09 x H.E.ws).1))).toNat
   rw[cy,cz]
   rfl
  ·intro i m' z i1 i2 hz p
   exact absurd (by omega:3<=z.part) (h.later u1 u4 (by omega) (W.sv (by omega)) i1 i2 hz)
  ·intro m' x' q
   cases q
   exact⟨by omega,tick' (by omega)⟩
  ·intro m' x' _ q
   have:(a09 x H.E.ws).1.part=9:=zP q;omega
  ·intro m' x' q _
   cases q
   rw[ha,hc,sS k (zE _),nm];exact(W.mac (by omega) (by omega)).1
  ·intro m' x' q _ _
   cases q
   rw[ha,hc];refine⟨k,rfl,Nat.lt_succ_self _,nn,?_,?_,?_⟩
   ·rw[sS k (zE _),nm]
    exact if_pos rfl
   ·rw[if_pos rfl,<- ha]
    exact hbg.2
   ·rw[if_pos rfl]
    exact zE _
 ·obtain⟨eS,ek⟩:=c1 e7
  subst eS;subst ek;have p8:x.part=8->(a09 x H.E.ws).1.m=x.m/\(a09 x H.E.ws).1.num=x.num/\(a09 x H.E.ws).1.part=9:=fun q=>by
   rw[(a85 q).2];exact⟨rfl,rfl,rfl⟩
  have p4:x.part<=6->8<=(a09 x H.E.ws).1.part->(a09 x H.E.ws).1.m.how≠1:=fun q q'=>by
   obtain⟨r1,r2,_⟩:=aJ2 (ws:=H.E.ws) hI q;have:=(a94 (ws:=H.E.ws) hI W.np h.ei.gi.ok).1.part;exact r2 (by omega)
  have ce:comU (.inr (m,(a09 x H.E.ws).1))=comU (.inr (m,x)):=by
   by_cases q:8<=(a09 x H.E.ws).1.part
   ·rcases y4 q with z | z | z
    ·simp[comU,q,z,p4 (by omega) q]
    ·exact absurd z e7
    ·obtain⟨r1,_,r3⟩:=p8 z
     simp[comU,r1,r3,z]
   ·have:¬ 8<=x.part:=fun z=>by
     have:=(p8 (by omega)).2.2;omega
    simp[comU,q,this]
  refine⟨_,_,pt,h.moves ht hT hE (zE _) (Nat.le_succ _) (fun _ _=>rfl) (fun _ _=>rfl) (fun q=>by omega) (fun _ _=>rfl) ?_ ?_ (fun _ _ _ _ _ _ _=>ce) ?_ ?_ (fun _ _ q=>by cases q) ?_ ?_,fun _ _=>rfl,zE _⟩
  ·show k'+(comU (.inr (m,x))).toNat=k'+(comU (.inr (m,(a09 x H.E.ws).1))).toNat
   rw[ce]
  ·by_cases q:x.part=8
   ·have:=ww.1 q;omega
   ·have:=ww.2 q;omega
  ·intro m' x' q
   cases q
   refine⟨y2,?_⟩
   by_cases e1:x.part=1
   ·have hdn:=(h.tk _ m x u1 u4).2 e1
    have hdr:=h.drw;have hd:=h.ei.dr;rw[<- hdn,al1]at hdr;have i1:(isU (H.D (H.at_ t)).tx).toNat=1:=by rw[u4];rfl
    have one:cu (fun u=>a48 (H.E.T u)) H.E.n=1:=by
     have z:=aQ3 (f:=fun u=>a48 (H.E.T u)) (g:=fun u=>if u=t then false else a48 (H.E.T u)) H.E.n ht (fun i _ hi=>if_neg hi);have z0:cu (fun u=>if u=t then false else a48 (H.E.T u)) H.E.n=0:=b23 _ fun u hu=>by
      split
      ·rfl
      ·next hne =>
       cases hU:H.E.T u with
       | none=>rfl
       | some s=>cases s with
        | inl p=>rfl
        | inr p =>
         by_cases hp1:p.2.part=1
         ·exfalso
          obtain⟨v1,v2,_,v4⟩:=h.up u _ hu hU;have:=(h.tk _ p.1 p.2 v1 v4).2 hp1;have hat:H.at_ u=H.at_ t:=by omega
          rw[hat,u2]at v2;exact hne v2.symm
         ·simp[a48,hp1]
     have z1:(a48 (H.E.T t)).toNat=1:=by rw[hT];simp[a48,e1]
     rw[z0,z1]at z
     simp at z
     omega
    rw[(a76 e1).2]
    show wordAt H.E.ws 0=_
    rw[one]at hd;omega
   ·exact tick' e1
  ·intro m' x' q q'
   cases q
   have e9:(a09 x H.E.ws).1.part=9:=zP q';have e8:=y3 e9;rw[y1 (by omega),ww.1 e8,W.sv (by omega)];omega
  ·intro m' x' q q'
   cases q
   rcases y4 q' with z | z | z
   ·obtain⟨r1,r2⟩:=y5 z q'
    obtain⟨⟨j,hj⟩,_⟩:=W.mac (by omega) (by omega);rw[ha,flat (by omega) (by omega),r1];exact⟨j+1,by rw[ai7,<- hj,ag4 r2]⟩
   ·exact absurd z e7
   ·rw[(p8 z).1]
    exact h.wm _ m x u1 u4 (by omega)
  ·intro m' x' q q' q''
   cases q
   rcases y4 q' with z | z | z
   ·exact absurd q'' (p4 (by omega) q')
   ·exact absurd z e7
   ·obtain⟨r1,r2,_⟩:=p8 z
    rw[r1]at q'';obtain⟨s,v1,v2,v3,v4,v5,v6⟩:=h.wp _ m x u1 u4 (by omega) q'';exact⟨s,v1,v2,by rw[r2];exact v3,by rw[r1];exact v4,v5,h.ptN (s+1) (by omega)⟩
theorem HI.step (h:HI H S k pt ld) (hn:NoDr H) (ht:t<H.E.n) (hf:¬ finE H.E t):(∃ S' k' pt' ld',HI (ak5 H t) S' k' pt' ld'/\(∀ j,j<=k->S' j=S j)/\k<=k')/\NoDr (ak5 H t)/\(ak5 H t).E=aq8 H.E t/\(ak5 H t).N=H.N+1:=by
 obtain⟨h1,e1,e2,e3⟩:=h.begins hn ht hf;have ht':t<(begH H t).E.n:=by rw[e1,(ae7 H.E t).1];exact ht
 have eE:(ak5 H t).E=aq8 H.E t/\(ak5 H t).N=H.N+1:=by
  unfold ak5 goH aq8
  cases hT:(begH H t).E.T t with
  | none=>exact absurd hT e3
  | some y =>
   dsimp only;rw[e1];exact⟨rfl,e2⟩
 have nd:NoDr (ak5 H t):=by
  intro u m x hu hU;rw[eE.1]at hu hU;obtain⟨s1,_,_,_,s5⟩:=aq9 H.E t;rw[s1]at hu
  by_cases q:u=t
  ·subst q
   unfold aq8 goE at hU;dsimp only at hU;rw[a08,<- e1]at hU
   cases hT:(begH H u).E.T u with
   | none=>exact absurd hT e3
   | some y =>
    rw[hT,b43]at hU
    rcases y with⟨m',x'⟩ | ⟨m',x'⟩
    ·split at hU
     ·cases hU
     ·cases hU
    ·obtain⟨W,_⟩:=h1.ei.gi.wr u m' x' ht' hT
     split at hU
     ·cases hU
     ·cases hU
      exact(al8 W.iny.part W.np).2.1
  ·rw[(s5 u q).1]at hU
   exact hn u m x hu hU
 refine⟨?_,nd,eE⟩;unfold ak5
 cases hT:(begH H t).E.T t with
 | none=>exact absurd hT e3
 | some y=>cases y with
  | inl p =>
   obtain⟨ld',q⟩:=h1.goes_rd ht' hT;exact⟨S,k,pt,ld',q,fun _ _=>rfl,zE _⟩
  | inr p =>
   obtain⟨S',k',pt',q⟩:=h1.goes_wr ht' hT;exact⟨S',k',pt',ld,q⟩
end
def Ord (H:Hs):Prop:=∀ i j,i<j->j<H.dn->isU (H.D i).tx=true->isU (H.D j).tx=true->(H.D j).en≠0->(H.D i).en≠0/\(H.D i).en<=(H.D j).en
section
variable {H:Hs} {S:Nat->List Nat} {k t:Nat} {pt ld:Nat->Nat}
theorem HI.ended_before (h:HI H S k pt ld) {i j:Nat} (hij:i<j) (hj:j<H.dn) (ui:isU (H.D i).tx=true) (uj:isU (H.D j).tx=true) (he:(H.D j).en≠0):(H.D i).en≠0:=fun e0=>by
 cases hi:(H.D i).tx with
 | inl p=>rw[hi]at ui;cases ui
 | inr p =>
  cases hz:(H.D j).tx with
  | inl q=>rw[hz]at uj;cases uj
  | inr q =>
   have q9:q.2.part=9:=by
    have:=(h.en j hj he).2.2;rw[hz]at this;exact zP this
   have t2:=(h.tk j q.1 q.2 hj hz).1 (by omega);have s2:=h.sv j q.1 q.2 hj hz he;obtain⟨z1,z2,_⟩:=h.un i (by omega) e0;rw[hi]at z2;obtain⟨W,_⟩:=h.ei.gi.wr _ p.1 p.2 z1 z2;have c:cu (fun j=>isU (H.D j).tx) (i+1)<=cu (fun j=>isU (H.D j).tx) j:=av0 hij;rw[al1,ui]at c;have c1:true.toNat=1:=rfl;have hP:=W.iny.part;obtain⟨k1,k2⟩:=h.tk i p.1 p.2 (by omega) hi
   by_cases e1:p.2.part=1
   ·have:=k2 e1
    omega
   ·have t1:=k1 e1
    have:=W.tk (by omega);omega
theorem Ord.begins (o:Ord H):Ord (begH H t):=by
 unfold begH
 split
 ·intro i j hij hj ui uj he
  dsimp only at hj ui uj he ⊢;have hne:i≠H.dn:=by omega
  rcases Nat.lt_or_eq_of_le (Nat.le_of_lt_succ hj) with q | q
  ·have hne':j≠H.dn:=by omega
   rw[a40 _ _ hne']at uj he;rw[a40 _ _ hne]at ui;rw[a40 _ _ hne,a40 _ _ hne'];exact o i j hij q ui uj he
  ·rw[q,a18]at he
   exact absurd rfl he
 ·exact o
theorem Ord.goes (o:Ord H) (h:HI H S k pt ld) (ht:t<H.E.n) {y:Ty} (hT:H.E.T t=some y):Ord (goH H t):=by
 obtain⟨u1,u2,u3,u4⟩:=h.up t y ht hT;unfold goH;rw[hT];intro i j hij hj ui uj he;dsimp only at hj ui uj he ⊢;have iu:∀ a,isU (updD H.D (H.at_ t) { H.D (H.at_ t) with tx:=goS y H.E.ws,en:=if a51 (goS y H.E.ws) then H.N else 0 } a).tx=isU (H.D a).tx:=fun a=>by
  by_cases q:a=H.at_ t
  ·subst q;rw[a18];dsimp only;rw[bq5,u4]
  ·rw[a40 _ _ q]
 rw[iu]at ui uj
 by_cases qj:j=H.at_ t
 ·subst qj
  have hne:i≠H.at_ t:=by omega
  rw[a18]at he;rw[a18,a40 _ _ hne];dsimp only at he ⊢;have ov:a51 (goS y H.E.ws)=true:=by
   cases z:a51 (goS y H.E.ws) with
   | true=>rfl
   | false=>rw[z]at he;exact absurd rfl he
  rw[ov];simp only[if_true];have e0:(H.D i).en≠0:=fun e0=>by
   cases hi:(H.D i).tx with
   | inl p=>rw[hi]at ui;cases ui
   | inr p =>
    obtain⟨z1,z2,_⟩:=h.un i (by omega) e0;rw[hi]at z2;obtain⟨W,_⟩:=h.ei.gi.wr _ p.1 p.2 z1 z2;have hP:=W.iny.part
    rcases y with⟨m,x⟩ | ⟨m,x⟩
    ·rw[u4]at uj
     cases uj
    ·obtain⟨V,_⟩:=h.ei.gi.wr t m x ht hT
     have e9:(a09 x H.E.ws).1.part=9:=zP ov;have e8:=(al8 V.iny.part V.np).2.2.1 e9;have t2:=(h.tk _ m x u1 u4).1 (by omega);have s2:=V.sv (by omega);have c:cu (fun j=>isU (H.D j).tx) (i+1)<=cu (fun j=>isU (H.D j).tx) (H.at_ t):=av0 hij;rw[al1,ui]at c;have c1:true.toNat=1:=rfl;obtain⟨k1,k2⟩:=h.tk i p.1 p.2 (by omega) hi
     by_cases e1:p.2.part=1
     ·have:=k2 e1
      omega
     ·have t1:=k1 e1
      have:=W.tk (by omega);omega
  exact⟨e0,(h.en i (by omega) e0).2.1⟩
 ·rw[a40 _ _ qj]at he
  have e0:=h.ended_before hij hj ui uj he;have hne:i≠H.at_ t:=fun q=>by subst q;exact e0 u3
  rw[a40 _ _ qj,a40 _ _ hne];exact o i j hij hj ui uj he
theorem Ord.step (o:Ord H) (h:HI H S k pt ld) (hn:NoDr H) (ht:t<H.E.n) (hf:¬ finE H.E t):Ord (ak5 H t):=by
 obtain⟨h1,e1,_,e3⟩:=h.begins hn ht hf;have ht':t<(begH H t).E.n:=by rw[e1,(ae7 H.E t).1];exact ht
 unfold ak5
 cases hT:(begH H t).E.T t with
 | none=>exact absurd hT e3
 | some y=>exact o.begins.goes h1 ht' hT
theorem HI.explW (h:HI H S k pt ld) {i:Nat} {m:Mac} {x:Wx} (hi:i<H.dn) (e:(H.D i).tx=.inr (m,x)):∃ j,x.m=runN (S (cu (fun j=>comU (H.D j).tx) i)) j m:=by
 by_cases p8:8<=x.part
 ·exact h.wm i m x hi e p8
 ·have he:(H.D i).en=0:=by
   refine Classical.byContradiction fun q=>?_
   have:=(h.en i hi q).2.2;rw[e]at this;have:x.part=9:=zP this;omega
  obtain⟨z1,z2,z3⟩:=h.un i hi he;rw[e]at z2;obtain⟨W,_⟩:=h.ei.gi.wr _ m x z1 z2
  by_cases p3:x.part<=3
  ·exact⟨0,(W.m3 p3).1⟩
  ·have c:cu (fun j=>comU (H.D j).tx) i=k:=by
    rw[h.com];refine(b22 (by omega) fun u i1 i2=>?_).symm
    rcases Nat.lt_or_eq_of_le i1 with z | z
    ·cases hz:(H.D u).tx with
     | inl p=>rfl
     | inr p =>
      have:=h.later hi e (by omega) (W.sv (by omega)) z i2 hz
      simp[comU]
      intro q;omega
    ·rw[<- z,e]
     simp[comU]
     intro q;omega
   rw[c];exact(W.mac (by omega) (by omega)).1
end
def aB8 (ws:List Int) (a b:Int):Prop:=∀ c,0<=c->c<a->okN (wordAt ws (3+b+3*c+1)).toNat
section
variable {E:Eg} {S:Nat->List Nat} {k t:Nat}
theorem bi9 {x:Wx} {ws:List Int} (h:InY x) (h6:x.part=6) (hl:(ws.length:Int)=3+x.b+3*x.a) (o:aB8 ws x.a x.b):aB8 (ah7 x ws) x.a x.b:=fun c c0 c1=>by
 have h1:=h.at6 h6;have hb:=h.cb;have hm:x.m.buf.getD (x.at_ / 3) (0,0)∈x.m.buf:=by
  rw[zG,List.getElem?_eq_getElem (by omega)];exact List.getElem_mem _
 obtain⟨g0,g1⟩:=h.rest.cel _ hm;rw[h.cel]at g1;have gn:=h.rest.inv.buf _ hm;unfold ah7
 split
 ·rw[a17 (by omega) (by unfold atC;omega)]
  exact o c c0 c1
 ·split
  ·rw[a17 (by omega) (by unfold atC;omega)]
   exact o c c0 c1
  ·by_cases q:(x.m.buf.getD (x.at_ / 3) (0,0)).1=c
   ·have e:3+x.b+3*c+1=(((atC x (x.m.buf.getD (x.at_ / 3) (0,0)).1 1).toNat:Nat):Int):=by unfold atC;omega
    rw[e,ay7 (by unfold atC;omega)];exact gn
   ·rw[a17 (by omega) (by unfold atC;omega)]
    exact o c c0 c1
theorem EI.now (h:EI E S k) (ht:t<E.n) (o:aB8 E.ws E.C.a E.C.b):aB8 (goE E t).ws E.C.a E.C.b:=by
 unfold goE;dsimp only
 cases hT:E.T t with
 | none=>exact o
 | some y=>cases y with
  | inl p =>
   have R:=h.gi.rd t p.1 p.2 ht hT;have hth:=R.inx.th;have hb:=R.b
   show aB8 (a19 p.2 E.ws).2.1 _ _
   intro c c0 c1;rw[ah1 R.inx (by omega) (by omega)];exact o c c0 c1
  | inr p =>
   obtain⟨W,_⟩:=h.gi.wr t p.1 p.2 ht hT
   show aB8 (a09 p.2 E.ws).2.1 _ _
   by_cases e6:p.2.part=6
   ·rw[(a84 e6).1,<- W.a,<- W.b]
    exact bi9 W.iny e6 (by rw[W.a,W.b];exact h.gi.len) (by rw[W.a,W.b];exact o)
   ·have hb:=W.b
    have hc:=W.iny.cb;intro c c0 c1;rw[ay2 W.iny e6 (by omega)];exact o c c0 c1
theorem EI.now_step (h:EI E S k) (ht:t<E.n) (hf:¬ finE E t) (o:aB8 E.ws E.C.a E.C.b):aB8 (aq8 E t).ws (aq8 E t).C.a (aq8 E t).C.b:=by
 obtain⟨h1,_⟩:=h.begins ht hf;obtain⟨b1,_,_,b4,b5,_⟩:=ae7 E t;have:=h1.now (by rw[b1];exact ht) (by rw[b4,b5];exact o);rw[(aq9 E t).2.2.2.1];rw[b4]at this;exact this
theorem EI.fresh (hT:∀ t,E.T t=none) (hB:∀ t,E.B t=0) (h0:E.drw=0) (h1:E.com=0) (hb:E.C.b=(E.n:Int)) (hl:(E.ws.length:Int)=3+E.C.b+3*E.C.a) (hok:okW E.ws) (hw:∀ p,0<=p->p<3+E.C.b->wordAt E.ws p=0) (hv:∀ c,0<=c->c<E.C.a->verW E.ws E.C.b c=0) (hs:((S 0).length:Int)=E.C.a/\okS (S 0)) (hn:∀ c,0<=c->c<E.C.a->fixB (wordAt E.ws (3+E.C.b+3*c+1)).toNat=Sx.getV (S 0) c) (hnew:∀ t j,t<E.n->j<E.nc t->br8 E.C t (E.nx t j)) (hall:su E.nc E.n<=1000000):EI E S 0:=by
 have w0:wordAt E.ws 0=0:=hw 0 (by omega) (by omega);have w1:wordAt E.ws 1=0:=hw 1 (by omega) (by omega);have w2:wordAt E.ws 2=0:=hw 2 (by omega) (by omega);have z:∀ f:Tx->Bool,f none=false->cu (fun t=>f (E.T t)) E.n=0:=fun f hf=>b23 _ fun i _=>by rw[hT i];exact hf
 refine⟨⟨hb,hl,hok,w2,by omega,?_,?_,?_,?_,?_,?_,?_⟩,?_,hnew,fun t _=>by rw[hB];exact zV _,?_,?_,?_,hall,?_⟩
 ·intro j hj
  rw[Nat.le_zero.mp hj];exact hs
 ·intro t ht _
  exact hw _ (by omega) (by omega)
 ·intro t m x _ e
  rw[hT]at e
  cases e
 ·intro t m x _ e
  rw[hT]at e
  cases e
 ·intro t u m x m' x' _ _ e
  rw[hT]at e
  cases e
 ·intro _ c c0 c1
  have v:=hv c c0 c1;refine⟨by omega,by omega,fun j _ hj=>?_,fun j hj=>by omega⟩;rw[Nat.le_zero.mp hj];exact hn c c0 c1
 ·intro t m x _ e
  rw[hT]at e
  cases e
 ·intro j j1 j2
  omega
 ·rw[z a48 rfl,h0,w0]
  rfl
 ·rw[z pubd rfl,h1]
 ·rw[h0]
  exact zV _
 ·rw[z isW rfl,h0,h1]
  exact zE _
end
section
variable {H:Hs} {S:Nat->List Nat} {k t:Nat} {pt ld:Nat->Nat}
theorem HI.fresh (h:EI H.E S 0) (hT:∀ t,H.E.T t=none) (hB:∀ t,H.E.B t=0) (h0:H.E.drw=0) (hd:H.dn=0):HI H S 0 (fun _=>0) (fun _=>0)/\NoDr H/\Ord H:=by
 have no:∀ i,¬ i<H.dn:=fun i=>by omega
 refine⟨⟨h,?_,by rw[hd,h0];rfl,by rw[hd];rfl,(fun t y _ e=>by rw[hT]at e;cases e),fun i hi=>absurd hi (no i),fun i hi=>absurd hi (no i),fun _ j _ hj=>absurd hj (no j),fun i hi=>absurd hi (no i),fun i _ _ hi=>absurd hi (no i),fun i _ _ hi=>absurd hi (no i),rfl,fun j hj=>absurd hj (zI _),fun _ _=>zV _,fun i _ _ hi=>absurd hi (no i),fun i _ _ hi=>absurd hi (no i),fun i _ _ hi=>absurd hi (no i)⟩,(fun t m x _ e=>by rw[hT]at e;cases e),fun _ j _ hj=>absurd hj (no j)⟩;rw[hd];have:∀ n,su H.E.B n=0:=fun n=>by
  induction n with
  | zero=>rfl
  | succ n ih=>show su H.E.B n+H.E.B n=0;rw[ih,hB]
 rw[this]
end
def Nz (H:Hs):Prop:=∀ i m x,i<H.dn->(H.D i).tx=.inr (m,x)->comU (.inr (m,x))=false->x.num=0
theorem ba5 {x:Wx} {ws:List Int} (hp:x.part≠7):(a09 x ws).1.num=x.num:=by
 have e8:(a16 x).part=x.part:=rfl;unfold a09 a62
 split
 ·rfl
 ·split
  ·dsimp only
   split <;> rfl
  ·split
   ·rfl
   ·split
    ·dsimp only
     unfold runY
     split
     ·rfl
     ·split
      ·rfl
      ·split <;> rfl
    ·split
     ·dsimp only
      unfold a97
      split
      ·split <;> rfl
      ·rfl
     ·split
      ·rfl
      ·split
       ·next q=>exact absurd (e8.symm.trans q) hp
       ·rfl
section
variable {H:Hs} {S:Nat->List Nat} {k t:Nat} {pt ld:Nat->Nat}
theorem Nz.begins (z:Nz H) (hz:∀ m x,H.E.nx t (H.E.B t)=.wr m x->x.num=0):Nz (begH H t):=by
 unfold begH
 split
 ·next y hT hy =>
  intro i m x hi e c;dsimp only at hi e
  rcases Nat.lt_or_eq_of_le (Nat.le_of_lt_succ hi) with q | q
  ·rw[a40 _ _ (by omega)]at e
   exact z i m x q e c
  ·rw[q,a18]at e
   dsimp only at e;rw[e]at hy;exact hz m x hy
 ·exact z
theorem Nz.goes (z:Nz H) (h:HI H S k pt ld) (ht:t<H.E.n) {y:Ty} (hT:H.E.T t=some y):Nz (goH H t):=by
 obtain⟨u1,u2,u3,u4⟩:=h.up t y ht hT;unfold goH;rw[hT];intro i m x hi e c;dsimp only at hi e
 by_cases q:i=H.at_ t
 ·subst q
  rw[a18]at e;dsimp only at e
  rcases y with⟨m',x'⟩ | ⟨m',x'⟩
  ·cases e
  ·obtain⟨W,_⟩:=h.ei.gi.wr t m' x' ht hT
   have hP:=W.iny.part;have hnp:=W.np
   cases e
   by_cases e7:x'.part=7
   ·exfalso
    have s2:=(a81 (x:=x') (ws:=H.E.ws) e7).2;have n8:(a09 x' H.E.ws).1.part=8:=by rw[s2]
    have nm:(a09 x' H.E.ws).1.m=x'.m:=by rw[s2];rfl
    have hh:=W.iny.com (by omega) (by omega)
    simp[comU,n8,nm,hh]at c
   ·rw[ba5 e7]
    refine z _ _ x' u1 u4 ?_
    cases c':comU (.inr (m,x')) with
    | false=>rfl
    | true =>
     exfalso
     have q8:8<=x'.part/\x'.m.how=1:=by simpa[comU]using c'
     have s2:=(a85 (x:=x') (ws:=H.E.ws) (by omega)).2;have n8:(a09 x' H.E.ws).1.part=9:=by rw[s2]
     have nm:(a09 x' H.E.ws).1.m=x'.m:=by rw[s2];rfl
     simp[comU,n8,nm,q8.2]at c
 ·rw[a40 _ _ q]at e
  exact z i m x hi e c
structure HA (H:Hs) (S:Nat->List Nat) (k:Nat) (pt ld:Nat->Nat):Prop where
 hi:HI H S k pt ld
 nd:NoDr H
 od:Ord H
 nz:Nz H
 now:aB8 H.E.ws H.E.C.a H.E.C.b
 new:∀ t j m x,t<H.E.n->j<H.E.nc t->H.E.nx t j=.wr m x->x.num=0
theorem HA.step (h:HA H S k pt ld) (ht:t<H.E.n) (hf:¬ finE H.E t):∃ S' k' pt' ld',HA (ak5 H t) S' k' pt' ld'/\(∀ j,j<=k->S' j=S j)/\k<=k':=by
 obtain⟨⟨S',k',pt',ld',q1,q2,q3⟩,q4,q5,_⟩:=h.hi.step h.nd ht hf;obtain⟨h1,e1,_,e3⟩:=h.hi.begins h.nd ht hf;have ht':t<(begH H t).E.n:=by rw[e1,(ae7 H.E t).1];exact ht
 obtain⟨s1,s2,s3,_,_⟩:=aq9 H.E t;refine⟨S',k',pt',ld',⟨q1,q4,h.od.step h.hi h.nd ht hf,?_,?_,?_⟩,q2,q3⟩
 ·have z1:Nz (begH H t):=by
   by_cases c:H.E.B t<H.E.nc t
   ·exact h.nz.begins fun m x e=>h.new t _ m x ht c e
   ·have hT:H.E.T t≠none:=fun e=>hf ⟨e,by have:=h.hi.ei.bg t ht;omega⟩
    unfold begH
    split
    ·next e _=>exact absurd e hT
    ·exact h.nz
  unfold ak5
  cases hT:(begH H t).E.T t with
  | none=>exact absurd hT e3
  | some y=>exact z1.goes h1 ht' hT
 ·rw[q5]
  exact h.hi.ei.now_step ht hf h.now
 ·rw[q5,s1,s2,s3]
  exact h.new
end
structure Rs where
 H:Hs
 stp:Nat->Bool
 R:Nat
 fr:Nat->Nat
 to_:Nat->Nat
 ah:Nat->Nat
def aL8 (E:Eg) (p:Nat->Bool):Nat->Bool
 | 0=>true
 | n+1=>aL8 E p n && (decide (finE E n) || p n)
theorem aG9 (E:Eg) (p:Nat->Bool):∀ n,aL8 E p n=true ↔ ∀ u,u<n->finE E u∨p u=true
 | 0=>⟨fun _ _ h=>absurd h (zI _),fun _=>rfl⟩
 | n+1=>by
  show (aL8 E p n && (decide (finE E n) || p n))=true ↔ _
  rw[Bool.and_eq_true,aG9 E p n,Bool.or_eq_true,decide_eq_true_iff]
  constructor
  ·intro h u hu
   rcases Nat.lt_or_eq_of_le (Nat.le_of_lt_succ hu) with q | q
   ·exact h.1 u q
   ·rw[q];exact h.2
  ·exact fun h=>⟨fun u hu=>h u (by omega),h n (by omega)⟩
def stepR (X:Rs) (t:Nat):Rs :=
 let H':=ak5 X.H t
 let p:Nat->Bool:=fun u=>if u=t then true else X.stp u
 let R':=if aL8 H'.E p H'.E.n then X.R+1 else X.R
 { H:=H',stp:=if aL8 H'.E p H'.E.n then fun _=>false else p,R:=R',fr:=if (X.H.E.T t).isNone then updN X.fr X.H.dn X.R else X.fr,to_:=if (H'.E.T t).isNone then updN X.to_ (H'.at_ t) R' else X.to_,ah:=if (X.H.E.T t).isNone then updN X.ah X.H.dn (wordAt X.H.E.ws 0 - wordAt X.H.E.ws 1).toNat else X.ah }
end Go.Proofs.YtipakfjpfjehmaaGreatDoor.Ww
namespace Go.Proofs.YtipakfjpfjehmaaGreatDoor.Rr
open Go.ChangeShapes Go.WideShapes Go.ChangeAt Go.RowKit Num
structure Rz where
 bm:Nat
 K:List Nat
 xc:Nat
 pa:Option Addr
 ca:Nat
def Rz.KK (z:Rz):List Nat:=z.K ++ fpR z.pa
def ptrV (q:Option Nat):Value:=.pointer (q.map fun n=>⟨n,0,none⟩)
def gX (b:Nat) (z:Rz) (q:Option Nat) (F:List Nat):List Nat:=b::z.xc::(q.toList ++ F)
def ak6 (x:Rx) (z:Rz) (q:Option Nat):Array Value:=#[.int .i64 0,.int .i64 1,.int .i64 2,.int .i64 3,.int .i64 (3+x.b),.int .i64 (3+x.b+3*x.a),.pointer (some ⟨z.bm,0,none⟩),.int .i64 x.steps,.int .i64 x.tag,.slice z.pa x.args.length z.ca,.int .i64 x.th,.int .i64 (x.part:Int),.pointer (some ⟨z.xc,0,none⟩),ptrV q]
structure RawAt (w:World) (b:Nat) (x:Rx) (z:Rz) (q:Option Nat) (F:List Nat) (c:Md.Cv.Cs) (r:Md.Ce.Rd):Prop where
 box:w.heap[b]?=some (.cells (ak6 x z q) 169 (0,0))
 mac:Mc w z.bm F z.K x.m
 com:Md.Cv.CmAt w z.xc c
 rd:∀ n,q=some n->Md.Ce.RdAt w n r
 arg:RowAt 49 w z.pa z.ca (fls x.args)
 sf:Sep (b::z.xc::q.toList) F
 sk:Sep (b::z.xc::q.toList) z.KK
 fa:Sep (fpR z.pa) F
theorem ai5 {w w':World} {n:Nat} {r:Md.Ce.Rd} (h:Md.Ce.RdAt w n r) (k:w'.heap[n]?=w.heap[n]?):Md.Ce.RdAt w' n r:=Md.Ce.RbAt.keep h k
theorem bb8 {F F':List Nat} {w w':World} (t:Turn F F' w w') (A:List Nat):Turn (A ++ F) (A ++ F') w w' :=
 ⟨t.os,t.tape,t.output,t.size,fun k hk hn=>t.block k hk (fun q=>hn (List.mem_append.2 (.inr q))),fun k hk=>(List.mem_append.1 hk).elim (fun q=>.inl (List.mem_append.2 (.inl q))) (fun q=>(t.own k q).imp (fun y=>List.mem_append.2 (.inr y)) id)⟩
theorem ah2 {L F:List Nat} {w w':World} (o1:w'.os=w.os) (o2:w'.tape=w.tape) (o3:w'.output=w.output) (hs:w.heap.size<=w'.heap.size) (hL:∀ k,k∈L->k∈F) (hb:∀ k,k<w.heap.size->k∉L->w'.heap[k]?=w.heap[k]?):Turn F F w w' :=
 ⟨o1,o2,o3,hs,fun k hk hn=>hb k hk (fun q=>hn (hL k q)),fun _ h=>.inl h⟩
section
variable {w w':World} {b:Nat} {x:Rx} {z:Rz} {q:Option Nat} {F:List Nat} {c:Md.Cv.Cs} {r:Md.Ce.Rd}
theorem RawAt.ltB (h:RawAt w b x z q F c r):b<w.heap.size:=lt_of_block h.box
theorem RawAt.blw (h:RawAt w b x z q F c r):Blw w (gX b z q F):=fun k hk=>by
 simp only[gX,List.mem_cons,List.mem_append,Option.mem_toList]at hk
 rcases hk with rfl | rfl | hk | hk
 ·exact h.ltB
 ·exact h.com.lt
 ·exact Md.Ce.RdAt.lt (h.rd k hk)
 ·exact h.mac.blw k hk
theorem RawAt.blwK (h:RawAt w b x z q F c r):Blw w z.KK:=fun k hk=>by
 rcases List.mem_append.1 hk with hk | hk
 ·exact h.mac.blwK k hk
 ·exact h.arg.blw k hk
theorem RawAt.sep (h:RawAt w b x z q F c r):Sep z.KK (gX b z q F):=fun k hk hq=>by
 have hX:=h.sk.symm k hk;have hF:k∉F:=fun q=>by
  rcases List.mem_append.1 hk with hk | hk
  ·exact h.mac.sepK k hk q
  ·exact h.fa k hk q
 simp only[gX,List.mem_cons,List.mem_append]at hq hX
 rcases hq with rfl | rfl | hq | hq
 ·exact hX (.inl rfl)
 ·exact hX (.inr (.inl rfl))
 ·exact hX (.inr (.inr hq))
 ·exact hF hq
theorem in_b {b:Nat} {z:Rz} {q:Option Nat} {F:List Nat}:b∈gX b z q F:=by simp[gX]
theorem in_c {b:Nat} {z:Rz} {q:Option Nat} {F:List Nat}:z.xc∈gX b z q F:=by simp[gX]
theorem in_q {b n:Nat} {z:Rz} {q:Option Nat} {F:List Nat} (h:q=some n):n∈gX b z q F:=by simp[gX,h]
theorem in_F {b k:Nat} {z:Rz} {q:Option Nat} {F:List Nat} (h:k∈F):k∈gX b z q F:=by simp[gX,h]
theorem RawAt.keep (h:RawAt w b x z q F c r) (k:Kept (gX b z q F) w w') (k2:Kept z.KK w w'):RawAt w' b x z q F c r :=
 ⟨(k.2 b in_b).trans h.box,h.mac.keep ⟨k.1,fun i hi=>k.2 i (in_F hi)⟩ ⟨k.1,fun i hi=>k2.2 i (List.mem_append.2 (.inl hi))⟩,h.com.keep (k.2 _ in_c),fun n hn=>ai5 (h.rd n hn) (k.2 n (in_q hn)),h.arg.keep ⟨k.1,fun i hi=>k2.2 i (List.mem_append.2 (.inr hi))⟩,h.sf,h.sk,h.fa⟩
theorem RawAt.on (h:RawAt w b x z q F c r) (k:Bl w w'):RawAt w' b x z q F c r:=h.keep (a27 k h.blw) (a27 k h.blwK)
theorem RawAt.cell (h:RawAt w b x z q F c r) (j:Nat):w.cell? ⟨b,j,none⟩=(ak6 x z q)[j]?:=zR w b j _ _ _ h.box
theorem RawAt.free (h:RawAt w b x z q F c r) (j:Nat):w.frozen? ⟨b,j,none⟩=false:=zZ w b j _ _ h.box
theorem RawAt.bc (h:RawAt w b x z q F c r):b≠z.xc:=Md.Cv.ne_ty h.box h.com (by decide)
theorem RawAt.bq (h:RawAt w b x z q F c r) {n:Nat} (hn:q=some n):b≠n:=Md.Cv.ne_ty h.box (h.rd n hn) (by decide)
theorem RawAt.cq (h:RawAt w b x z q F c r) {n:Nat} (hn:q=some n):z.xc≠n:=Md.Cv.ne_ty h.com (h.rd n hn) (by decide)
theorem RawAt.nF (h:RawAt w b x z q F c r) {k:Nat} (hk:k=b∨k=z.xc∨q=some k):k∉F:=h.sf k (by simpa using hk)
theorem RawAt.nK (h:RawAt w b x z q F c r) {k:Nat} (hk:k=b∨k=z.xc∨q=some k):k∉z.KK:=h.sk k (by simpa using hk)
theorem ae8 {F:List Nat} {w:World} {b j:Nat} {v:Value} (h:b∉F):Kept F w (w.setCell ⟨b,j,none⟩ v):=⟨by simp,fun i hi=>zO _ _ _ _ (fun (e:i=b)=>h (e ▸ hi))⟩
theorem RawAt.put (h:RawAt w b x z q F c r) (j:Nat) (v:Value) (x':Rx) (e:(ak6 x z q).setIfInBounds j v=ak6 x' z q) (hm:x'.m=x.m) (ha:x'.args=x.args):RawAt (w.setCell ⟨b,j,none⟩ v) b x' z q F c r:=by
 have kF:Kept F w (w.setCell ⟨b,j,none⟩ v):=ae8 (h.nF (.inl rfl));have kK:Kept z.KK w (w.setCell ⟨b,j,none⟩ v):=ae8 (h.nK (.inl rfl));refine⟨?_,by rw[hm];exact h.mac.keep kF ⟨kK.1,fun i hi=>kK.2 i (List.mem_append.2 (.inl hi))⟩,h.com.keep (zO _ _ _ _ (fun (e:z.xc=b)=>h.bc e.symm)),fun n hn=>ai5 (h.rd n hn) (zO _ _ _ _ (fun (e:n=b)=>h.bq hn e.symm)),by rw[ha];exact h.arg.keep ⟨kK.1,fun i hi=>kK.2 i (List.mem_append.2 (.inr hi))⟩,h.sf,h.sk,h.fa⟩;rw[<- e];exact zS w b j _ _ v h.box
theorem RawAt.putQ (h:RawAt w b x z q F c r) (q':Option Nat) (r':Md.Ce.Rd) (hq:∀ n,q'=some n->Md.Ce.RdAt w n r'/\n∉F/\n∉z.KK):RawAt (w.setCell ⟨b,13,none⟩ (ptrV q')) b x z q' F c r':=by
 have kF:Kept F w (w.setCell ⟨b,13,none⟩ (ptrV q')):=ae8 (h.nF (.inl rfl));have kK:Kept z.KK w (w.setCell ⟨b,13,none⟩ (ptrV q')):=ae8 (h.nK (.inl rfl));have nq:∀ n,q'=some n->b≠n:=fun n hn=>Md.Cv.ne_ty h.box (hq n hn).1 (by decide)
 refine⟨?_,h.mac.keep kF ⟨kK.1,fun i hi=>kK.2 i (List.mem_append.2 (.inl hi))⟩,h.com.keep (zO _ _ _ _ (fun (e:z.xc=b)=>h.bc e.symm)),fun n hn=>ai5 (hq n hn).1 (zO _ _ _ _ (fun (e:n=b)=>nq n hn e.symm)),h.arg.keep ⟨kK.1,fun i hi=>kK.2 i (List.mem_append.2 (.inr hi))⟩,fun k hk=>?_,fun k hk=>?_,h.fa⟩
 ·exact zS w b 13 _ _ _ h.box
 ·simp only[List.mem_cons,Option.mem_toList]at hk
  rcases hk with hk | hk | hk
  ·exact h.nF (.inl hk)
  ·exact h.nF (.inr (.inl hk))
  ·exact(hq k hk).2.1
 ·simp only[List.mem_cons,Option.mem_toList]at hk
  rcases hk with hk | hk | hk
  ·exact h.nK (.inl hk)
  ·exact h.nK (.inr (.inl hk))
  ·exact(hq k hk).2.2
theorem RawAt.mach (h:RawAt w b x z q F c r) {m':Mac} (g:Gm w F z.bm z.K w' m'):∃ F',RawAt w' b { x with m:=m' } z q F' c r/\Turn F F' w w':=by
 obtain⟨F',hM,t⟩:=g.mc;have lX:Blw w (b::z.xc::q.toList):=fun k hk=>h.blw k (by simp only[gX,List.mem_cons,List.mem_append]at hk ⊢;rcases hk with hk | hk | hk <;> simp[hk])
 have kX:Kept (b::z.xc::q.toList) w w':=t.kept h.sf lX;have kA:Kept (fpR z.pa) w w':=t.kept h.fa h.arg.blw;exact⟨F',⟨(kX.2 b (by simp)).trans h.box,hM,h.com.keep (kX.2 _ (by simp)),fun n hn=>ai5 (h.rd n hn) (kX.2 n (by simp[hn])),h.arg.keep kA,h.sf.turn lX t,h.sk,h.fa.turn h.arg.blw t⟩,t⟩
end
def Mid (W:World) (G0:List Nat) (b:Nat) (z:Rz) (mb mg:Nat) (w:World) (x:Rx) (q:Option Nat) (c:Md.Cv.Cs) (r:Md.Ce.Rd) (ws:List Int) (o:Bool) (n:Int):Prop :=
 ∃ F,RawAt w b x z q F c r/\MemAt 106 w mb mg ws o n/\Sep [mb,mg] (gX b z q F)/\Sep [mb,mg] z.KK/\Turn G0 (mb::mg::gX b z q F) W w
section
variable {W w w':World} {G0:List Nat} {b mb mg:Nat} {x:Rx} {z:Rz} {q:Option Nat} {c:Md.Cv.Cs} {r:Md.Ce.Rd} {ws:List Int} {o:Bool} {n:Int}
theorem Mid.mem (h:Mid W G0 b z mb mg w x q c r ws o n):MemAt 106 w mb mg ws o n:=by obtain⟨F,_,h2,_⟩:=h;exact h2
theorem Mid.com (h:Mid W G0 b z mb mg w x q c r ws o n):Md.Cv.CmAt w z.xc c:=by obtain⟨F,h1,_⟩:=h;exact h1.com
theorem Mid.rd (h:Mid W G0 b z mb mg w x q c r ws o n) {k:Nat} (hk:q=some k):Md.Ce.RdAt w k r:=by obtain⟨F,h1,_⟩:=h;exact h1.rd k hk
theorem Mid.cell (h:Mid W G0 b z mb mg w x q c r ws o n) (j:Nat):w.cell? ⟨b,j,none⟩=(ak6 x z q)[j]?:=by obtain⟨F,h1,_⟩:=h;exact h1.cell j
theorem Mid.free (h:Mid W G0 b z mb mg w x q c r ws o n) (j:Nat):w.frozen? ⟨b,j,none⟩=false:=by obtain⟨F,h1,_⟩:=h;exact h1.free j
theorem Mid.ltB (h:Mid W G0 b z mb mg w x q c r ws o n):b<w.heap.size:=by obtain⟨F,h1,_⟩:=h;exact h1.ltB
theorem Mid.size (h:Mid W G0 b z mb mg w x q c r ws o n):W.heap.size<=w.heap.size:=by obtain⟨F,_,_,_,_,t⟩:=h;exact t.size
theorem Mid.on (h:Mid W G0 b z mb mg w x q c r ws o n) (k:Bl w w'):Mid W G0 b z mb mg w' x q c r ws o n:=by
 obtain⟨F,h1,h2,h3,h4,t⟩:=h;exact⟨F,h1.on k,h2.on k,h3,h4,t.trans (Below.turn k _)⟩
theorem Mid.alloc (h:Mid W G0 b z mb mg w x q c r ws o n) (y:Obj):Mid W G0 b z mb mg (w.alloc y) x q c r ws o n:=h.on (below_alloc _ y)
theorem Mid.same (h:Mid W G0 b z mb mg w x q c r ws o n) (k:Same w w'):Mid W G0 b z mb mg w' x q c r ws o n:=h.on (k.below _)
theorem Mid.drew (h:Mid W G0 b z mb mg w x q c r ws o n):Mid W G0 b z mb mg w.drew x q c r ws o n:=h.same (Same.drew w)
theorem Mid.put (h:Mid W G0 b z mb mg w x q c r ws o n) (j:Nat) (v:Value) (x':Rx) (e:(ak6 x z q).setIfInBounds j v=ak6 x' z q) (hm:x'.m=x.m) (ha:x'.args=x.args):Mid W G0 b z mb mg (w.setCell ⟨b,j,none⟩ v) x' q c r ws o n:=by
 obtain⟨F,h1,h2,h3,h4,t⟩:=h;refine⟨F,h1.put j v x' e hm ha,h2.other (fun e=>h3 mb (by simp) (e ▸ in_b)) (fun e=>h3 mg (by simp) (e ▸ in_b)) j v,h3,h4,t.trans (ah2 (L:=[b]) rfl rfl rfl (by simp) (fun k hk=>?_) fun k _ hn=>zO _ _ _ _ (by simpa using hn))⟩
 simp at hk
 subst hk
 simp[gX]
theorem Mid.memb {ws':List Int} {o':Bool} {n':Int} (h:Mid W G0 b z mb mg w x q c r ws o n) (k:Chg mb mg w w') (hm:MemAt 106 w' mb mg ws' o' n'):Mid W G0 b z mb mg w' x q c r ws' o' n':=by
 obtain⟨F,h1,h2,h3,h4,t⟩:=h;refine⟨F,h1.keep ⟨k.size,fun i hi=>k.block i (h1.blw i hi) (fun e=>h3 mb (by simp) (e ▸ hi)) (fun e=>h3 mg (by simp) (e ▸ hi))⟩ ⟨k.size,fun i hi=>k.block i (h1.blwK i hi) (fun e=>h4 mb (by simp) (e ▸ hi)) (fun e=>h4 mg (by simp) (e ▸ hi))⟩,hm,h3,h4,t.trans (ah2 (L:=[mb,mg]) k.os k.tape k.output k.size (fun i hi=>?_) fun i hi hn=>k.block i hi (fun e=>hn (by simp[e])) (fun e=>hn (by simp[e])))⟩;simp only[List.mem_cons,List.not_mem_nil,or_false]at hi
 rcases hi with rfl | rfl <;> simp
theorem Mid.comes {ws':List Int} {o':Bool} {n':Int} {c':Md.Cv.Cs} (h:Mid W G0 b z mb mg w x q c r ws o n) (k:Md.Cv.Ch3 mb mg z.xc w w') (hm:MemAt 106 w' mb mg ws' o' n') (hc:Md.Cv.CmAt w' z.xc c'):Mid W G0 b z mb mg w' x q c' r ws' o' n':=by
 obtain⟨F,h1,h2,h3,h4,t⟩:=h;have G:∀ i,i∈gX b z q F->i≠z.xc->w'.heap[i]?=w.heap[i]?:=fun i hi hn=>k.block i (h1.blw i hi) (fun e=>h3 mb (by simp) (e ▸ hi)) (fun e=>h3 mg (by simp) (e ▸ hi)) hn
 have G2:∀ i,i∈z.KK->w'.heap[i]?=w.heap[i]?:=fun i hi=>k.block i (h1.blwK i hi) (fun e=>h4 mb (by simp) (e ▸ hi)) (fun e=>h4 mg (by simp) (e ▸ hi)) (fun e=>h1.nK (.inr (.inl rfl)) (e ▸ hi))
 refine⟨F,⟨(G b in_b h1.bc).trans h1.box,h1.mac.keep ⟨k.size,fun i hi=>G i (in_F hi) (fun e=>h1.nF (.inr (.inl rfl)) (e ▸ hi))⟩ ⟨k.size,fun i hi=>G2 i (List.mem_append.2 (.inl hi))⟩,hc,fun i hi=>ai5 (h1.rd i hi) (G i (in_q hi) (fun e=>h1.cq hi e.symm)),h1.arg.keep ⟨k.size,fun i hi=>G2 i (List.mem_append.2 (.inr hi))⟩,h1.sf,h1.sk,h1.fa⟩,hm,h3,h4,t.trans (ah2 (L:=[mb,mg,z.xc]) k.os k.tape k.output k.size (fun i hi=>?_) fun i hi hn=>k.block i hi (fun e=>hn (by simp[e])) (fun e=>hn (by simp[e])) (fun e=>hn (by simp[e])))⟩;simp only[List.mem_cons,List.not_mem_nil,or_false]at hi
 rcases hi with rfl | rfl | rfl <;> simp[gX]
theorem Mid.reads {ws':List Int} {o':Bool} {n':Int} {r':Md.Ce.Rd} {i0:Nat} (h:Mid W G0 b z mb mg w x q c r ws o n) (hq:q=some i0) (k:Md.Ce.Ch [mb,mg,i0] w w') (hm:MemAt 106 w' mb mg ws' o' n') (hr:Md.Ce.RdAt w' i0 r'):Mid W G0 b z mb mg w' x q c r' ws' o' n':=by
 obtain⟨F,h1,h2,h3,h4,t⟩:=h;have G:∀ i,i∈gX b z q F->i≠i0->w'.heap[i]?=w.heap[i]?:=fun i hi hn=>k.block i (h1.blw i hi) (fun e=>by
  simp only[List.mem_cons,List.not_mem_nil,or_false]at e
  rcases e with e | e | e
  ·exact h3 mb (by simp) (e ▸ hi)
  ·exact h3 mg (by simp) (e ▸ hi)
  ·exact hn e)
 have G2:∀ i,i∈z.KK->w'.heap[i]?=w.heap[i]?:=fun i hi=>k.block i (h1.blwK i hi) (fun e=>by
  simp only[List.mem_cons,List.not_mem_nil,or_false]at e
  rcases e with e | e | e
  ·exact h4 mb (by simp) (e ▸ hi)
  ·exact h4 mg (by simp) (e ▸ hi)
  ·exact h1.nK (k:=i0) (.inr (.inr hq)) (e ▸ hi))
 refine⟨F,⟨(G b in_b (h1.bq hq)).trans h1.box,h1.mac.keep ⟨k.size,fun i hi=>G i (in_F hi) (fun e=>h1.nF (k:=i0) (.inr (.inr hq)) (e ▸ hi))⟩ ⟨k.size,fun i hi=>G2 i (List.mem_append.2 (.inl hi))⟩,h1.com.keep (G _ in_c (h1.cq hq)),fun i hi=>?_,h1.arg.keep ⟨k.size,fun i hi=>G2 i (List.mem_append.2 (.inr hi))⟩,h1.sf,h1.sk,h1.fa⟩,hm,h3,h4,t.trans (ah2 (L:=[mb,mg,i0]) k.os k.tape k.output k.size (fun i hi=>?_) fun i hi hn=>k.block i hi hn)⟩
 ·obtain rfl:i0=i:=by rw[hq]at hi;exact Option.some.inj hi
  exact hr
 ·simp only[List.mem_cons,List.not_mem_nil,or_false]at hi
  rcases hi with rfl | rfl | rfl <;> simp[gX,hq]
theorem Mid.readNew {w1:World} {r':Md.Ce.Rd} {i0:Nat} (h:Mid W G0 b z mb mg w x q c r ws o n) (k:Bl w w1) (hi:w.heap.size<=i0) (hr:Md.Ce.RdAt w1 i0 r'):Mid W G0 b z mb mg (w1.setCell ⟨b,13,none⟩ (.pointer (some ⟨i0,0,none⟩))) x (some i0) c r' ws o n:=by
 have hs:=h.size;obtain⟨F,h1,h2,h3,h4,t⟩:=h;have nG:i0∉gX b z q F:=fun y=>absurd (h1.blw i0 y) (Nat.not_lt.2 hi)
 have nK:i0∉z.KK:=fun y=>absurd (h1.blwK i0 y) (Nat.not_lt.2 hi)
 have g1:=(h1.on k).putQ (some i0) r' (fun n hn=>by cases hn;exact⟨hr,fun y=>nG (in_F y),nK⟩);have m1:=h2.on k;have tt:Turn (mb::mg::gX b z q F) (mb::mg::gX b z q F) w1 (w1.setCell ⟨b,13,none⟩ (.pointer (some ⟨i0,0,none⟩))):=⟨rfl,rfl,rfl,by simp,fun i _ hn=>zO _ _ _ _ (fun (e:i=b)=>hn (by simp[e,gX])),fun i hy=>.inl hy⟩;refine⟨F,g1,m1.other (fun e=>h3 mb (by simp) (e ▸ in_b)) (fun e=>h3 mg (by simp) (e ▸ in_b)) 13 _,fun i hi2 hy=>?_,h4,((t.trans (Below.turn k _)).trans tt).mono fun i hy=>?_⟩
 ·simp only[gX,List.mem_cons,List.mem_append,Option.mem_toList]at hy
  rcases hy with hy | hy | hy | hy
  ·exact h3 i hi2 (by simp[gX,hy])
  ·exact h3 i hi2 (by simp[gX,hy])
  ·have e:i0=i:=by simpa using hy
   have l:i<w.heap.size:=by
    simp only[List.mem_cons,List.not_mem_nil,or_false]at hi2
    rcases hi2 with rfl | rfl
    ·exact h2.ltB
    ·exact h2.ltG
   omega
  ·exact h3 i hi2 (by simp[gX,hy])
 ·by_cases e:i=i0
  ·subst e
   exact .inr (zQ hs hi)
  ·refine(t.own i ?_)
   simp only[gX,List.mem_cons,List.mem_append,Option.mem_toList]at hy ⊢
   rcases hy with hy | hy | hy | hy | hy | hy
   ·simp[hy]
   ·simp[hy]
   ·simp[hy]
   ·simp[hy]
   ·exact absurd (by simpa using hy:i0=i) (fun y=>e y.symm)
   ·simp[hy]
theorem Mid.readOver (h:Mid W G0 b z mb mg w x q c r ws o n):Mid W G0 b z mb mg (w.setCell ⟨b,13,none⟩ (.pointer none)) x none c r ws o n:=by
 obtain⟨F,h1,h2,h3,h4,t⟩:=h;have sub:∀ i,i∈gX b z none F->i∈gX b z q F:=fun i hy=>by
  simp only[gX,List.mem_cons,List.mem_append,Option.toList_none,List.not_mem_nil,false_or]at hy ⊢
  rcases hy with hy | hy | hy <;> simp[hy]
 have tt:Turn (mb::mg::gX b z q F) (mb::mg::gX b z q F) w (w.setCell ⟨b,13,none⟩ (.pointer none)):=⟨rfl,rfl,rfl,by simp,fun i _ hn=>zO _ _ _ _ (fun (e:i=b)=>hn (by simp[e,gX])),fun i hy=>.inl hy⟩;refine⟨F,h1.putQ none r (fun n hn=>by cases hn),h2.other (fun e=>h3 mb (by simp) (e ▸ in_b)) (fun e=>h3 mg (by simp) (e ▸ in_b)) 13 _,fun i hi hy=>h3 i hi (sub i hy),h4,(t.trans tt).mono fun i hy=>t.own i ?_⟩;simp only[List.mem_cons]at hy ⊢;exact hy.imp id (Or.imp id (sub i))
theorem Mid.mach (h:Mid W G0 b z mb mg w x q c r ws o n):∃ F,Gm w F z.bm z.K w x.m/\(a87 W G0->a87 w F)/\∀ w' m',Gm w F z.bm z.K w' m'->Mid W G0 b z mb mg w' { x with m:=m' } q c r ws o n:=by
 obtain⟨F,h1,h2,h3,h4,t⟩:=h;refine⟨F,h1.mac.gm,fun hT=>?_,fun w' m' g=>?_⟩
 ·have:=hT.turn t
  exact⟨this.1,fun y=>this.2 (by simp[gX,y])⟩
 ·obtain⟨F',g1,tF⟩:=h1.mach g
  have nm:∀ i,i∈[mb,mg]->i∉F:=fun i hi y=>h3 i hi (in_F y)
  have lX:Blw w (mb::mg::b::z.xc::q.toList):=fun k hk=>by
   simp only[List.mem_cons,Option.mem_toList]at hk
   rcases hk with rfl | rfl | hk | hk | hk
   ·exact h2.ltB
   ·exact h2.ltG
   ·exact h1.blw k (by simp[gX,hk])
   ·exact h1.blw k (by simp[gX,hk])
   ·exact h1.blw k (in_q hk)
  have sp:Sep [mb,mg] F':=Sep.turn (fun i hi y=>nm i hi y) (fun k hk=>lX k (by simp only[List.mem_cons,List.not_mem_nil,or_false]at hk;rcases hk with hk | hk <;> simp[hk])) tF;refine⟨F',g1,h2.keep (tF.block mb h2.ltB (nm mb (by simp))) (tF.block mg h2.ltG (nm mg (by simp))),fun i hi hy=>?_,h4,t.trans ?_⟩
  ·simp only[gX,List.mem_cons,List.mem_append]at hy
   rcases hy with hy | hy | hy | hy
   ·exact h3 i hi (by simp[gX,hy])
   ·exact h3 i hi (by simp[gX,hy])
   ·exact h3 i hi (by simp[gX];simp at hy;simp[hy])
   ·exact sp i hi hy
  ·have:=bb8 tF (mb::mg::b::z.xc::q.toList)
   simpa[gX]using this
end
def comN (x:Rx):Int:=if x.part=1 then (x.sub:Int) else 3
def comC (x:Rx):Md.Cv.Cs:=⟨2,3,x.th,comN x,x.claim,x.stamp⟩
structure RdLike (x:Rx) (r:Md.Ce.Rd):Prop where
 p:r.p=3+x.b
 c:r.c=x.cell
 s:r.s=x.stamp
 k:r.k=x.sub
 v:x.sub=1∨x.sub=2->r.v=x.ver
 x:x.sub=2->r.x=fixB x.now.toNat
def RdOk (x:Rx) (q:Option Nat) (r:Md.Ce.Rd):Prop:=(q=none/\x.cell<0)∨((∃ i,q=some i)/\0<=x.cell/\RdLike x r)
section
variable {x:Rx} {ws:List Int}
theorem aM5 {ws:List Int} {i:Int} (h:0<=i) (k:i<(ws.length:Int)):hasB ws i=true:=zT ⟨h,k⟩
theorem aa0 {ws:List Int} {i:Int} (h:0<=i) (k:i<(ws.length:Int)):errA ws true i=0:=by unfold errA;rw[aM5 h k];rfl
theorem bC2 (hI:In0 x):Md.Cv.COk (comC x):=by
 refine⟨?_,fun h=>?_,fun h=>?_⟩
 ·show comN x=0∨comN x=1∨comN x=2∨comN x=3
  unfold comN
  by_cases e:x.part=1
  ·have:=(hI.p1 e).1
   rw[if_pos e];omega
  ·rw[if_neg e];omega
 ·have h':comN x=0:=h
  unfold comN at h'
  by_cases e:x.part=1
  ·rw[if_pos e]at h'
   exact(hI.p1 e).2.2.2.1 (by omega)
  ·rw[if_neg e]at h';omega
 ·have h':comN x≠3:=h
  unfold comN at h'
  by_cases e:x.part=1
  ·exact(hI.p1 e).2.2.1
  ·rw[if_neg e]at h';exact absurd rfl h'
theorem bd8 (hI:In0 x) (hp:x.part=1) (hl:plW x<=(ws.length:Int)) (n:Int):Md.Cv.cE (comC x) ws true=0/\Md.Cv.cO (comC x) ws true=decide (x.sub=2)/\Md.Cv.cW (comC x) ws true=(a54 x ws).2/\Md.Cv.cP (comC x) ws true=false/\Md.Cv.cQ (comC x) ws true n=up n/\Md.Cv.cC (comC x) ws true=comC (a54 x ws).1:=by
 have hs:=(hI.p1 hp).1;have ht:=hI.th;have hb:=hI.cb;have ha:=hI.ca;have hN:(comC x).N=(x.sub:Int):=by show comN x=_;unfold comN;rw[if_pos hp]
 have hpl:Md.Cv.plc 3 x.th=3+x.th:=by unfold Md.Cv.plc;rw[if_pos (by omega)]
 unfold plW at hl;have hE:Md.Cv.cE (comC x) ws true=0:=by
  unfold Md.Cv.cE;rw[if_neg (by rw[hN];omega),show Md.Cv.may8 (comC x).T=true from zT (by show 0<=x.th/\x.th<8;omega),if_pos rfl];unfold Md.Cv.cI
  split
  ·show errA ws true (Md.Cv.plc 3 x.th)=0
   rw[hpl];exact aa0 (by omega) (by omega)
  ·exact aa0 (by show (0:Int)<=2;omega) (by show (2:Int)<_;omega)
 refine⟨hE,?_,?_,?_,?_,?_⟩
 ·unfold Md.Cv.cO
  rw[hE,hN]
  simp
  omega
 ·unfold Md.Cv.cW a54
  rw[if_pos hE,hN]
  rcases(by omega:x.sub=0∨x.sub=1∨x.sub=2) with d | d | d
  ·rw[if_neg (by omega),if_pos d]
  ·rw[if_pos (by omega),if_neg (by omega),if_pos d]
   show ws.set (Md.Cv.plc 3 x.th).toNat _=_
   rw[hpl]
   rfl
  ·rw[if_neg (by omega),if_neg (by omega),if_neg (by omega)]
 ·unfold Md.Cv.cP;rw[if_pos hE]
 ·unfold Md.Cv.cQ;rw[if_pos hE]
 ·unfold Md.Cv.cC a54
  rw[if_pos hE,hN]
  rcases(by omega:x.sub=0∨x.sub=1∨x.sub=2) with d | d | d
  ·rw[if_pos (by omega),if_neg (by omega),if_pos d]
   simp[comC,comN,hp,d]
  ·rw[if_neg (by omega),if_neg (by omega),if_neg (by omega),if_pos d]
   simp[comC,comN,hp,d]
  ·rw[if_neg (by omega),if_pos (by omega),if_neg (by omega),if_neg (by omega)]
   simp[comC,comN,d]
theorem aQ2 (x:Rx) (ws:List Int):(a54 x ws).1.m=x.m/\(a54 x ws).1.args=x.args/\(a54 x ws).1.a=x.a/\(a54 x ws).1.b=x.b/\(a54 x ws).1.th=x.th/\(a54 x ws).1.tag=x.tag/\(a54 x ws).1.steps=x.steps/\(a54 x ws).1.cell=x.cell/\(x.sub=0∨x.sub=1->(a54 x ws).1.part=x.part)/\(x.sub=2->(a54 x ws).1.part=2):=by
 unfold a54
 split
 ·exact⟨rfl,rfl,rfl,rfl,rfl,rfl,rfl,rfl,fun _=>rfl,fun h=>by omega⟩
 ·split
  ·exact⟨rfl,rfl,rfl,rfl,rfl,rfl,rfl,rfl,fun _=>rfl,fun h=>by omega⟩
  ·exact⟨rfl,rfl,rfl,rfl,rfl,rfl,rfl,rfl,fun h=>by omega,fun h=>rfl⟩
theorem bk4 {r:Md.Ce.Rd} (ha:1<=x.a/\x.a<=256) (hb:1<=x.b/\x.b<=8) (hn:u64B x.now) (h:RdLike x r) (hc:0<=x.cell) (hca:x.cell<x.a) (hs:x.sub<=3) (hl:plW x<=(ws.length:Int)) (hW:okW ws):Md.Ce.errR r ws true=0 /\
  (((a28 x ws).cell=-1/\Md.Ce.endR r ws true=true/\(a28 x ws).m=a65 x.m (Md.Ce.stepR r ws true).y/\(Md.Ce.stepR r ws true).y<18446744073709551616)∨((a28 x ws).cell=x.cell/\Md.Ce.endR r ws true=false/\(a28 x ws).m=x.m/\RdLike (a28 x ws) (Md.Ce.stepR r ws true))):=by
 have hk:r.k=x.sub:=h.k;unfold plW at hl;have P:∀ j:Int,Md.Ce.placeI r.p r.c j=atW x j:=fun j=>by
  rw[h.p,h.c];unfold Md.Ce.placeI atW;rw[if_pos (by omega)]
 have hw:=Md.Ce.wrd_in r.k;have A:Md.Ce.errR r ws true=0:=by
  unfold Md.Ce.errR Md.Ce.errC;rw[if_pos (by omega),show Md.Ce.mayC r.c=true from zT (by rw[h.c];omega),if_pos rfl,P];unfold atW;exact aa0 (by omega) (by omega)
 have S:Md.Ce.stepR r ws true=Md.Ce.nxt r (wordAt ws (atW x (Md.Ce.wrd x.sub))):=by
  unfold Md.Ce.stepR Md.Ce.wordC;rw[if_pos A,P,hk]
 refine⟨A,?_⟩;unfold Md.Ce.endR;rw[A,S]
 rcases(by omega:x.sub=0∨x.sub=1∨x.sub=2∨x.sub=3) with d | d | d | d
 ·have W0:Md.Ce.wrd x.sub=0:=by rw[d];rfl
  rw[W0]
  generalize hu:wordAt ws (atW x 0)=u
  have N:Md.Ce.nxt r u={ r with v:=u,k:=(if x.stamp<u then 3 else 1),n:=up r.n }:=by unfold Md.Ce.nxt Md.Ce.nx0;rw[if_pos (by omega),h.s]
  have R:a28 x ws={ x with ver:=u,sub:=if x.stamp<u then 3 else 1 }:=by unfold a28;rw[if_pos d,hu]
  rw[N,R];have k4:¬ 4<=(if x.stamp<u then 3 else 1:Nat):=by split <;> omega
  exact .inr ⟨rfl,by simp[k4],rfl,⟨h.p,h.c,h.s,rfl,fun _=>rfl,fun e=>by dsimp only at e;split at e <;> omega⟩⟩
 ·have W1:Md.Ce.wrd x.sub=1:=by rw[d];rfl
  rw[W1]
  generalize hu:wordAt ws (atW x 1)=u
  have N:Md.Ce.nxt r u={ r with x:=fixB u.toNat,k:=2,n:=up r.n }:=by unfold Md.Ce.nxt Md.Ce.nx0;rw[if_neg (by omega),if_pos (by omega)]
  have R:a28 x ws={ x with now:=u,sub:=2 }:=by unfold a28;rw[if_neg (by omega),if_pos d,hu]
  rw[N,R];exact .inr ⟨rfl,by simp,rfl,⟨h.p,h.c,h.s,rfl,fun _=>h.v (.inl d),fun _=>rfl⟩⟩
 ·have W2:Md.Ce.wrd x.sub=0:=by rw[d];rfl
  rw[W2]
  generalize hu:wordAt ws (atW x 0)=u
  have hv:=h.v (.inr d)
  by_cases e:u=x.ver
  ·have N:Md.Ce.nxt r u={ r with y:=r.x,k:=4,n:=up r.n }:=by unfold Md.Ce.nxt Md.Ce.nx0;rw[if_neg (by omega),if_neg (by omega),if_pos (by omega),if_pos (e.trans hv.symm)]
   have R:a28 x ws={ x with m:=a65 x.m (fixB x.now.toNat),cell:=-1,sub:=3 }:=by unfold a28;rw[if_neg (by omega),if_neg (by omega),if_pos d,hu,if_pos e]
   rw[N,R];exact .inl ⟨rfl,by simp,by rw[h.x d],by show r.x<_;rw[h.x d];exact b35 _ hn⟩
  ·have N:Md.Ce.nxt r u={ r with t:=true,k:=3,n:=up r.n }:=by unfold Md.Ce.nxt Md.Ce.nx0;rw[if_neg (by omega),if_neg (by omega),if_pos (by omega),if_neg (fun y=>e (y.trans hv))]
   have R:a28 x ws={ x with sub:=3 }:=by unfold a28;rw[if_neg (by omega),if_neg (by omega),if_pos d,hu,if_neg e]
   rw[N,R];exact .inr ⟨rfl,by simp,rfl,⟨h.p,h.c,h.s,rfl,fun y=>by dsimp only at y;omega,fun y=>by dsimp only at y;omega⟩⟩
 ·have W3:Md.Ce.wrd x.sub=2:=by rw[d];rfl
  rw[W3];have hu64:=hW.at (atW x 2)
  generalize hu:wordAt ws (atW x 2)=u at hu64 ⊢
  have N:Md.Ce.nxt r u={ r with y:=fixB u.toNat,k:=4,n:=up r.n }:=by unfold Md.Ce.nxt Md.Ce.nx0;rw[if_neg (by omega),if_neg (by omega),if_neg (by omega)]
  have R:a28 x ws={ x with m:=a65 x.m (fixB u.toNat),cell:=-1 }:=by unfold a28;rw[if_neg (by omega),if_neg (by omega),if_neg (by omega),hu]
  rw[N,R];exact .inl ⟨rfl,by simp,rfl,b35 _ hu64⟩
end
section
variable {W w:World} {G0:List Nat} {b mb mg:Nat} {x:Rx} {z:Rz} {q:Option Nat} {c:Md.Cv.Cs} {r:Md.Ce.Rd} {ws:List Int} {o:Bool} {n:Int}
theorem over_any (h:Mid W G0 b z mb mg w x q c r ws o n):Calls Tryz.prog 253 #[.pointer (some ⟨b,0,none⟩)] w fun e w'=>e=.returned (.bool (decide ((x.part:Int)=4)))/\w'=w:=by
 have h11:w.cell? ⟨b,11,none⟩=some (.int .i64 (x.part:Int)):=(h.cell 11).trans rfl;have hb:=h.ltB;clear h;go_enter Tryz.func253,Tryz.ntmps253
 go_wp2
 go_ret;exact⟨rfl,rfl⟩
theorem aj3 (h:Mid W G0 b z mb mg w x q c r ws o n):Calls Tryz.prog 254 #[.pointer (some ⟨b,0,none⟩),.pointer (some ⟨mb,0,none⟩)] w fun e w'=>e=.returned (.bool (decide (plW x<=(ws.length:Int))))/\Same w w':=by
 have h5:w.cell? ⟨b,5,none⟩=some (.int .i64 (plW x)):=(h.cell 5).trans rfl;have hb:=h.ltB;have HL:=zH (Md.len_any h.drew.mem)
 generalize plW x=pl at h5 ⊢
 clear h;go_enter Tryz.func254,Tryz.ntmps254;go_wp2_with fail;refine a06 (fun u=>u.cell? ⟨b,5,none⟩=some (.int .i64 pl) )  ((0,true)::(2,true)::(3,true)::(4,true)::(5,true)::(6,true)::(1,false)::(7,true)::(8,true)::[])  Md.Cv.follows13 (by kernel_rfl) (fun _ _ _ _ _ h=>h)  h5 ?_
 (repeat ((first | (refine a02 (v:=?_) rfl (by rfl) (fun wq hSq=>?_) ?_;rotate_left;(focus ((try dsimp only at hSq);go_simp;try with_reducible rfl))) | refine a03 rfl (by rfl) ?_);simp only[Act.put,zA,zB,zC]))
 (refine a04 rfl (by rfl) (fun KK hK=>?_);go_simp)
 refine HL.out.mono ?_;rintro e w1 ⟨rfl,hw⟩;subst w1;refine hK.out _ _ h5 ?_
 (clear hK KK;try simp only[Act.put,zA,zB,zC])
 (repeat ((first | (refine a02 (v:=?_) rfl (by rfl) (fun wq hSq=>?_) ?_;rotate_left;(focus ((try dsimp only at hSq);go_simp;try with_reducible rfl))) | refine a03 rfl (by rfl) ?_);simp only[Act.put,zA,zB,zC]))
 refine a13 ?_;go_wp2_with fail;go_ret;exact⟨rfl,Same.drew _⟩
theorem open_any (h:Mid W G0 b z mb mg w x q c r ws o n) (h0:0<=x.steps) (h1:x.steps<=100000):Calls Tryz.prog 255 #[.pointer (some ⟨b,0,none⟩),.pointer (some ⟨mb,0,none⟩)] w fun e w'=>e=.returned (.tuple #[])/\Mid W G0 b z mb mg w' (a23 x) q c r ws true n:=by
 have HL:=zH (Md.open_any h.mem);have HD:Hid (∀ w',MemAt 106 w' mb mg ws true n->Chg mb mg w w'->Mid W G0 b z mb mg w' x q c r ws true n):=fun w' k1 k2=>h.memb k2 k1
 have HP:Hid (∀ w',Mid W G0 b z mb mg w' x q c r ws true n->Mid W G0 b z mb mg (w'.setCell ⟨b,7,none⟩ (.int .i64 (x.steps+1))) (a23 x) q c r ws true n):=fun w' k=>k.put 7 _ (a23 x) rfl rfl rfl
 clear h;go_enter Tryz.func255,Tryz.ntmps255
 go_wp2_with (go_at_call 245;refine HL.out.mono ?_;rintro e w1 ⟨rfl,k1,k2⟩;have HQ:=zH (HD.out _ k1 k2);have e7:w1.cell? ⟨b,7,none⟩=some (.int .i64 x.steps):=(HQ.out.cell 7).trans rfl;have f7:=HQ.out.free 7;have lb:=HQ.out.ltB;clear k1 k2 HL HD)
 go_end0
 exact⟨rfl,HP.out _ HQ.out⟩
theorem come_any (h:Mid W G0 b z mb mg w x q (comC x) r ws true n) (hI:In0 x) (hp:x.part=1) (hl:plW x<=(ws.length:Int)):Calls Tryz.prog 256 #[.pointer (some ⟨b,0,none⟩),.pointer (some ⟨mb,0,none⟩)] w fun e w'=>e=.returned (.tuple #[])/\Mid W G0 b z mb mg w' (a54 x ws).1 q (comC (a54 x ws).1) r (a54 x ws).2 false (up n):=by
 obtain⟨f1,f2,f3,f4,f5,f6⟩:=bd8 hI hp hl n;have HS:=zH (Md.Cv.cstep_any h.mem h.com (bC2 hI));rw[f1,f2,f3,f4,f5,f6]at HS;have hs2:=(hI.p1 hp).1;obtain⟨g1,g2,g3,g4,g5,g6,g7,g8,g9,g10⟩:=aQ2 x ws;have h12:w.cell? ⟨b,12,none⟩=some (.pointer (some ⟨z.xc,0,none⟩)):=(h.cell 12).trans rfl;have hb:=h.ltB;have HD:Hid (∀ w',MemAt 106 w' mb mg (a54 x ws).2 false (up n)->Md.Cv.CmAt w' z.xc (comC (a54 x ws).1)->Md.Cv.Ch3 mb mg z.xc w w'->Mid W G0 b z mb mg w' x q (comC (a54 x ws).1) r (a54 x ws).2 false (up n)):=fun w' k1 k2 k3=>h.comes k3 k1 k2
 by_cases d:x.sub=2
 ·have HP:Hid (∀ w',Mid W G0 b z mb mg w' x q (comC (a54 x ws).1) r (a54 x ws).2 false (up n)->Mid W G0 b z mb mg (w'.setCell ⟨b,11,none⟩ (.int .i64 2)) (a54 x ws).1 q (comC (a54 x ws).1) r (a54 x ws).2 false (up n)):=fun w' k=>k.put 11 _ _ (by unfold ak6;rw[g2,g3,g4,g5,g6,g7,g10 d];rfl) g1 g2
  rw[zT d]at HS;clear h f1 f2 f3 f4 f5 f6 g1 g2 g3 g4 g5 g6 g7 g8 g9 g10;go_enter Tryz.func256,Tryz.ntmps256
  go_wp2_with (go_at_call 260;refine HS.out.mono ?_;rintro e w1 ⟨rfl,k1,k2,k3⟩;have HQ:=zH (HD.out _ k1 k2 k3);have e11:w1.cell? ⟨b,11,none⟩=some (.int .i64 (x.part:Int)):=(HQ.out.cell 11).trans rfl;have f11:=HQ.out.free 11;have lb:=HQ.out.ltB;clear k1 k2 k3 HS HD)
  go_end0
  exact⟨rfl,HP.out _ HQ.out⟩
 ·have HP:Hid (∀ w',Mid W G0 b z mb mg w' x q (comC (a54 x ws).1) r (a54 x ws).2 false (up n)->Mid W G0 b z mb mg w' (a54 x ws).1 q (comC (a54 x ws).1) r (a54 x ws).2 false (up n)):=fun w' k=>by
   obtain⟨F,k1,k2⟩:=k;exact⟨F,⟨by have:=k1.box;unfold ak6 at this ⊢;rw[g2,g3,g4,g5,g6,g7,g9 (by omega)];exact this,by rw[g1];exact k1.mac,k1.com,k1.rd,by rw[g2];exact k1.arg,k1.sf,k1.sk,k1.fa⟩,k2⟩
  rw[zU d]at HS;clear h f1 f2 f3 f4 f5 f6 g1 g2 g3 g4 g5 g6 g7 g8 g9 g10;go_enter Tryz.func256,Tryz.ntmps256
  go_wp2_with (go_at_call 260;refine HS.out.mono ?_;rintro e w1 ⟨rfl,k1,k2,k3⟩;have HQ:=zH (HD.out _ k1 k2 k3);clear k1 k2 k3 HS HD)
  go_end0
  exact⟨rfl,HP.out _ HQ.out⟩
theorem leave_any (h:Mid W G0 b z mb mg w x q c r ws true n) (hI:In0 x) (hl:plW x<=(ws.length:Int)):Calls Tryz.prog 258 #[.pointer (some ⟨b,0,none⟩),.pointer (some ⟨mb,0,none⟩)] w fun e w'=>e=.returned (.tuple #[])/\Mid W G0 b z mb mg w' (an5 x) q c r (ws.set (3+x.th).toNat 0) false (up n):=by
 have ht:=hI.th;have hb8:=hI.cb;have ha:=hI.ca;have hm8:Md.Cv.may8 x.th=true:=zT (by omega);have hpl:Md.Cv.plc 3 x.th=3+x.th:=by unfold Md.Cv.plc;rw[if_pos (by omega)]
 unfold plW at hl;have hE:errA ws true (3+x.th)=0:=aa0 (by omega) (by omega);obtain⟨f1,f2,f3,_⟩:=Md.Cv.ok_facts hE;have HL:=zH (Md.Cv.leave_any h.drew.mem 0 1 2 3 (3+x.b) (3+x.b+3*x.a) x.th);unfold Md.Cv.lE Md.Cv.lW Md.Cv.lO Md.Cv.lC Md.Cv.plnV at HL;rw[hm8,if_pos rfl,if_pos rfl,if_pos rfl,if_pos rfl,hpl,hE,f1,f2,f3]at HL;have h0:w.cell? ⟨b,0,none⟩=some (.int .i64 0):=(h.cell 0).trans rfl;have h1:w.cell? ⟨b,1,none⟩=some (.int .i64 1):=(h.cell 1).trans rfl;have h2:w.cell? ⟨b,2,none⟩=some (.int .i64 2):=(h.cell 2).trans rfl;have h3:w.cell? ⟨b,3,none⟩=some (.int .i64 3):=(h.cell 3).trans rfl;have h4:w.cell? ⟨b,4,none⟩=some (.int .i64 (3+x.b)):=(h.cell 4).trans rfl;have h5:w.cell? ⟨b,5,none⟩=some (.int .i64 (3+x.b+3*x.a)):=(h.cell 5).trans rfl;have h10:w.cell? ⟨b,10,none⟩=some (.int .i64 x.th):=(h.cell 10).trans rfl;have hb:=h.ltB;have HD:Hid (∀ w',MemAt 106 w' mb mg (ws.set (3+x.th).toNat 0) false (up n)->Chg mb mg w.drew w'->Mid W G0 b z mb mg w' x q c r (ws.set (3+x.th).toNat 0) false (up n)):=fun w' k1 k2=>h.drew.memb k2 k1
 have HP:Hid (∀ w',Mid W G0 b z mb mg w' x q c r (ws.set (3+x.th).toNat 0) false (up n)->Mid W G0 b z mb mg (w'.setCell ⟨b,11,none⟩ (.int .i64 4)) (an5 x) q c r (ws.set (3+x.th).toNat 0) false (up n)):=fun w' k=>k.put 11 _ (an5 x) rfl rfl rfl
 clear h f1 f2 f3 hm8 hpl hE hl;have HE4:Hid (∀ w',Mid W G0 b z mb mg w' x q c r (ws.set (3+x.th).toNat 0) false (up n)->w'.cell? ⟨b,4,none⟩=some (.int .i64 (3+x.b))):=fun w' k=>(k.cell 4).trans rfl
 have HE5:Hid (∀ w',Mid W G0 b z mb mg w' x q c r (ws.set (3+x.th).toNat 0) false (up n)->w'.cell? ⟨b,5,none⟩=some (.int .i64 (3+x.b+3*x.a))):=fun w' k=>(k.cell 5).trans rfl
 generalize 3+x.b+3*x.a=p5 at *
 generalize 3+x.b=p4 at *
 go_enter Tryz.func258,Tryz.ntmps258;go_wp2_with fail;refine a06 (fun u=>u.cell? ⟨b,0,none⟩=some (.int .i64 0)/\u.cell? ⟨b,1,none⟩=some (.int .i64 1)/\u.cell? ⟨b,2,none⟩=some (.int .i64 2)/\u.cell? ⟨b,3,none⟩=some (.int .i64 3)/\u.cell? ⟨b,4,none⟩=some (.int .i64 p4)/\u.cell? ⟨b,5,none⟩=some (.int .i64 p5)/\u.cell? ⟨b,10,none⟩=some (.int .i64 x.th) )  ((0,true)::(1,true)::(2,true)::(3,true)::(4,true)::(5,true)::(6,true)::(7,true)::(8,true)::(9,true)::(10,false)::[])  Md.Cv.follows13 (by kernel_rfl) (fun _ _ _ _ _ h=>h)  ⟨h0,h1,h2,h3,h4,h5,h10⟩ ?_
 (repeat ((first | (refine a02 (v:=?_) rfl (by rfl) (fun wq hSq=>?_) ?_;rotate_left;(focus ((try dsimp only at hSq);go_simp;try with_reducible rfl))) | refine a03 rfl (by rfl) ?_);simp only[Act.put,zA,zB,zC]))
 (refine a04 rfl (by rfl) (fun KK hK=>?_);go_simp)
 refine HL.out.mono ?_;rintro e w1 ⟨rfl,k1,k2⟩;have HQ:=zH (HD.out _ k1 k2);have e11:w1.cell? ⟨b,11,none⟩=some (.int .i64 (x.part:Int)):=(HQ.out.cell 11).trans rfl;have f11:=HQ.out.free 11;have lb:=HQ.out.ltB;clear k1 k2 HL HD;refine hK.out _ _ ⟨(HQ.out.cell 0).trans rfl,(HQ.out.cell 1).trans rfl,(HQ.out.cell 2).trans rfl,(HQ.out.cell 3).trans rfl,HE4.out _ HQ.out,HE5.out _ HQ.out,(HQ.out.cell 10).trans rfl⟩ ?_
 (clear hK KK;try simp only[Act.put,zA,zB,zC])
 refine a13 ?_;go_wp2_with fail
 go_end0
 exact⟨rfl,HP.out _ HQ.out⟩
end
attribute [local go_sem] a00
section
variable {W w:World} {G0:List Nat} {b mb mg:Nat} {x:Rx} {z:Rz} {q:Option Nat} {c:Md.Cv.Cs} {r:Md.Ce.Rd} {ws:List Int} {o:Bool} {n:Int}
theorem Mid.plan (h:Mid W G0 b z mb mg w x q c r ws o n) {p4 p5:Int} (h4:3+x.b=p4) (h5:3+x.b+3*x.a=p5):(w.cell? ⟨b,0,none⟩=some (.int .i64 0)/\w.cell? ⟨b,1,none⟩=some (.int .i64 1)/\w.cell? ⟨b,2,none⟩=some (.int .i64 2)/\w.cell? ⟨b,3,none⟩=some (.int .i64 3)/\w.cell? ⟨b,4,none⟩=some (.int .i64 p4)/\w.cell? ⟨b,5,none⟩=some (.int .i64 p5))/\w.cell? ⟨b,6,none⟩=some (.pointer (some ⟨z.bm,0,none⟩))/\w.cell? ⟨b,12,none⟩=some (.pointer (some ⟨z.xc,0,none⟩))/\w.cell? ⟨b,13,none⟩=some (ptrV q)/\b<w.heap.size/\w.frozen? ⟨b,13,none⟩=false:=by
 subst h4 h5;exact⟨⟨(h.cell 0).trans rfl,(h.cell 1).trans rfl,(h.cell 2).trans rfl,(h.cell 3).trans rfl,(h.cell 4).trans rfl,(h.cell 5).trans rfl⟩,(h.cell 6).trans rfl,(h.cell 12).trans rfl,(h.cell 13).trans rfl,h.ltB,h.free 13⟩
theorem Mid.step (h:Mid W G0 b z mb mg w x q c r ws o n) (hT:a87 W G0) (hI:Inv x.m) {M:Mac} {A:Ask} (hM:(a07 x.m).1=M) (hA:(a07 x.m).2=A):Calls Tryz.prog 128 #[.pointer (some ⟨z.bm,0,none⟩)] w fun e w'=>e=.returned (.agg #[.int .i64 A.kind,.int .i64 A.cell,.float .f64 A.x,.bool A.first])/\Mid W G0 b z mb mg w' { x with m:=M } q c r ws o n:=by
 obtain⟨F,g,tb,go⟩:=h.mach;subst hM hA;refine(step_any g (tb hT) hI).mono ?_;rintro e w' ⟨rfl,k⟩;exact⟨rfl,go _ _ k⟩
theorem Mid.give (h:Mid W G0 b z mb mg w x q c r ws o n) (hI:Inv x.m) (y:Nat) {M:Mac} (hM:a65 x.m y=M):Calls Tryz.prog 129 #[.pointer (some ⟨z.bm,0,none⟩),.float .f64 y] w fun e w'=>e=.returned (.int .i64 (giveE x.m))/\Mid W G0 b z mb mg w' { x with m:=M } q c r ws o n:=by
 obtain⟨F,g,tb,go⟩:=h.mach;subst hM;refine(aR0 g hI y).mono ?_;rintro e w' ⟨rfl,k⟩;exact⟨rfl,go _ _ k⟩
theorem aV8 (h:Mid W G0 b z mb mg w x none c r ws o n) (hT:a87 W G0) (hI:Inv x.m) {M:Mac} {A:Ask} (hM:(a07 x.m).1=M) (hA:(a07 x.m).2=A) (hk:A.kind=1):Calls Tryz.prog 250 #[.pointer (some ⟨b,0,none⟩)] w fun e w'=>e=.returned (.tuple #[])/\∃ i0,Mid W G0 b z mb mg w' { x with m:=M } (some i0) c (Md.Ce.newR (3+x.b) A.cell c.S) ws o n:=by
 have HS:=zH (h.step hT hI hM hA);rw[hk]at HS;have h6:w.cell? ⟨b,6,none⟩=some (.pointer (some ⟨z.bm,0,none⟩)):=(h.cell 6).trans rfl;have hb:=h.ltB;clear h hM hA hT hI
 generalize h4:3+x.b=p4
 generalize h5:3+x.b+3*x.a=p5
 have HP:Hid (3+x.b=p4/\3+x.b+3*x.a=p5):=⟨h4,h5⟩;clear h4 h5;have HR:=zH (fun (v:World)=>Md.Ce.read_any v 0 1 2 3 p4 p5 A.cell c.S);unfold Md.Ce.planV at HR;go_enter Tryz.func250,Tryz.ntmps250
 go_wp2_with (go_at_call 128;refine HS.out.mono ?_;rintro e w1 ⟨rfl,k⟩;have HQ:=zH k;have lb:=k.ltB;clear k HS)
 obtain⟨w2,hw2⟩:∃ w2,w2=w1.alloc (.cells #[.int .i64 1,.int .i64 A.cell,.float .f64 A.x,.bool A.first] 211):=⟨_,rfl⟩
 rw[<- hw2];have HU:=zH ((HQ.out.alloc (.cells #[.int .i64 1,.int .i64 A.cell,.float .f64 A.x,.bool A.first] 211)).drew);rw[<- hw2]at HU;have eA:w2.cell? ⟨w1.heap.size,1,none⟩=some (.int .i64 A.cell):=by rw[hw2];simp[go_sem]
 have lA:w1.heap.size<w2.heap.size:=by rw[hw2];simp
 clear hw2 HQ;obtain⟨⟨e0,e1,e2,e3,e4,e5⟩,e6,e12,e13,eb,_⟩:=HU.out.plan HP.out.1 HP.out.2;refine a06 (fun u=>(u.cell? ⟨b,0,none⟩=some (.int .i64 0)/\u.cell? ⟨b,1,none⟩=some (.int .i64 1)/\u.cell? ⟨b,2,none⟩=some (.int .i64 2)/\u.cell? ⟨b,3,none⟩=some (.int .i64 3)/\u.cell? ⟨b,4,none⟩=some (.int .i64 p4)/\u.cell? ⟨b,5,none⟩=some (.int .i64 p5))/\u.cell? ⟨b,12,none⟩=some (.pointer (some ⟨z.xc,0,none⟩))/\u.cell? ⟨w1.heap.size,1,none⟩=some (.int .i64 A.cell) )  ((0,true)::(1,true)::(2,true)::(3,true)::(4,true)::(5,true)::(6,true)::(7,true)::(8,true)::(9,true)::(10,true)::(11,true)::(12,false)::(13,false)::(14,true)::(15,true)::(16,false)::[])  Md.Cv.follows13 (by kernel_rfl) (fun _ _ _ _ _ h=>h)  ⟨⟨e0,e1,e2,e3,e4,e5⟩,e12,eA⟩ ?_
 (repeat ((first | (refine a02 (v:=?_) rfl (by rfl) (fun wq hSq=>?_) ?_;rotate_left;(focus ((try dsimp only at hSq);go_simp;try with_reducible rfl))) | refine a03 rfl (by rfl) ?_);simp only[Act.put,zA,zB,zC]))
 (refine a04 rfl (by rfl) (fun KK hK=>?_);go_simp)
 refine(Md.Cv.stampC_any HU.out.com).mono ?_;rintro e u1 ⟨rfl,hw⟩;subst u1;refine hK.out _ _ ⟨⟨e0,e1,e2,e3,e4,e5⟩,e12,eA⟩ ?_
 (clear hK KK;try simp only[Act.put,zA,zB,zC])
 (refine a04 rfl (by rfl) (fun KK hK=>?_);go_simp)
 refine(HR.out _).mono ?_;rintro e u3 ⟨i0,rfl,k1,k2,k3⟩;have HV:=zH (HU.out.on k3);have HN:=zH (HU.out.readNew k3 k1 k2);have eA3:u3.cell? ⟨w1.heap.size,1,none⟩=some (.int .i64 A.cell):=(k3.cell (p:=⟨w1.heap.size,1,none⟩) lA).trans eA;obtain⟨⟨g0,g1,g2,g3,g4,g5⟩,g6,g12,g13,gb,g14⟩:=HV.out.plan HP.out.1 HP.out.2;refine hK.out _ _ ⟨⟨g0,g1,g2,g3,g4,g5⟩,g12,eA3⟩ ?_
 (clear hK KK;try simp only[Act.put,zA,zB,zC])
 (repeat ((first | (refine a02 (v:=?_) rfl (by rfl) (fun wq hSq=>?_) ?_;rotate_left;(focus ((try dsimp only at hSq);go_simp;try with_reducible rfl))) | refine a03 rfl (by rfl) ?_);simp only[Act.put,zA,zB,zC]))
 (refine a04 rfl (by rfl) (fun KK hK=>?_);go_simp)
 obtain⟨⟨y0,y1,y2,y3,y4,y5⟩,_,y12,_,_,_⟩:=HN.out.plan HP.out.1 HP.out.2;refine hK.out _ _ ⟨⟨y0,y1,y2,y3,y4,y5⟩,y12,(Md.Cv.cell_kept (zO _ _ _ _ (fun (e:w1.heap.size=b)=>by omega)) 1).trans eA3⟩ ?_
 (clear hK KK;try simp only[Act.put,zA,zB,zC])
 refine a13 ?_;go_wp2_with fail
 go_end0
 exact⟨rfl,i0,HN.out⟩
theorem b54 (h:Mid W G0 b z mb mg w x q c r ws o n) (hT:a87 W G0) (hI:Inv x.m) {M:Mac} {A:Ask} (hM:(a07 x.m).1=M) (hA:(a07 x.m).2=A) (hk:A.kind=4):Calls Tryz.prog 250 #[.pointer (some ⟨b,0,none⟩)] w fun e w'=>e=.returned (.tuple #[])/\Mid W G0 b z mb mg w' { x with m:=M,part:=3 } q c r ws o n:=by
 have HS:=zH (h.step hT hI hM hA);rw[hk]at HS;have h6:w.cell? ⟨b,6,none⟩=some (.pointer (some ⟨z.bm,0,none⟩)):=(h.cell 6).trans rfl;have hb:=h.ltB;have HD:Hid (∀ w1 y,Mid W G0 b z mb mg w1 { x with m:=M } q c r ws o n->Mid W G0 b z mb mg ((w1.setCell ⟨b,11,none⟩ (.int .i64 3)).alloc y) { x with m:=M,part:=3 } q c r ws o n):=fun w1 y k=>(k.put 11 (.int .i64 3) { x with m:=M,part:=3 } rfl rfl rfl).alloc y
 clear h hM hA hT hI;go_enter Tryz.func250,Tryz.ntmps250
 go_wp2_with (go_at_call 128;refine HS.out.mono ?_;rintro e w1 ⟨rfl,k⟩;have HQ:=zH k;have lb:=k.ltB;have e11:w1.cell? ⟨b,11,none⟩=some (.int .i64 (x.part:Int)):=(k.cell 11).trans rfl;have f11:=k.free 11;clear k HS)
 go_end0
 exact⟨rfl,HD.out _ _ HQ.out⟩
theorem bg4 (h:Mid W G0 b z mb mg w x q c r ws o n) (hT:a87 W G0) (hI:Inv x.m) {M:Mac} {A:Ask} (hM:(a07 x.m).1=M) (hA:(a07 x.m).2=A) (h1:(A.kind == 1)=false) (h4:(A.kind == 4)=false):Calls Tryz.prog 250 #[.pointer (some ⟨b,0,none⟩)] w fun e w'=>e=.returned (.tuple #[])/\Mid W G0 b z mb mg w' { x with m:=M } q c r ws o n:=by
 have HS:=zH (h.step hT hI hM hA);have h6:w.cell? ⟨b,6,none⟩=some (.pointer (some ⟨z.bm,0,none⟩)):=(h.cell 6).trans rfl;have hb:=h.ltB;clear h hM hA hT hI;go_enter Tryz.func250,Tryz.ntmps250
 go_wp2_with (go_at_call 128;refine HS.out.mono ?_;rintro e w1 ⟨rfl,k⟩;have HQ:=zH k;clear k HS)
 go_end0
 exact⟨rfl,HQ.out.alloc _⟩
theorem Mid.nq (h:Mid W G0 b z mb mg w x q c r ws o n) {i0:Nat} (hq:q=some i0):i0≠mb/\i0≠mg:=by
 obtain⟨F,h1,_,h3,_⟩:=h;exact⟨fun e=>h3 mb (by simp) (e ▸ in_q hq),fun e=>h3 mg (by simp) (e ▸ in_q hq)⟩
theorem by2 {i0:Nat} (h:Mid W G0 b z mb mg w x (some i0) c r ws true n) (hE:Md.Ce.errR r ws true=0) (hD:Md.Ce.endR r ws true=false):Calls Tryz.prog 261 #[.pointer (some ⟨b,0,none⟩),.pointer (some ⟨mb,0,none⟩)] w fun e w'=>e=.returned (.tuple #[])/\Mid W G0 b z mb mg w' x (some i0) c (Md.Ce.stepR r ws true) ws false (up n):=by
 have HS:=zH (Md.Ce.rstep_any h.mem (h.rd rfl) (h.nq rfl).1 (h.nq rfl).2);rw[hE,hD]at HS;have HQ0:Hid (∀ w',MemAt 106 w' mb mg ws false (up n)->Md.Ce.RdAt w' i0 (Md.Ce.stepR r ws true)->Md.Ce.Ch [mb,mg,i0] w w'->Mid W G0 b z mb mg w' x (some i0) c (Md.Ce.stepR r ws true) ws false (up n)):=fun w' k1 k2 k3=>h.reads rfl k3 k1 k2
 have h13:w.cell? ⟨b,13,none⟩=some (.pointer (some ⟨i0,0,none⟩)):=(h.cell 13).trans rfl;have hb:=h.ltB;unfold Md.Ce.aftO Md.Ce.aftN at HS;rw[if_pos rfl,if_pos rfl]at HS;clear h hE hD;go_enter Tryz.func261,Tryz.ntmps261
 go_wp2_with (go_at_call 267;refine HS.out.mono ?_;rintro e w1 ⟨rfl,k1,k2,k3⟩;have HQ:=zH (HQ0.out _ k1 k2 k3);clear k1 k2 k3 HS)
 go_end0
 exact⟨rfl,HQ.out⟩
theorem bk2 {i0:Nat} (h:Mid W G0 b z mb mg w x (some i0) c r ws true n) (hI:Inv x.m) (hE:Md.Ce.errR r ws true=0) (hD:Md.Ce.endR r ws true=true) {M:Mac} (hM:a65 x.m (Md.Ce.stepR r ws true).y=M):Calls Tryz.prog 261 #[.pointer (some ⟨b,0,none⟩),.pointer (some ⟨mb,0,none⟩)] w fun e w'=>e=.returned (.tuple #[])/\Mid W G0 b z mb mg w' { x with m:=M } none c (Md.Ce.stepR r ws true) ws false (up n):=by
 have HS:=zH (Md.Ce.rstep_any h.mem (h.rd rfl) (h.nq rfl).1 (h.nq rfl).2);rw[hE,hD]at HS;have HQ0:Hid (∀ w',MemAt 106 w' mb mg ws false (up n)->Md.Ce.RdAt w' i0 (Md.Ce.stepR r ws true)->Md.Ce.Ch [mb,mg,i0] w w'->Mid W G0 b z mb mg w' x (some i0) c (Md.Ce.stepR r ws true) ws false (up n)):=fun w' k1 k2 k3=>h.reads rfl k3 k1 k2
 have HG:Hid (∀ w',Mid W G0 b z mb mg w' x (some i0) c (Md.Ce.stepR r ws true) ws false (up n)->Calls Tryz.prog 129 #[.pointer (some ⟨z.bm,0,none⟩),.float .f64 (Md.Ce.stepR r ws true).y] w' fun e w2=>e=.returned (.int .i64 (giveE x.m))/\Mid W G0 b z mb mg w2 { x with m:=M } (some i0) c (Md.Ce.stepR r ws true) ws false (up n)):=fun w' k=>k.give hI _ hM
 have h13:w.cell? ⟨b,13,none⟩=some (.pointer (some ⟨i0,0,none⟩)):=(h.cell 13).trans rfl;have hb:=h.ltB;unfold Md.Ce.aftO Md.Ce.aftN at HS;rw[if_pos rfl,if_pos rfl]at HS;clear h hE hD hM
 generalize Md.Ce.stepR r ws true=r' at *
 generalize giveE x.m=ge at *
 go_enter Tryz.func261,Tryz.ntmps261
 go_wp2_with (go_at_call 267;refine HS.out.mono ?_;rintro e w1 ⟨rfl,k1,k2,k3⟩;have HQ:=zH (HQ0.out _ k1 k2 k3);clear k1 k2 k3 HS)
 have HU:=zH HQ.out.drew;have e6:w1.cell? ⟨b,6,none⟩=some (.pointer (some ⟨z.bm,0,none⟩)):=(HQ.out.cell 6).trans rfl;have e13:w1.cell? ⟨b,13,none⟩=some (.pointer (some ⟨i0,0,none⟩)):=(HQ.out.cell 13).trans rfl;have lb:=HQ.out.ltB;clear HQ HQ0;refine a06 (fun u=>u.cell? ⟨b,6,none⟩=some (.pointer (some ⟨z.bm,0,none⟩))/\u.cell? ⟨b,13,none⟩=some (.pointer (some ⟨i0,0,none⟩)) )  ((0,true)::(1,true)::(2,true)::(3,true)::(4,true)::(5,true)::(6,true)::(7,true)::(8,true)::(9,false)::(10,false)::[])  Md.Cv.follows13 (by kernel_rfl) (fun _ _ _ _ _ h=>h)  ⟨e6,e13⟩ ?_
 (repeat ((first | (refine a02 (v:=?_) rfl (by rfl) (fun wq hSq=>?_) ?_;rotate_left;(focus ((try dsimp only at hSq);go_simp;try with_reducible rfl))) | refine a03 rfl (by rfl) ?_);simp only[Act.put,zA,zB,zC]))
 (refine a04 rfl (by rfl) (fun KK hK=>?_);go_simp)
 refine(Md.Ce.value_any (HU.out.rd rfl)).mono ?_;rintro e u1 ⟨rfl,hw⟩;subst u1;refine hK.out _ _ ⟨e6,e13⟩ ?_
 (clear hK KK;try simp only[Act.put,zA,zB,zC])
 (refine a04 rfl (by rfl) (fun KK hK=>?_);go_simp)
 refine(HG.out _ HU.out).mono ?_;rintro e w2 ⟨rfl,k⟩;have HV:=zH k;have l2:=k.ltB;have d13:w2.cell? ⟨b,13,none⟩=some (.pointer (some ⟨i0,0,none⟩)):=(k.cell 13).trans rfl;have f13:=k.free 13;refine hK.out _ _ ⟨(k.cell 6).trans rfl,d13⟩ ?_;clear k
 (clear hK KK;try simp only[Act.put,zA,zB,zC])
 refine a13 ?_;go_wp2_with fail
 go_end0
 exact⟨rfl,HV.out.readOver⟩
end
def Full (W:World) (G0:List Nat) (b:Nat) (z:Rz) (mb mg:Nat) (w:World) (x:Rx) (ws:List Int) (o:Bool) (n:Int):Prop:=∃ q r,Mid W G0 b z mb mg w x q (comC x) r ws o n/\RdOk x q r
section
variable {W w:World} {G0:List Nat} {b mb mg:Nat} {x:Rx} {z:Rz} {q:Option Nat} {c:Md.Cv.Cs} {r:Md.Ce.Rd} {ws:List Int} {o:Bool} {n:Int}
theorem Mid.like (h:Mid W G0 b z mb mg w x q c r ws o n) {y:Rx} (e:ak6 y z q=ak6 x z q) (em:y.m=x.m) (ea:y.args=x.args):Mid W G0 b z mb mg w y q c r ws o n:=by
 obtain⟨F,k1,k2⟩:=h;exact⟨F,⟨by rw[e];exact k1.box,by rw[em];exact k1.mac,k1.com,k1.rd,by rw[ea];exact k1.arg,k1.sf,k1.sk,k1.fa⟩,k2⟩
theorem b85 (x:Rx) (ws:List Int):(a28 x ws).a=x.a/\(a28 x ws).b=x.b/\(a28 x ws).th=x.th/\(a28 x ws).tag=x.tag/\(a28 x ws).args=x.args/\(a28 x ws).steps=x.steps/\(a28 x ws).part=x.part/\(a28 x ws).claim=x.claim/\(a28 x ws).stamp=x.stamp:=by
 unfold a28
 split
 ·exact⟨rfl,rfl,rfl,rfl,rfl,rfl,rfl,rfl,rfl⟩
 ·split
  ·exact⟨rfl,rfl,rfl,rfl,rfl,rfl,rfl,rfl,rfl⟩
  ·split
   ·split <;> exact⟨rfl,rfl,rfl,rfl,rfl,rfl,rfl,rfl,rfl⟩
   ·exact⟨rfl,rfl,rfl,rfl,rfl,rfl,rfl,rfl,rfl⟩
theorem aJ7 {i0:Nat} (h:Mid W G0 b z mb mg w x (some i0) c r ws true n) (hL:RdLike x r) (ha:1<=x.a/\x.a<=256) (hb:1<=x.b/\x.b<=8) (hn:u64B x.now) (hIm:Inv x.m) (hp:x.part=2) (hc:0<=x.cell) (hca:x.cell<x.a) (hs:x.sub<=3) (hcc:c=comC x) (hl:plW x<=(ws.length:Int)) (hW:okW ws):Calls Tryz.prog 261 #[.pointer (some ⟨b,0,none⟩),.pointer (some ⟨mb,0,none⟩)] w fun e w'=>e=.returned (.tuple #[])/\Full W G0 b z mb mg w' (a28 x ws) ws false (up n):=by
 obtain⟨b1,b2,b3,b4,b5,b6,b7,b8,b9⟩:=b85 x ws;have hcom:comC (a28 x ws)=c:=by
  rw[hcc];unfold comC comN;rw[b3,b7,b8,b9,if_neg (by omega),if_neg (by omega)]
 obtain⟨hE,hR⟩:=bk4 ha hb hn hL hc hca hs hl hW;have hbox:∀ q',ak6 (a28 x ws) z q'=ak6 x z q':=fun q'=>by unfold ak6;rw[b1,b2,b3,b4,b5,b6,b7]
 rcases hR with⟨c1,c2,c3,c4⟩ | ⟨c1,c2,c3,c4⟩
 ·refine(bk2 h hIm hE c2 c3.symm).mono ?_
  rintro e w' ⟨rfl,k⟩;exact⟨rfl,none,Md.Ce.stepR r ws true,by rw[hcom];exact k.like (hbox none) rfl b5,.inl ⟨rfl,by omega⟩⟩
 ·refine(by2 h hE c2).mono ?_
  rintro e w' ⟨rfl,k⟩;exact⟨rfl,some i0,Md.Ce.stepR r ws true,by rw[hcom];exact k.like (hbox _) c3 b5,.inr ⟨⟨i0,rfl⟩,by omega,c4⟩⟩
end
section
variable {W w:World} {G0:List Nat} {b mb mg:Nat} {x:Rx} {z:Rz} {ws:List Int} {o:Bool} {n:Int}
theorem bz0 (h:Full W G0 b z mb mg w x ws true n) (hI:In0 x) (hp:x.part=2) (hc:0<=x.cell) (hl:plW x<=(ws.length:Int)) (hW:okW ws):Calls Tryz.prog 257 #[.pointer (some ⟨b,0,none⟩),.pointer (some ⟨mb,0,none⟩)] w fun e w'=>e=.returned (.tuple #[])/\Full W G0 b z mb mg w' (a28 x ws) ws false (up n):=by
 obtain⟨q,r,h,hR⟩:=h
 rcases hR with⟨_,hR⟩ | ⟨⟨i0,rfl⟩,_,hL⟩
 ·omega
 have h2:=(hI.p2 hp).2;have HR:=zH (aJ7 h hL hI.ca hI.cb hI.n hI.inv hp hc hI.celB.2 (by omega) rfl hl hW);have h13:w.cell? ⟨b,13,none⟩=some (.pointer (some ⟨i0,0,none⟩)):=(h.cell 13).trans rfl;have hb:=h.ltB;clear h hL h2;go_enter Tryz.func257,Tryz.ntmps257
 go_wp2_with (go_at_call 261;refine HR.out.mono ?_;rintro e w1 ⟨rfl,k⟩;have HQ:=zH k;clear k HR)
 go_end0
 exact⟨rfl,HQ.out⟩
theorem by9 (h:Full W G0 b z mb mg w x ws true n) (hT:a87 W G0) (hI:In0 x) (hp:x.part=2) (hc:x.cell<0) (hk:(a07 x.m).2.kind=1) (hl:plW x<=(ws.length:Int)) (hW:okW ws):Calls Tryz.prog 257 #[.pointer (some ⟨b,0,none⟩),.pointer (some ⟨mb,0,none⟩)] w fun e w'=>e=.returned (.tuple #[])/\Full W G0 b z mb mg w' (a28 (begX x) ws) ws false (up n):=by
 obtain⟨q,r,h,hR⟩:=h;obtain rfl:q=none:=by
  rcases hR with hR | ⟨_,hR,_⟩
  ·exact hR.1
  ·omega
 obtain⟨h0,h2⟩:=hI.p2 hp;have hw:¬ 0<=x.m.wait:=by omega
 obtain⟨lk,tr⟩:=a77 hI.inv hw h0;have hst:(a07 x.m).2.cell=(a07 x.m).1.wait/\0<=(a07 x.m).1.wait/\(a07 x.m).1.how=0:=by
  rcases tr with⟨k4,_⟩ | ⟨_,e1,e2,e3,_⟩ | ⟨k0,_⟩
  ·omega
  ·exact⟨e1,e2,e3⟩
  ·omega
 have hIs:=ag5 hI.inv;have hwc:=hIs.wait;have hcl:(a07 x.m).1.cells=x.a:=lk.cells.trans hI.cel;have HI:=zH (aV8 h hT hI.inv rfl rfl hk);have HR:Hid (∀ w' i0,Mid W G0 b z mb mg w' { x with m:=(a07 x.m).1 } (some i0) (comC x) (Md.Ce.newR (3+x.b) (a07 x.m).2.cell (comC x).S) ws true n->Calls Tryz.prog 261 #[.pointer (some ⟨b,0,none⟩),.pointer (some ⟨mb,0,none⟩)] w' fun e w'=>e=.returned (.tuple #[])/\Full W G0 b z mb mg w' (a28 (begX x) ws) ws false (up n)):=fun w' i0 k=>by
  have kb:Mid W G0 b z mb mg w' (begX x) (some i0) (comC x) (Md.Ce.newR (3+x.b) (a07 x.m).2.cell (comC x).S) ws true n:=k.like rfl rfl rfl;exact aJ7 kb ⟨rfl,rfl,rfl,rfl,(fun e=>by have e':(0:Nat)=1∨(0:Nat)=2:=e;omega),(fun e=>by have e':(0:Nat)=2:=e;omega)⟩ hI.ca hI.cb hI.n hIs hp (by show 0<=(a07 x.m).2.cell;omega) (by show (a07 x.m).2.cell<x.a;omega) (by show (0:Nat)<=3;omega) (by unfold comC comN;rw[if_neg (by omega),if_neg (show ¬ (begX x).part=1 by show ¬ x.part=1;omega)];rfl) hl hW
 have h13:w.cell? ⟨b,13,none⟩=some (.pointer none):=(h.cell 13).trans rfl;have hb:=h.ltB;clear h hT h0 h2 hw lk tr hst hIs hwc hcl hk hc hI hp hl hW;go_enter Tryz.func257,Tryz.ntmps257
 go_wp2_with (first
  | (go_at_call 250;refine HI.out.mono ?_;rintro e w1 ⟨rfl,i0,k⟩;have HQ:=zH k;have e13:w1.cell? ⟨b,13,none⟩=some (.pointer (some ⟨i0,0,none⟩)):=(k.cell 13).trans rfl;have lb:=k.ltB;clear k HI)
  | (go_at_call 261;refine(HR.out _ _ HQ.out).mono ?_;rintro e w2 ⟨rfl,k⟩;have HZ:=zH k;clear k HR))
 go_end0
 exact⟨rfl,HZ.out⟩
theorem bm1 (h:Full W G0 b z mb mg w x ws true n) (hT:a87 W G0) (hI:In0 x) (hp:x.part=2) (hc:x.cell<0) (hk:(a07 x.m).2.kind=4):Calls Tryz.prog 257 #[.pointer (some ⟨b,0,none⟩),.pointer (some ⟨mb,0,none⟩)] w fun e w'=>e=.returned (.tuple #[])/\Full W G0 b z mb mg w' { x with m:=(a07 x.m).1,part:=3 } ws true n:=by
 obtain⟨q,r,h,hR⟩:=h;obtain rfl:q=none:=by
  rcases hR with hR | ⟨_,hR,_⟩
  ·exact hR.1
  ·omega
 have HI:=zH (b54 h hT hI.inv rfl rfl hk);have h13:w.cell? ⟨b,13,none⟩=some (.pointer none):=(h.cell 13).trans rfl;have hb:=h.ltB;have HC:Hid (comC x=comC { x with m:=(a07 x.m).1,part:=3 }):=by unfold comC comN;rw[if_neg (by omega),if_neg (by show ¬ (3:Nat)=1;omega)];trivial
 have HX:Hid (x.cell<0):=hc;clear h hT hk hI hp hc;go_enter Tryz.func257,Tryz.ntmps257
 go_wp2_with (go_at_call 250;refine HI.out.mono ?_;rintro e w1 ⟨rfl,k⟩;have HQ:=zH k;have e13:w1.cell? ⟨b,13,none⟩=some (.pointer none):=(k.cell 13).trans rfl;have lb:=k.ltB;clear k HI)
 go_end0
 exact⟨rfl,none,r,by rw[<- HC.out];exact HQ.out,.inl ⟨rfl,HX.out⟩⟩
theorem bm2 (h:Full W G0 b z mb mg w x ws true n) (hT:a87 W G0) (hI:In0 x) (hp:x.part=2) (hc:x.cell<0) (h1:(a07 x.m).2.kind≠1) (h4:(a07 x.m).2.kind≠4):Calls Tryz.prog 257 #[.pointer (some ⟨b,0,none⟩),.pointer (some ⟨mb,0,none⟩)] w fun e w'=>e=.returned (.tuple #[])/\Full W G0 b z mb mg w' { x with m:=(a07 x.m).1,part:=2 } ws true n:=by
 obtain⟨q,r,h,hR⟩:=h;obtain rfl:q=none:=by
  rcases hR with hR | ⟨_,hR,_⟩
  ·exact hR.1
  ·omega
 have HI:=zH (bg4 h hT hI.inv rfl rfl (by simpa using h1) (by simpa using h4));have h13:w.cell? ⟨b,13,none⟩=some (.pointer none):=(h.cell 13).trans rfl;have hb:=h.ltB;have HC:Hid (comC x=comC { x with m:=(a07 x.m).1,part:=2 }):=by unfold comC comN;rw[if_neg (by omega),if_neg (by show ¬ (2:Nat)=1;omega)];trivial
 have HX:Hid (x.cell<0/\x.part=2):=⟨hc,hp⟩;clear h hT h1 h4 hI hp hc;go_enter Tryz.func257,Tryz.ntmps257
 go_wp2_with (go_at_call 250;refine HI.out.mono ?_;rintro e w1 ⟨rfl,k⟩;have HQ:=zH k;have e13:w1.cell? ⟨b,13,none⟩=some (.pointer none):=(k.cell 13).trans rfl;have lb:=k.ltB;clear k HI)
 go_end0
 exact⟨rfl,none,r,by rw[<- HC.out];exact HQ.out.like (by unfold ak6;rw[HX.out.2]) rfl rfl,.inl ⟨rfl,HX.out.1⟩⟩
theorem by6 (h:Full W G0 b z mb mg w x ws true n) (hT:a87 W G0) (hI:In0 x) (hp:x.part=2) (hl:plW x<=(ws.length:Int)) (hW:okW ws):Calls Tryz.prog 257 #[.pointer (some ⟨b,0,none⟩),.pointer (some ⟨mb,0,none⟩)] w fun e w'=>e=.returned (.tuple #[])/\Full W G0 b z mb mg w' (runX x ws).1 ws (!(runX x ws).2) (if (runX x ws).2 then up n else n):=by
 unfold runX
 by_cases hc:0<=x.cell
 ·rw[if_pos hc];exact bz0 h hI hp hc hl hW
 ·rw[if_neg hc]
  by_cases h1:(a07 x.m).2.kind=1
  ·rw[if_pos h1];exact by9 h hT hI hp (by omega) h1 hl hW
  ·rw[if_neg h1]
   by_cases h4:(a07 x.m).2.kind=4
   ·rw[if_pos h4];exact bm1 h hT hI hp (by omega) h4
   ·rw[if_neg h4];exact bm2 h hT hI hp (by omega) h1 h4
theorem Full.mid (h:Full W G0 b z mb mg w x ws o n):∃ q c r,Mid W G0 b z mb mg w x q c r ws o n:=by
 obtain⟨q,r,h,_⟩:=h;exact⟨q,_,r,h⟩
theorem Full.on {w':World} (h:Full W G0 b z mb mg w x ws o n) (k:Bl w w'):Full W G0 b z mb mg w' x ws o n:=by
 obtain⟨q,r,h,h2⟩:=h;exact⟨q,r,h.on k,h2⟩
theorem Full.same {w':World} (h:Full W G0 b z mb mg w x ws o n) (k:Same w w'):Full W G0 b z mb mg w' x ws o n:=h.on (k.below _)
theorem bz6 {part:Nat} (hpt:x.part=part) (hpp:part=1∨part=2∨part=3) (h:Full W G0 b z mb mg w x ws o n) (hT:a87 W G0) (hI:InX x) (hl:plW x<=(ws.length:Int)) (hW:okW ws) {y:Rx} {ws':List Int} {ac:Bool} (hy:a19 x ws=(y,ws',ac)) :
  Calls Tryz.prog 249 #[.pointer (some ⟨b,0,none⟩),.pointer (some ⟨mb,0,none⟩)] w fun e w'=>e=.returned (.tuple #[.bool (decide ((y.part:Int)=4)),.int .i64 0])/\Full W G0 b z mb mg w' y ws' (!ac) (if ac then up n else n):=by
 obtain⟨o',ho⟩:∃ o',o'=!ac:=⟨_,rfl⟩
 obtain⟨n',hn⟩:∃ n',n'=if ac then up n else n:=⟨_,rfl⟩
 rw[<- ho,<- hn];have HF:Hid (Calls Tryz.prog 254 #[.pointer (some ⟨b,0,none⟩),.pointer (some ⟨mb,0,none⟩)] w fun e w'=>e=.returned (.bool true)/\Same w w'):=by
  obtain⟨q,c,r,h⟩:=h.mid;have:=aj3 h;rwa[zT hl]at this
 have HO:Hid (∀ w',Same w w'->Calls Tryz.prog 253 #[.pointer (some ⟨b,0,none⟩)] w' fun e w2=>e=.returned (.bool false)/\w2=w'):=fun w' k=>by
  obtain⟨q,c,r,h⟩:=(h.same k).mid;have:=over_any h;rwa[zU (by omega)]at this
 have hfs:=hI.few_steps.1;have hfu:=hI.inv.fuel;have HP:Hid (∀ w',Same w w'->Calls Tryz.prog 255 #[.pointer (some ⟨b,0,none⟩),.pointer (some ⟨mb,0,none⟩)] w' fun e w2=>e=.returned (.tuple #[])/\Full W G0 b z mb mg w2 (a23 x) ws true n):=fun w' k=>by
  obtain⟨q,r,h,hR⟩:=h.same k;refine(open_any h hI.pos (by omega)).mono ?_;rintro e w2 ⟨rfl,k2⟩;exact⟨rfl,q,r,k2,by rcases hR with hR | ⟨h1,h2,h3⟩;exact .inl hR;exact .inr ⟨h1,h2,⟨h3.p,h3.c,h3.s,h3.k,h3.v,h3.x⟩⟩⟩
 have HZ:Hid (∀ w',Full W G0 b z mb mg w' y ws' o' n'->Calls Tryz.prog 253 #[.pointer (some ⟨b,0,none⟩)] w' fun e w2=>e=.returned (.bool (decide ((y.part:Int)=4)))/\w2=w'):=fun w' k=>by
  obtain⟨q,c,r,h⟩:=k.mid;exact over_any h
 have HB:Hid (∀ w',Full W G0 b z mb mg w' (a23 x) ws true n->w'.cell? ⟨b,11,none⟩=some (.int .i64 (part:Int))/\b<w'.heap.size):=fun w' k=>by
  obtain⟨q,c,r,h⟩:=k.mid;exact⟨(h.cell 11).trans (by show some (Value.int .i64 (x.part:Int))=_;rw[hpt]),h.ltB⟩
 have HB0:Hid (b<w.heap.size/\∀ w',Same w w'->b<w'.heap.size):=by
  obtain⟨q,c,r,h⟩:=h.mid;exact⟨h.ltB,fun w' k=>by rw[k.heap];exact h.ltB⟩
 have hb:=HB0.out.1
 rcases hpp with rfl | rfl | rfl
 ·have HC:Hid (∀ w',Full W G0 b z mb mg w' (a23 x) ws true n->Calls Tryz.prog 256 #[.pointer (some ⟨b,0,none⟩),.pointer (some ⟨mb,0,none⟩)] w' fun e w2=>e=.returned (.tuple #[])/\Full W G0 b z mb mg w2 y ws' o' n'):=fun w' k=>by
   have E:a19 x ws=((a54 (a23 x) ws).1,(a54 (a23 x) ws).2,true):=by unfold a19;rw[if_pos hpt]
   rw[E]at hy
   cases hy
   subst ho hn;obtain⟨q,r,h,hR⟩:=k;have hc1:=(hI.p1 hpt).2.1;obtain⟨g1,g2,g3,g4,g5,g6,g7,g8,g9,g10⟩:=aQ2 (a23 x) ws;have g8':(a54 (a23 x) ws).1.cell=x.cell:=g8;refine(come_any h hI.tick hpt hl).mono ?_;rintro e w2 ⟨rfl,k2⟩;refine⟨rfl,q,r,k2,?_⟩
   rcases hR with hR | ⟨_,h2,_⟩
   ·exact .inl ⟨hR.1,by rw[g8'];omega⟩
   ·have h2':0<=x.cell:=h2
    omega
  clear h hT hI hl hW hy hpt hfs hfu ho hn;go_enter Tryz.func249,Tryz.ntmps249
  go_wp2_with (first
   | (go_at_call 253;refine(HZ.out _ H4.out).mono ?_;rintro e w5 ⟨rfl,hw⟩;subst w5;clear HZ)
   | (go_at_call 256;refine(HC.out _ H3.out).mono ?_;rintro e w4 ⟨rfl,k⟩;have H4:=zH k;clear k HC H3)
   | (go_at_call 255;refine(HP.out _ H1.out).mono ?_;rintro e w3 ⟨rfl,k⟩;have H3:=zH k;obtain⟨e11,lb3⟩:=HB.out _ k;clear k HP HB)
   | (go_at_call 253;refine(HO.out _ H1.out).mono ?_;rintro e w2 ⟨rfl,hw⟩;subst w2;clear HO)
   | (go_at_call 254;refine HF.out.mono ?_;rintro e w1 ⟨rfl,k⟩;have H1:=zH k;have lb1:=HB0.out.2 _ k;clear k HF))
  go_ret2;exact⟨rfl,H4.out⟩
 ·have HC:Hid (∀ w',Full W G0 b z mb mg w' (a23 x) ws true n->Calls Tryz.prog 257 #[.pointer (some ⟨b,0,none⟩),.pointer (some ⟨mb,0,none⟩)] w' fun e w2=>e=.returned (.tuple #[])/\Full W G0 b z mb mg w2 y ws' o' n'):=fun w' k=>by
   have E:a19 x ws=((runX (a23 x) ws).1,ws,(runX (a23 x) ws).2):=by unfold a19;rw[if_neg (by omega),if_neg (by omega)]
   rw[E]at hy
   cases hy
   subst ho hn;exact by6 k hT hI.tick hpt hl hW
  clear h hT hI hl hW hy hpt hfs hfu ho hn;go_enter Tryz.func249,Tryz.ntmps249
  go_wp2_with (first
   | (go_at_call 253;refine(HZ.out _ H4.out).mono ?_;rintro e w5 ⟨rfl,hw⟩;subst w5;clear HZ)
   | (go_at_call 257;refine(HC.out _ H3.out).mono ?_;rintro e w4 ⟨rfl,k⟩;have H4:=zH k;clear k HC H3)
   | (go_at_call 255;refine(HP.out _ H1.out).mono ?_;rintro e w3 ⟨rfl,k⟩;have H3:=zH k;obtain⟨e11,lb3⟩:=HB.out _ k;clear k HP HB)
   | (go_at_call 253;refine(HO.out _ H1.out).mono ?_;rintro e w2 ⟨rfl,hw⟩;subst w2;clear HO)
   | (go_at_call 254;refine HF.out.mono ?_;rintro e w1 ⟨rfl,k⟩;have H1:=zH k;have lb1:=HB0.out.2 _ k;clear k HF))
  go_ret2;exact⟨rfl,H4.out⟩
 ·have HC:Hid (∀ w',Full W G0 b z mb mg w' (a23 x) ws true n->Calls Tryz.prog 258 #[.pointer (some ⟨b,0,none⟩),.pointer (some ⟨mb,0,none⟩)] w' fun e w2=>e=.returned (.tuple #[])/\Full W G0 b z mb mg w2 y ws' o' n'):=fun w' k=>by
   have E:a19 x ws=(an5 (a23 x),ws.set (3+x.th).toNat 0,true):=by unfold a19;rw[if_neg (by omega),if_pos hpt]
   rw[E]at hy
   cases hy
   subst ho hn;obtain⟨q,r,h,hR⟩:=k;have hc1:=(hI.p3 (.inl hpt)).2.1;refine(leave_any h hI.tick hl).mono ?_;rintro e w2 ⟨rfl,k2⟩;refine⟨rfl,q,r,?_,?_⟩
   ·have:comC (an5 (a23 x))=comC (a23 x):=by
     unfold comC comN;rw[if_neg (show ¬ (an5 (a23 x)).part=1 by show ¬ 4=1;omega),if_neg (show ¬ (a23 x).part=1 by show ¬ x.part=1;omega)]
     rfl
    rw[this];exact k2
   ·rcases hR with hR | ⟨_,h2,_⟩
    ·exact .inl hR
    ·have h2':0<=x.cell:=h2
     omega
  clear h hT hI hl hW hy hpt hfs hfu ho hn;go_enter Tryz.func249,Tryz.ntmps249
  go_wp2_with (first
   | (go_at_call 253;refine(HZ.out _ H4.out).mono ?_;rintro e w5 ⟨rfl,hw⟩;subst w5;clear HZ)
   | (go_at_call 258;refine(HC.out _ H3.out).mono ?_;rintro e w4 ⟨rfl,k⟩;have H4:=zH k;clear k HC H3)
   | (go_at_call 255;refine(HP.out _ H1.out).mono ?_;rintro e w3 ⟨rfl,k⟩;have H3:=zH k;obtain⟨e11,lb3⟩:=HB.out _ k;clear k HP HB)
   | (go_at_call 253;refine(HO.out _ H1.out).mono ?_;rintro e w2 ⟨rfl,hw⟩;subst w2;clear HO)
   | (go_at_call 254;refine HF.out.mono ?_;rintro e w1 ⟨rfl,k⟩;have H1:=zH k;have lb1:=HB0.out.2 _ k;clear k HF))
  go_ret2;exact⟨rfl,H4.out⟩
theorem step_any (h:Full W G0 b z mb mg w x ws o n) (hT:a87 W G0) (hI:InX x) (hp:x.part≠4) (hl:plW x<=(ws.length:Int)) (hW:okW ws) {y:Rx} {ws':List Int} {ac:Bool} (hy:a19 x ws=(y,ws',ac)) :
  Calls Tryz.prog 249 #[.pointer (some ⟨b,0,none⟩),.pointer (some ⟨mb,0,none⟩)] w fun e w'=>e=.returned (.tuple #[.bool (decide ((y.part:Int)=4)),.int .i64 0])/\Full W G0 b z mb mg w' y ws' (!ac) (if ac then up n else n) :=
 bz6 rfl (by have:=hI.part;omega) h hT hI hl hW hy
end
end Go.Proofs.YtipakfjpfjehmaaGreatDoor.Rr
namespace Go.Proofs.YtipakfjpfjehmaaGreatDoor
open Go.ChangeShapes Go.WideShapes Go.ChangeAt Go.RowKit Num
section
variable {P:Program} {w:World}
theorem ar9 {o:Oper} {a:Act} {K:Act->World->Prop} {Q:Exit->Act->World->Prop} (s x:Operand) (t tx:TypeId)
  (ho:o.op=.call { callee:=.builtin .append,args:=#[s,x],argTypes:=#[t,tx] }) (vs vx:Value) (hs:a.eval s=vs) (hx:a.eval x=vx) {R:Value->World->Prop}
  (hr:∃ v w',(Builtin.append_ #[t,tx] o.type #[vs,vx]).run P w=.ok v w'/\R v w') (h:∀ v w',R v w'->K (a.put o.dst v) w'):o.wp P a w K Q:=by
 obtain⟨v,w',hr,hR⟩:=hr;unfold Oper.wp execOp;simp only[ho,resolve,invoke,builtin,Sem.run_bind,Sem.run_pure,Result.andThen_ok,List.map_toArray,List.map_cons,List.map_nil,hs,hx,hr];exact h v w' hR
end
attribute [local go_sem] a00
attribute [local go_sem] a00
attribute [local go_sem] a00
attribute [local go_sem] a00
attribute [local go_sem] a00
attribute [local go_sem] a00
attribute [local go_sem] a00
attribute [local go_sem] a00
attribute [local go_sem] a00
attribute [local go_sem] a00
attribute [local go_sem] a00
attribute [local go_sem] a00
attribute [local go_sem] a00
end Go.Proofs.YtipakfjpfjehmaaGreatDoor
