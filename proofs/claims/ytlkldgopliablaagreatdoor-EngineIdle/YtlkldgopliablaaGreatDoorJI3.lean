import Derived.Test.YtlkldgopliablaaGreatDoorJI2
import Derived.Test.YtlkldgopliablaaGreatDoorJI1
import Derived.Deep.RegionHeld
import Derived.Deep.AppendLies
import Derived.Deep.LoopGhost
import Derived.Deep.AppendSrc
import Derived.Deep.MidRow
import Derived.Laws.MakeOwn
import Derived.Deep.RegionLaw
set_option maxRecDepth 100000
set_option maxHeartbeats 8000000
namespace Go.Proofs.YtlkldgopliablaaGreatDoor.Md.Cv
open Go.ChangeShapes Go.WideShapes Go.ChangeAt Go.RowKit
theorem ok_facts {ws:List Int} {o:Bool} {i:Int} (h:errA ws o i=0):(∀ v,stored ws o i v=ws.set i.toNat v)/\a49 ws o i=false/\(∀ n,a48 ws o i n=up n)/\toldW ws o i=wordAt ws i/\hasB ws i=true/\o=true:=by
 have hk:hasB ws i=true/\o=true:=by
  unfold errA at h
  cases q:hasB ws i <;> cases o <;> simp[q]at h ⊢
 obtain⟨h1,rfl⟩:=hk;exact⟨fun v=>by simp[stored,h1],by simp[a49,h1],fun n=>by simp[a48,h1],by simp[toldW,h1],h1,rfl⟩
theorem ar2 {ws:List Int} {o:Bool} {i:Int} (h:¬ errA ws o i=0):(∀ v,stored ws o i v=ws)/\a49 ws o i=o/\(∀ n,a48 ws o i n=n)/\toldW ws o i=0:=by
 have hk:(hasB ws i && o)=false:=by
  unfold errA at h
  cases q:hasB ws i <;> cases o <;> simp[q]at h ⊢
 refine⟨fun v=>by simp[stored,hk],?_,fun n=>by simp[a48,hk],by simp[toldW,hk]⟩;unfold a49
 cases q:hasB ws i <;> cases o <;> simp_all
def cI (c:Cs):Int:=if c.N=1 then plc c.B c.T else c.A
def aW (c:Cs) (ws:List Int) (o:Bool):List Int:=if c.N=1 then stored ws o (plc c.B c.T) (passV c.K) else ws
def aC (c:Cs) (ws:List Int) (o:Bool):Cs:=⟨c.A,c.B,c.T,c.N,if c.N=0 then toldW ws o c.A else c.K,if c.N=2 then toldW ws o c.A else c.S⟩
section
variable {w:World} {b g x:Nat} {ws:List Int} {o:Bool} {n:Int} {c:Cs}
theorem CmAt.ne (h:CmAt w x c) (m:MemAt 145 w b g ws o n):x≠b/\x≠g:=⟨ne_ty h m.box rfl,ne_ty h m.row rfl⟩
theorem ba5 (h:MemAt 145 w b g ws o n) {A B T K S:Int} (hx:CmAt w x ⟨A,B,T,0,K,S⟩):Calls Tryz.prog 345 #[.pointer (some ⟨x,0,none⟩),.pointer (some ⟨b,0,none⟩)] w fun e w'=>e=.returned (.int .i64 (errA ws o A))/\MemAt 145 w' b g ws (a49 ws o A) (a48 ws o A n)/\CmAt w' x ⟨A,B,T,0,toldW ws o A,S⟩/\Ch3 b g x w w':=by
 have HN:=zH (hx.ne h);have HM:=zH h;have HX:=zH hx;obtain⟨h0,h1,h2,h3,h4,h5,h6,h7,h8,h9⟩:=hx.cells;clear h hx;dsimp only at h0 h1 h2 h3 h4 h5;go_enter Tryz.func345,Tryz.ntmps345
 go_wp2_with (go_at_call 207;refine(a92 HM.out _).mono ?_;rintro e w1 ⟨rfl,hm,hc⟩;have HM1:=zH hm;have HC1:=zH hc;have HX1:=zH (HX.out.keep (hc.block x h6 HN.out.1 HN.out.2));obtain⟨k0,k1,k2,k3,k4,k5,k6,k7,k8,k9⟩:=HX1.out.cells;clear hm hc)
 go_ret;exact⟨rfl,HM1.out.other HN.out.1.symm HN.out.2.symm _ _,HX1.out.setK _,((Ch3.refl _ _ _ _).chg HC1.out).set _ _⟩
theorem ba7 (h:MemAt 145 w b g ws o n) {A B T K S:Int} (hx:CmAt w x ⟨A,B,T,2,K,S⟩):Calls Tryz.prog 345 #[.pointer (some ⟨x,0,none⟩),.pointer (some ⟨b,0,none⟩)] w fun e w'=>e=.returned (.int .i64 (errA ws o A))/\MemAt 145 w' b g ws (a49 ws o A) (a48 ws o A n)/\CmAt w' x ⟨A,B,T,2,K,toldW ws o A⟩/\Ch3 b g x w w':=by
 have HN:=zH (hx.ne h);have HM:=zH h;have HX:=zH hx;obtain⟨h0,h1,h2,h3,h4,h5,h6,h7,h8,h9⟩:=hx.cells;clear h hx;dsimp only at h0 h1 h2 h3 h4 h5;go_enter Tryz.func345,Tryz.ntmps345
 go_wp2_with (go_at_call 207;refine(a92 HM.out _).mono ?_;rintro e w1 ⟨rfl,hm,hc⟩;have HM1:=zH hm;have HC1:=zH hc;have HX1:=zH (HX.out.keep (hc.block x h6 HN.out.1 HN.out.2));obtain⟨k0,k1,k2,k3,k4,k5,k6,k7,k8,k9⟩:=HX1.out.cells;clear hm hc)
 go_ret;exact⟨rfl,HM1.out.other HN.out.1.symm HN.out.2.symm _ _,HX1.out.setS _,((Ch3.refl _ _ _ _).chg HC1.out).set _ _⟩
theorem ba6 (h:MemAt 145 w b g ws o n) {A B T K S:Int} (hx:CmAt w x ⟨A,B,T,1,K,S⟩) (hmay:may8 T=true):Calls Tryz.prog 345 #[.pointer (some ⟨x,0,none⟩),.pointer (some ⟨b,0,none⟩)] w fun e w'=>e=.returned (.int .i64 (errA ws o (plc B T)))/\MemAt 145 w' b g (stored ws o (plc B T) (passV K)) (a49 ws o (plc B T)) (a48 ws o (plc B T) n)/\CmAt w' x ⟨A,B,T,1,K,S⟩/\Ch3 b g x w w':=by
 have HN:=zH (hx.ne h);have HM:=zH h;have HX:=zH hx;have HY:=zH hmay;obtain⟨h0,h1,h2,h3,h4,h5,h6,h7,h8,h9⟩:=hx.cells;clear h hx hmay;dsimp only at h0 h1 h2 h3 h4 h5;go_enter Tryz.func345,Tryz.ntmps345
 go_wp2
 refine a05 (fun w'=>w'.cell? ⟨x,1,none⟩=some (.int .i64 B)/\w'.cell? ⟨x,2,none⟩=some (.int .i64 T)/\w'.cell? ⟨x,4,none⟩=some (.int .u64 K)) ((0,true)::(1,true)::(2,true)::(3,true)::(4,true)::(6,true)::(7,true)::(8,true)::(9,true)::(5,false)::(10,false)::(11,false)::(12,true)::[]) follows13 (by kernel_rfl) (fun _ _ _ _ _ h=>h) ⟨h1,h2,h4⟩ ?_
 repeat (refine a02 (v:=?_) rfl (by rfl) (fun wq hSq=>?_) ?_;rotate_left;(focus ((try dsimp only at hSq);go_simp;try with_reducible rfl));simp only[Act.put,zA,zB,zC])
 refine a04 rfl (by rfl) (fun KK hK=>?_)
 go_simp
 refine(a67 B T HY.out _).mono ?_;rintro e w1 ⟨rfl,hb⟩;have HB1:Hid (Bl w w1):=a53 (av4 (zF _ _)) hb;have HX1:=zH (HX.out.on HB1.out);obtain⟨k0,k1,k2,k3,k4,k5,k6,_⟩:=HX1.out.cells;refine hK.out _ _ ⟨k1,k2,k4⟩ ?_;clear hK KK hb
 try simp only[Act.put,zA,zB,zC]
 refine a04 rfl (by rfl) (fun KK hK=>?_)
 go_simp
 refine(aV7 K _).mono ?_;rintro e w2 ⟨rfl,hw⟩;subst w2;refine hK.out _ _ ⟨k1,k2,k4⟩ ?_;clear hK KK
 try simp only[Act.put,zA,zB,zC]
 refine a04 rfl (by rfl) (fun KK hK=>?_)
 go_simp
 refine(ae6 (HM.out.on HB1.out) _ _).mono ?_;rintro e w2 ⟨rfl,hm,hc⟩;have HM2:=zH hm;have HC2:=zH hc;have HX2:=zH (HX1.out.keep (hc.block x k6 HN.out.1 HN.out.2));clear hm hc;obtain⟨j0,j1,j2,j3,j4,j5,j6,_⟩:=HX2.out.cells;refine hK.out _ _ ⟨j1,j2,j4⟩ ?_;clear hK KK
 try simp only[Act.put,zA,zB,zC]
 repeat (refine a02 (v:=?_) rfl (by rfl) (fun wq hSq=>?_) ?_;rotate_left;(focus ((try dsimp only at hSq);go_simp;try with_reducible rfl));simp only[Act.put,zA,zB,zC])
 refine a07 ?_
 go_wp2
 go_ret;exact⟨rfl,HM2.out,HX2.out,((Ch3.refl _ _ _ _).on HB1.out).chg HC2.out⟩
theorem aR1 (h:MemAt 145 w b g ws o n) (hx:CmAt w x c) (hN:c.N=0∨c.N=1∨c.N=2) (hmay:may8 c.T=true):Calls Tryz.prog 345 #[.pointer (some ⟨x,0,none⟩),.pointer (some ⟨b,0,none⟩)] w fun e w'=>e=.returned (.int .i64 (errA ws o (cI c)))/\MemAt 145 w' b g (aW c ws o) (a49 ws o (cI c)) (a48 ws o (cI c) n)/\CmAt w' x (aC c ws o)/\Ch3 b g x w w':=by
 obtain⟨A,B,T,N,K,S⟩:=c;dsimp only at hN hmay
 rcases hN with rfl | rfl | rfl
 ·exact ba5 h hx
 ·exact ba6 h hx hmay
 ·exact ba7 h hx
end
def cE (c:Cs) (ws:List Int) (o:Bool):Int:=if c.N=3 then 3 else if may8 c.T then errA ws o (cI c) else 100
def cO (c:Cs) (ws:List Int) (o:Bool):Bool:=decide (cE c ws o=0) && decide (c.N=2)
def cW (c:Cs) (ws:List Int) (o:Bool):List Int:=if cE c ws o=0 then (if c.N=1 then ws.set (plc c.B c.T).toNat (passV c.K) else ws) else ws
def cP (c:Cs) (ws:List Int) (o:Bool):Bool:=if cE c ws o=0 then false else o
def cQ (c:Cs) (ws:List Int) (o:Bool) (n:Int):Int:=if cE c ws o=0 then up n else n
def cC (c:Cs) (ws:List Int) (o:Bool):Cs:=if cE c ws o=0 then ⟨c.A,c.B,c.T,c.N+1,if c.N=0 then wordAt ws c.A else c.K,if c.N=2 then wordAt ws c.A else c.S⟩ else c
structure COk (c:Cs):Prop where
 n:c.N=0∨c.N=1∨c.N=2∨c.N=3
 k:c.N=0->c.K=0
 s:c.N≠3->c.S=0
theorem bH3 {c:Cs} {ws:List Int} {o:Bool} (h:errA ws o (cI c)=0):aW c ws o=if c.N=1 then ws.set (plc c.B c.T).toNat (passV c.K) else ws:=by
 unfold aW cI at *
 by_cases q:c.N=1
 ·rw[if_pos q]at h ⊢
  rw[if_pos q,(ok_facts h).1]
 ·rw[if_neg q,if_neg q]
theorem bH2 {c:Cs} {ws:List Int} {o:Bool} (h:¬ errA ws o (cI c)=0):aW c ws o=ws:=by
 unfold aW cI at *
 by_cases q:c.N=1
 ·rw[if_pos q]at h ⊢
  exact(ar2 h).1 _
 ·rw[if_neg q]
theorem bH1 {c:Cs} {ws:List Int} {o:Bool} (h:errA ws o (cI c)=0):aC c ws o=⟨c.A,c.B,c.T,c.N,if c.N=0 then wordAt ws c.A else c.K,if c.N=2 then wordAt ws c.A else c.S⟩:=by
 unfold aC cI at *
 by_cases q:c.N=1
 ·rw[if_neg (by omega),if_neg (by omega),if_neg (by omega),if_neg (by omega)]
 ·rw[if_neg q]at h
  rw[(ok_facts h).2.2.2.1]
theorem bH0 {c:Cs} {ws:List Int} {o:Bool} (hc:COk c) (h:¬ errA ws o (cI c)=0):aC c ws o=c:=by
 have hn:=hc.n;have hk:=hc.k;have hs:=hc.s;obtain⟨A,B,T,N,K,S⟩:=c;unfold aC cI at *;dsimp only at *
 by_cases q:N=1
 ·rw[if_neg (by omega),if_neg (by omega)]
 ·rw[if_neg q]at h
  rw[(ar2 h).2.2.2]
  by_cases q0:N=0
  ·rw[if_pos q0,if_neg (by omega),hk q0]
  ·rw[if_neg q0]
   by_cases q2:N=2
   ·rw[if_pos q2,hs (by omega)]
   ·rw[if_neg q2]
section
variable {w:World} {b g x:Nat} {ws:List Int} {o:Bool} {n:Int} {c:Cs}
theorem aS3 (hx:CmAt w x c) (hN:c.N=3) (b:Nat):Calls Tryz.prog 339 #[.pointer (some ⟨x,0,none⟩),.pointer (some ⟨b,0,none⟩)] w fun e w'=>e=.returned (.tuple #[.bool false,.int .i64 3])/\w'=w:=by
 have HO:=zH (am1 hx);simp only[hN,decide_true]at HO;clear hx hN;go_enter Tryz.func339,Tryz.ntmps339
 go_wp2_with (go_at_call 343;refine HO.out.mono ?_;rintro e w1 ⟨rfl,hw⟩;subst w1)
 go_ret2;exact⟨rfl,rfl⟩
theorem aZ2 (hx:CmAt w x c) (hN:c.N≠3) (hm:may8 c.T=false) (b:Nat):Calls Tryz.prog 339 #[.pointer (some ⟨x,0,none⟩),.pointer (some ⟨b,0,none⟩)] w fun e w'=>e=.returned (.tuple #[.bool false,.int .i64 100])/\Bl w w':=by
 have HO:=zH (am1 hx);simp only[zU hN]at HO;have HY:=zH (a94 c.B c.T);simp only[hm]at HY;obtain⟨h0,h1,h2,h3,h4,h5,h6,h7,h8,h9⟩:=hx.cells;clear hx hN hm;go_enter Tryz.func339,Tryz.ntmps339
 go_wp2_with (first
  | (go_at_call 343;refine HO.out.mono ?_;rintro e w1 ⟨rfl,hw⟩;subst w1)
  | (go_at_call 344;refine(HY.out _).mono ?_;rintro e w1 ⟨rfl,hb⟩;have HB:=zH hb;clear hb))
 go_ret2;exact⟨rfl,HB.out⟩
theorem bb7 (h:MemAt 145 w b g ws o n) (hx:CmAt w x c) (hN:c.N=0∨c.N=1∨c.N=2) (hm:may8 c.T=true) {er:Int} (her:errA ws o (cI c)=er):Calls Tryz.prog 339 #[.pointer (some ⟨x,0,none⟩),.pointer (some ⟨b,0,none⟩)] w fun e w'=>e=.returned (.tuple #[.bool (decide (er=0) && decide (c.N=2)),.int .i64 er])/\MemAt 145 w' b g (aW c ws o) (a49 ws o (cI c)) (a48 ws o (cI c) n)/\CmAt w' x (if er=0 then ⟨c.A,c.B,c.T,c.N+1,(aC c ws o).K,(aC c ws o).S⟩ else aC c ws o)/\Ch3 b g x w w':=by
 have HO:=zH (am1 hx);rw[zU (show ¬ c.N=3 by omega)]at HO;have HY:=zH (a94 c.B c.T);simp only[hm]at HY;have HA:=zH (fun w1 (hb:Bl w w1)=>aR1 (h.on hb) (hx.on hb) hN hm);rw[her]at HA;obtain⟨h0,h1,h2,h3,h4,h5,h6,h7,h8,h9⟩:=hx.cells;have HQ:=zH (hx.ne h);clear h hx hm her
 by_cases q:er=0
 ·subst q
  rw[if_pos rfl,zT rfl,Bool.true_and];have hN':wrap64 (c.N+1)=c.N+1:=Go.IntWalk.wrap64_in _ ⟨by omega,by omega⟩;have hN2:decide (c.N+1=3)=decide (c.N=2):=by rw[decide_eq_decide];omega
  have HN2:=zH hN2;clear hN hN2;go_enter Tryz.func339,Tryz.ntmps339
  go_wp2_with (first
   | (go_at_call 343;refine HO.out.mono ?_;rintro e w1 ⟨rfl,hw⟩;subst w1;clear HO)
   | (go_at_call 344;refine(HY.out _).mono ?_;rintro e w1 ⟨rfl,hb⟩;have HB:=zH hb;clear hb)
   | (go_at_call 345;refine(HA.out _ HB.out).mono ?_;rintro e w2 ⟨rfl,hm,hx,hc⟩;have HM2:=zH hm;have HX2:=zH hx;have HC2:=zH ((Ch3.refl _ _ _ _).on HB.out |>.trans hc);have k3:w2.cell? ⟨x,3,none⟩=some (.int .i64 c.N):=hx.cells.2.2.2.1;have k6:x<w2.heap.size:=hx.lt;have k7:w2.frozen? ⟨x,3,none⟩=false:=hx.cells.2.2.2.2.2.2.2.1;clear hm hx hc)
   | (go_at_call 343;refine(am1 (HX2.out.setN (c.N+1))).mono ?_;dsimp only;rw[HN2.out];rintro e w3 ⟨rfl,hw⟩;subst w3))
  go_ret2;exact⟨rfl,HM2.out.other HQ.out.1.symm HQ.out.2.symm _ _,HX2.out.setN _,HC2.out.set _ _⟩
 ·rw[if_neg q,zU q,Bool.false_and]
  clear hN;go_enter Tryz.func339,Tryz.ntmps339
  go_wp2_with (first
   | (go_at_call 343;refine HO.out.mono ?_;rintro e w1 ⟨rfl,hw⟩;subst w1;clear HO)
   | (go_at_call 344;refine(HY.out _).mono ?_;rintro e w1 ⟨rfl,hb⟩;have HB:=zH hb;clear hb)
   | (go_at_call 345;refine(HA.out _ HB.out).mono ?_;rintro e w2 ⟨rfl,hm,hx,hc⟩;have HM2:=zH hm;have HX2:=zH hx;have HC2:=zH ((Ch3.refl _ _ _ _).on HB.out |>.trans hc);clear hm hx hc))
  go_ret2;exact⟨rfl,HM2.out,HX2.out,HC2.out⟩
theorem cstep_any (h:MemAt 145 w b g ws o n) (hx:CmAt w x c) (hc:COk c):Calls Tryz.prog 339 #[.pointer (some ⟨x,0,none⟩),.pointer (some ⟨b,0,none⟩)] w fun e w'=>e=.returned (.tuple #[.bool (cO c ws o),.int .i64 (cE c ws o)])/\MemAt 145 w' b g (cW c ws o) (cP c ws o) (cQ c ws o n)/\CmAt w' x (cC c ws o)/\Ch3 b g x w w':=by
 by_cases h3:c.N=3
 ·have e:cE c ws o=3:=by simp[cE,h3]
  unfold cO cW cP cQ cC;rw[e];refine(aS3 hx h3 b).mono ?_;rintro r w' ⟨rfl,rfl⟩;exact⟨by simp,by simpa using h,by simpa using hx,Ch3.refl _ _ _ _⟩
 ·cases hm:may8 c.T
  ·have e:cE c ws o=100:=by simp[cE,h3,hm]
   unfold cO cW cP cQ cC;rw[e];refine(aZ2 hx h3 hm b).mono ?_;rintro r w' ⟨rfl,hb⟩;exact⟨by simp,by simpa using h.on hb,by simpa using hx.on hb,(Ch3.refl _ _ _ _).on hb⟩
  ·have e:cE c ws o=errA ws o (cI c):=by simp[cE,h3,hm]
   have hN:c.N=0∨c.N=1∨c.N=2:=by have:=hc.n;omega
   unfold cO cW cP cQ cC;rw[e];refine(bb7 h hx hN hm rfl).mono ?_;rintro r w' ⟨rfl,hm',hx',hch⟩;refine⟨rfl,?_,?_,hch⟩
   ·by_cases q:errA ws o (cI c)=0
    ·rw[if_pos q,if_pos q,if_pos q]
     have f:=ok_facts q;rw[bH3 q,f.2.1,f.2.2.1]at hm';exact hm'
    ·rw[if_neg q,if_neg q,if_neg q]
     have f:=ar2 q;rw[bH2 q,f.2.1,f.2.2.1]at hm';exact hm'
   ·by_cases q:errA ws o (cI c)=0
    ·rw[if_pos q]at hx' ⊢
     rw[bH1 q]at hx';exact hx'
    ·rw[if_neg q]at hx' ⊢
     rw[bH0 hc q]at hx';exact hx'
end
structure Ss where
 B:Int
 H:Int
 D:Int
 P:Int
 Q:Int
def ScAt (w:World) (x:Nat) (s:Ss):Prop:=w.heap[x]?=some (.cells #[.int .i64 s.B,.int .i64 s.H,.int .u64 s.D,.int .i64 s.P,.int .i64 s.Q] 278 (0,0))
def mayH (h:Int):Bool:=decide (1<=h/\h<=8)
def letB (d v:Int):Bool:=decide (v=0) || decide (d<v)
structure SOk (s:Ss):Prop where
 p:0<=s.P
 h:mayH s.H=true->s.P<=s.H
def sE (s:Ss) (ws:List Int) (o:Bool):Int:=if mayH s.H then (if s.P=s.H then 3 else errA ws o (plc s.B s.P)) else 100
def sN (s:Ss) (v:Int):Ss:=if letB s.D v then ⟨s.B,s.H,s.D,s.P+1,s.Q⟩ else ⟨s.B,s.H,s.D,s.P,up s.Q⟩
def sC (s:Ss) (ws:List Int) (o:Bool):Ss:=if sE s ws o=0 then sN s (wordAt ws (plc s.B s.P)) else s
def sO (s:Ss) (ws:List Int) (o:Bool):Bool:=decide (sE s ws o=0) && decide ((sC s ws o).P=s.H)
def sP (s:Ss) (ws:List Int) (o:Bool):Bool:=if sE s ws o=0 then false else o
def sQ (s:Ss) (ws:List Int) (o:Bool) (n:Int):Int:=if sE s ws o=0 then up n else n
theorem bk0 (s:Ss) (v:Int):(sN s v).B=s.B/\(sN s v).H=s.H/\(sN s v).D=s.D:=by
 unfold sN
 split <;> exact⟨rfl,rfl,rfl⟩
section
variable {w w':World} {x:Nat} {s:Ss}
theorem ScAt.lt (h:ScAt w x s):x<w.heap.size:=lt_of_block h
theorem ScAt.keep (h:ScAt w x s) (e:w'.heap[x]?=w.heap[x]?):ScAt w' x s:=e.trans h
theorem ScAt.on (h:ScAt w x s) (k:Bl w w'):ScAt w' x s:=h.keep (k.block x h.lt)
theorem ScAt.cells (h:ScAt w x s):w.cell? ⟨x,0,none⟩=some (.int .i64 s.B)/\w.cell? ⟨x,1,none⟩=some (.int .i64 s.H)/\w.cell? ⟨x,2,none⟩=some (.int .u64 s.D)/\w.cell? ⟨x,3,none⟩=some (.int .i64 s.P)/\w.cell? ⟨x,4,none⟩=some (.int .i64 s.Q)/\x<w.heap.size/\w.frozen? ⟨x,3,none⟩=false/\w.frozen? ⟨x,4,none⟩=false :=
 ⟨by rw[zR w x 0 _ _ _ h];rfl,by rw[zR w x 1 _ _ _ h];rfl,by rw[zR w x 2 _ _ _ h];rfl,by rw[zR w x 3 _ _ _ h];rfl,by rw[zR w x 4 _ _ _ h];rfl,lt_of_block h,zZ w x 3 _ _ h,zZ w x 4 _ _ h⟩
theorem ScAt.setP (h:ScAt w x s) (v:Int):ScAt (w.setCell ⟨x,3,none⟩ (.int .i64 v)) x ⟨s.B,s.H,s.D,v,s.Q⟩:=(zS w x 3 _ _ _ h).trans rfl
theorem ScAt.setQ (h:ScAt w x s) (v:Int):ScAt (w.setCell ⟨x,4,none⟩ (.int .i64 v)) x ⟨s.B,s.H,s.D,s.P,v⟩:=(zS w x 4 _ _ _ h).trans rfl
theorem aA7 (h:ScAt w x s):Calls Tryz.prog 264 #[.pointer (some ⟨x,0,none⟩)] w fun e w'=>e=.returned (.bool (mayH s.H))/\w'=w:=by
 obtain⟨h0,h1,h2,h3,h4,h5,_⟩:=h.cells;clear h;unfold mayH
 by_cases q1:1<=s.H
 ·by_cases q2:s.H<=8
  ·go_enter Tryz.func264,Tryz.ntmps264
   go_wp2
   go_ret;exact⟨by first | (simp;done) | (simp;omega),rfl⟩
  ·go_enter Tryz.func264,Tryz.ntmps264
   go_wp2
   go_ret;exact⟨by first | (simp;done) | (simp;omega),rfl⟩
 ·go_enter Tryz.func264,Tryz.ntmps264
  go_wp2
  go_ret;exact⟨by first | (simp;done) | (simp;omega),rfl⟩
theorem am2 (h:ScAt w x s):Calls Tryz.prog 263 #[.pointer (some ⟨x,0,none⟩)] w fun e w'=>e=.returned (.bool (mayH s.H && decide (s.P=s.H)))/\Bl w w':=by
 obtain⟨h0,h1,h2,h3,h4,h5,_⟩:=h.cells;have HY:=zH (aA7 (h.on (av4 (zF _ _))));clear h
 cases hm:mayH s.H
 ·rw[hm]at HY
  have q:=hm;go_enter Tryz.func263,Tryz.ntmps263
  go_wp2
  refine a05 (fun w'=>w'.cell? ⟨x,1,none⟩=some (.int .i64 s.H)/\w'.cell? ⟨x,3,none⟩=some (.int .i64 s.P)) ((0,true)::(1,false)::(2,true)::(3,true)::(4,true)::(5,true)::(6,true)::(7,true)::(8,true)::(9,true)::(10,true)::(11,true)::(12,true)::(13,true)::[]) follows13 (by kernel_rfl) (fun _ _ _ _ _ h=>h) ⟨h1,h3⟩ ?_
  repeat (first | (refine a02 (v:=?_) rfl (by rfl) (fun wq hSq=>?_) ?_;rotate_left;(focus ((try dsimp only at hSq);go_simp;try with_reducible rfl));simp only[Act.put,zA,zB,zC]) | (refine a03 rfl (by rfl) ?_;simp only[Act.put,zA,zB,zC]))
  refine a04 rfl (by rfl) (fun KK hK=>?_)
  go_simp
  refine HY.out.mono ?_;rintro e w1 ⟨rfl,hw⟩;subst w1;refine hK.out _ _ ⟨h1,h3⟩ ?_;clear hK KK
  try simp only[Act.put,zA,zB,zC]
  repeat (first | (refine a02 (v:=?_) rfl (by rfl) (fun wq hSq=>?_) ?_;rotate_left;(focus ((try dsimp only at hSq);go_simp;try with_reducible rfl));simp only[Act.put,zA,zB,zC]) | (refine a03 rfl (by rfl) ?_;simp only[Act.put,zA,zB,zC]))
  refine a07 ?_
  go_wp2
  go_ret;exact⟨by first | rfl | simp[q],av4 (zF _ _)⟩
 ·rw[hm]at HY
  by_cases q:s.P=s.H
  ·rw[zT q]
   go_enter Tryz.func263,Tryz.ntmps263
   go_wp2
   refine a05 (fun w'=>w'.cell? ⟨x,1,none⟩=some (.int .i64 s.H)/\w'.cell? ⟨x,3,none⟩=some (.int .i64 s.P)) ((0,true)::(1,false)::(2,true)::(3,true)::(4,true)::(5,true)::(6,true)::(7,true)::(8,true)::(9,true)::(10,true)::(11,true)::(12,true)::(13,true)::[]) follows13 (by kernel_rfl) (fun _ _ _ _ _ h=>h) ⟨h1,h3⟩ ?_
   repeat (first | (refine a02 (v:=?_) rfl (by rfl) (fun wq hSq=>?_) ?_;rotate_left;(focus ((try dsimp only at hSq);go_simp;try with_reducible rfl));simp only[Act.put,zA,zB,zC]) | (refine a03 rfl (by rfl) ?_;simp only[Act.put,zA,zB,zC]))
   refine a04 rfl (by rfl) (fun KK hK=>?_)
   go_simp
   refine HY.out.mono ?_;rintro e w1 ⟨rfl,hw⟩;subst w1;refine hK.out _ _ ⟨h1,h3⟩ ?_;clear hK KK
   try simp only[Act.put,zA,zB,zC]
   repeat (first | (refine a02 (v:=?_) rfl (by rfl) (fun wq hSq=>?_) ?_;rotate_left;(focus ((try dsimp only at hSq);go_simp;try with_reducible rfl));simp only[Act.put,zA,zB,zC]) | (refine a03 rfl (by rfl) ?_;simp only[Act.put,zA,zB,zC]))
   refine a07 ?_
   go_wp2
   go_ret;exact⟨by first | rfl | simp[q],av4 (zF _ _)⟩
  ·rw[zU q]
   go_enter Tryz.func263,Tryz.ntmps263
   go_wp2
   refine a05 (fun w'=>w'.cell? ⟨x,1,none⟩=some (.int .i64 s.H)/\w'.cell? ⟨x,3,none⟩=some (.int .i64 s.P)) ((0,true)::(1,false)::(2,true)::(3,true)::(4,true)::(5,true)::(6,true)::(7,true)::(8,true)::(9,true)::(10,true)::(11,true)::(12,true)::(13,true)::[]) follows13 (by kernel_rfl) (fun _ _ _ _ _ h=>h) ⟨h1,h3⟩ ?_
   repeat (first | (refine a02 (v:=?_) rfl (by rfl) (fun wq hSq=>?_) ?_;rotate_left;(focus ((try dsimp only at hSq);go_simp;try with_reducible rfl));simp only[Act.put,zA,zB,zC]) | (refine a03 rfl (by rfl) ?_;simp only[Act.put,zA,zB,zC]))
   refine a04 rfl (by rfl) (fun KK hK=>?_)
   go_simp
   refine HY.out.mono ?_;rintro e w1 ⟨rfl,hw⟩;subst w1;refine hK.out _ _ ⟨h1,h3⟩ ?_;clear hK KK
   try simp only[Act.put,zA,zB,zC]
   repeat (first | (refine a02 (v:=?_) rfl (by rfl) (fun wq hSq=>?_) ?_;rotate_left;(focus ((try dsimp only at hSq);go_simp;try with_reducible rfl));simp only[Act.put,zA,zB,zC]) | (refine a03 rfl (by rfl) ?_;simp only[Act.put,zA,zB,zC]))
   refine a07 ?_
   go_wp2
   go_ret;exact⟨by first | rfl | simp[q],av4 (zF _ _)⟩
theorem aO7 (h:ScAt w x s) (v:Int):Calls Tryz.prog 278 #[.pointer (some ⟨x,0,none⟩),.int .u64 v] w fun e w'=>e=.returned (.bool (letB s.D v))/\w'=w:=by
 obtain⟨h0,h1,h2,h3,h4,h5,_⟩:=h.cells;clear h;unfold letB
 by_cases q1:v=0
 ·rw[zT q1,Bool.true_or]
  go_enter Tryz.func278,Tryz.ntmps278
  go_wp2
  go_ret;exact⟨by simp,rfl⟩
 ·rw[zU q1,Bool.false_or]
  by_cases q2:s.D<v
  ·rw[zT q2]
   go_enter Tryz.func278,Tryz.ntmps278
   go_wp2
   go_ret;exact⟨by simp,rfl⟩
  ·rw[zU q2]
   go_enter Tryz.func278,Tryz.ntmps278
   go_wp2
   go_ret;exact⟨by simp[q1],rfl⟩
theorem look_any (a0 a1 a2 a3 a4 a5 t d:Int) (w:World):Calls Tryz.prog 229 #[plnV a0 a1 a2 a3 a4 a5,.int .i64 t,.int .u64 d] w fun e w'=>∃ x,e=.returned (.pointer (some ⟨x,0,none⟩))/\w.heap.size<=x/\ScAt w' x ⟨a3,t,d,0,0⟩/\Bl w w':=by
 unfold plnV;go_enter Tryz.func229,Tryz.ntmps229
 go_wp2
 go_ret;exact⟨_,rfl,by simp,a91 (by simp),ad6 (ad6 (zF _ _) _) _⟩
end
section
variable {w:World} {b g x:Nat} {ws:List Int} {o:Bool} {n:Int} {s:Ss}
theorem ScAt.ne (h:ScAt w x s) (m:MemAt 145 w b g ws o n):x≠b/\x≠g:=⟨ne_ty h m.box rfl,ne_ty h m.row rfl⟩
theorem bk1 (h:MemAt 145 w b g ws o n) (hx:ScAt w x s) {k m:Nat} (hk:s.P=k) (hm:s.H=m) (hkm:k<m) (hm8:m<=8) {er:Int} (her:errA ws o (plc s.B s.P)=er):Calls Tryz.prog 265 #[.pointer (some ⟨x,0,none⟩),.pointer (some ⟨b,0,none⟩)] w fun e w'=>e=.returned (.int .i64 er)/\MemAt 145 w' b g ws (a49 ws o (plc s.B s.P)) (a48 ws o (plc s.B s.P) n)/\ScAt w' x (if er=0 then sN s (toldW ws o (plc s.B s.P)) else s)/\Ch3 b g x w w':=by
 have HN:=zH (hx.ne h);have HM:=zH h;have HX:=zH hx;have HPL:=zH (a67 s.B k (zT (by omega)));obtain⟨h0,h1,h2,h3,h4,h5,h6,h7⟩:=hx.cells;rw[hk]at h3;rw[hm]at h1;have HLD:=zH (fun w1 (hb:Bl w w1)=>a92 (h.on hb) (plc s.B k));have HHK:=zH hk;rw[hk]at her ⊢;rw[her]at HLD;have HER:=zH her;clear h hx hk hm her;go_enter Tryz.func265,Tryz.ntmps265
 go_wp2
 go_step3
 go_wp2
 go_step3
 go_wp2
 go_loopw [12] (fun vi wr=>∃ i:Nat,vi=.int .i64 i/\wr=w/\i<=k) (fun vi _=>k - (intOf vi).toNat)
 case atStart=>exact⟨0,rfl,rfl,zV _⟩
 case round =>
  obtain⟨i,rfl,rfl,hi⟩:=hrel;have him:(i:Int)<(m:Int):=by omega
  by_cases hlt:i<k
  ·have hlt':(i:Int)<(k:Int):=by omega
   go_wp2
   exact⟨⟨i+1,by first | rfl | (congr 1),by trivial,by omega⟩,by simp[intOf];omega⟩
  ·have e:i=k:=by omega
   subst e;have hlt':¬ (i:Int)<(i:Int):=by omega
   clear hlt hi
   by_cases q:er=0
   ·subst q
    obtain⟨v,hv⟩:∃ v,toldW ws o (plc s.B i)=v:=⟨_,rfl⟩
    rw[hv]at HLD;have HV:=zH hv;clear hv
    cases hl:letB s.D v
    ·go_wp2_with (first
      | (go_at_call 277;refine(HPL.out _).mono ?_;rintro e w1 ⟨rfl,hb⟩;have HB:=zH hb;clear hb)
      | (go_at_call 207;refine(HLD.out _ HB.out).mono ?_;rintro e w2 ⟨rfl,hm,hc⟩;have HM2:=zH hm;have HC2:=zH (a68 HB.out hc);have HX2:=zH (HX.out.keep (HC2.out.block x h5 HN.out.1 HN.out.2));obtain⟨k0,k1,k2,k3,k4,k5,k6,k7⟩:=HX2.out.cells;clear hm hc)
      | (go_at_call 278;refine(aO7 HX2.out v).mono ?_;rw[hl];rintro e w3 ⟨rfl,hw⟩;subst w3))
     try rw[Exit.noGoto_ret]
     go_ret;rw[if_pos rfl,HV.out,sN,hl];exact⟨rfl,HM2.out.other HN.out.1.symm HN.out.2.symm _ _,HX2.out.setQ _,((Ch3.refl _ _ _ _).chg HC2.out).set _ _⟩
    ·go_wp2_with (first
      | (go_at_call 277;refine(HPL.out _).mono ?_;rintro e w1 ⟨rfl,hb⟩;have HB:=zH hb;clear hb)
      | (go_at_call 207;refine(HLD.out _ HB.out).mono ?_;rintro e w2 ⟨rfl,hm,hc⟩;have HM2:=zH hm;have HC2:=zH (a68 HB.out hc);have HX2:=zH (HX.out.keep (HC2.out.block x h5 HN.out.1 HN.out.2));obtain⟨k0,k1,k2,k3,k4,k5,k6,k7⟩:=HX2.out.cells;clear hm hc)
      | (go_at_call 278;refine(aO7 HX2.out v).mono ?_;rw[hl];rintro e w3 ⟨rfl,hw⟩;subst w3))
     try rw[Exit.noGoto_ret]
     go_ret;rw[if_pos rfl,HV.out,sN,hl,HHK.out];exact⟨rfl,HM2.out.other HN.out.1.symm HN.out.2.symm _ _,HX2.out.setP _,((Ch3.refl _ _ _ _).chg HC2.out).set _ _⟩
   ·go_wp2_with (first
     | (go_at_call 277;refine(HPL.out _).mono ?_;rintro e w1 ⟨rfl,hb⟩;have HB:=zH hb;clear hb)
     | (go_at_call 207;refine(HLD.out _ HB.out).mono ?_;rintro e w2 ⟨rfl,hm,hc⟩;have HM2:=zH hm;have HC2:=zH (a68 HB.out hc);have HX2:=zH (HX.out.keep (HC2.out.block x h5 HN.out.1 HN.out.2));clear hm hc))
    try rw[Exit.noGoto_ret]
    go_ret;rw[if_neg q];exact⟨rfl,HM2.out,HX2.out,(Ch3.refl _ _ _ _).chg HC2.out⟩
end
section
variable {w:World} {b g x:Nat} {ws:List Int} {o:Bool} {n:Int} {s:Ss}
theorem aU6 (hx:ScAt w x s) (hm:mayH s.H=true) (hp:s.P=s.H) (b:Nat):Calls Tryz.prog 243 #[.pointer (some ⟨x,0,none⟩),.pointer (some ⟨b,0,none⟩)] w fun e w'=>e=.returned (.tuple #[.bool false,.int .i64 3])/\Bl w w':=by
 have HO:=zH (am2 hx);rw[hm,zT hp]at HO;clear hx hm hp;go_enter Tryz.func243,Tryz.ntmps243
 go_wp2_with (go_at_call 263;refine HO.out.mono ?_;rintro e w1 ⟨rfl,hb⟩;have HB:=zH hb;clear hb)
 go_ret2;exact⟨rfl,HB.out⟩
theorem b78 (hx:ScAt w x s) (hm:mayH s.H=false) (b:Nat):Calls Tryz.prog 243 #[.pointer (some ⟨x,0,none⟩),.pointer (some ⟨b,0,none⟩)] w fun e w'=>e=.returned (.tuple #[.bool false,.int .i64 100])/\Bl w w':=by
 have HO:=zH (am2 hx);rw[hm,Bool.false_and]at HO;have HY:=zH (fun w1 (hb:Bl w w1)=>aA7 (hx.on hb));rw[hm]at HY;clear hx hm;go_enter Tryz.func243,Tryz.ntmps243
 go_wp2_with (first
  | (go_at_call 263;refine HO.out.mono ?_;rintro e w1 ⟨rfl,hb⟩;have HB:=zH hb;clear hb)
  | (go_at_call 264;refine(HY.out _ HB.out).mono ?_;rintro e w2 ⟨rfl,hw⟩;subst w2))
 go_ret2;exact⟨rfl,HB.out⟩
theorem bl2 (h:MemAt 145 w b g ws o n) (hx:ScAt w x s) (hok:SOk s) (hm:mayH s.H=true) (hp:s.P≠s.H) {er:Int} (her:errA ws o (plc s.B s.P)=er):Calls Tryz.prog 243 #[.pointer (some ⟨x,0,none⟩),.pointer (some ⟨b,0,none⟩)] w fun e w'=>e=.returned (.tuple #[.bool (decide (er=0) && decide ((sN s (toldW ws o (plc s.B s.P))).P=s.H)),.int .i64 er])/\MemAt 145 w' b g ws (a49 ws o (plc s.B s.P)) (a48 ws o (plc s.B s.P) n)/\ScAt w' x (if er=0 then sN s (toldW ws o (plc s.B s.P)) else s)/\Ch3 b g x w w':=by
 have HO:=zH (am2 hx);rw[hm,zU hp]at HO;have HY:=zH (fun w1 (hb:Bl w w1)=>aA7 (hx.on hb));rw[hm]at HY;have h1:=zP hm;have h2:=hok.p;have h3:=hok.h hm;have HA:=zH (fun w1 (hb:Bl w w1)=>bk1 (h.on hb) (hx.on hb) (k:=s.P.toNat) (m:=s.H.toNat) (by omega) (by omega) (by omega) (by omega) her);have HS:=zH (bk0 s (toldW ws o (plc s.B s.P)));have HM0:=zH hm
 generalize sN s (toldW ws o (plc s.B s.P))=s2 at *
 clear h hx hm her h1 h2 h3 hok hp
 by_cases q:er=0
 ·subst q
  rw[if_pos rfl]at HA;rw[if_pos rfl,zT rfl,Bool.true_and];go_enter Tryz.func243,Tryz.ntmps243
  go_wp2_with (first
   | (go_at_call 263;refine HO.out.mono ?_;rintro e w1 ⟨rfl,hb⟩;have HB:=zH hb;clear hb HO)
   | (go_at_call 264;refine(HY.out _ HB.out).mono ?_;rintro e w2 ⟨rfl,hw⟩;subst w2)
   | (go_at_call 265;refine(HA.out _ HB.out).mono ?_;rintro e w2 ⟨rfl,hm,hx,hc⟩;have HM2:=zH hm;have HX2:=zH hx;have HC2:=zH ((Ch3.refl _ _ _ _).on HB.out |>.trans hc);clear hm hx hc)
   | (go_at_call 263;refine(am2 HX2.out).mono ?_;rw[HS.out.2.1,HM0.out,Bool.true_and];rintro e w3 ⟨rfl,hb⟩;have HB3:=zH hb;clear hb))
  go_ret2;exact⟨rfl,HM2.out.on HB3.out,HX2.out.on HB3.out,HC2.out.on HB3.out⟩
 ·rw[if_neg q]at HA
  rw[if_neg q,zU q,Bool.false_and];go_enter Tryz.func243,Tryz.ntmps243
  go_wp2_with (first
   | (go_at_call 263;refine HO.out.mono ?_;rintro e w1 ⟨rfl,hb⟩;have HB:=zH hb;clear hb HO)
   | (go_at_call 264;refine(HY.out _ HB.out).mono ?_;rintro e w2 ⟨rfl,hw⟩;subst w2)
   | (go_at_call 265;refine(HA.out _ HB.out).mono ?_;rintro e w2 ⟨rfl,hm,hx,hc⟩;have HM2:=zH hm;have HX2:=zH hx;have HC2:=zH ((Ch3.refl _ _ _ _).on HB.out |>.trans hc);clear hm hx hc))
  go_ret2;exact⟨rfl,HM2.out,HX2.out,HC2.out⟩
theorem sstep_any (h:MemAt 145 w b g ws o n) (hx:ScAt w x s) (hok:SOk s):Calls Tryz.prog 243 #[.pointer (some ⟨x,0,none⟩),.pointer (some ⟨b,0,none⟩)] w fun e w'=>e=.returned (.tuple #[.bool (sO s ws o),.int .i64 (sE s ws o)])/\MemAt 145 w' b g ws (sP s ws o) (sQ s ws o n)/\ScAt w' x (sC s ws o)/\Ch3 b g x w w':=by
 cases hm:mayH s.H
 ·have e:sE s ws o=100:=by simp[sE,hm]
  unfold sO sP sQ sC;rw[e];refine(b78 hx hm b).mono ?_;rintro r w' ⟨rfl,hb⟩;exact⟨by simp,by simpa using h.on hb,by simpa using hx.on hb,(Ch3.refl _ _ _ _).on hb⟩
 ·by_cases h3:s.P=s.H
  ·have e:sE s ws o=3:=by simp[sE,hm,h3]
   unfold sO sP sQ sC;rw[e];refine(aU6 hx hm h3 b).mono ?_;rintro r w' ⟨rfl,hb⟩;exact⟨by simp,by simpa using h.on hb,by simpa using hx.on hb,(Ch3.refl _ _ _ _).on hb⟩
  ·have e:sE s ws o=errA ws o (plc s.B s.P):=by simp[sE,h3,hm]
   unfold sO sP sQ sC;rw[e];refine(bl2 h hx hok hm h3 rfl).mono ?_;rintro r w' ⟨rfl,hm',hx',hch⟩
   by_cases q:errA ws o (plc s.B s.P)=0
   ·have f:=ok_facts q
    rw[f.2.1,f.2.2.1]at hm';rw[if_pos q,f.2.2.2.1]at hx';rw[f.2.2.2.1,if_pos q,if_pos q,if_pos q];exact⟨rfl,hm',hx',hch⟩
   ·have f:=ar2 q
    rw[f.2.1,f.2.2.1]at hm';rw[if_neg q]at hx';rw[zU q,if_neg q,if_neg q,if_neg q];exact⟨rfl,hm',hx',hch⟩
theorem stampM_any (h:MemAt 145 w b g ws o n) (a0 a1 a2 a3 a4 a5:Int):Calls Tryz.prog 208 #[.pointer (some ⟨b,0,none⟩),plnV a0 a1 a2 a3 a4 a5] w fun e w'=>e=.returned (.tuple #[.int .u64 (toldW ws o a2),.int .i64 (errA ws o a2)])/\MemAt 145 w' b g ws (a49 ws o a2) (a48 ws o a2 n)/\Chg b g w w':=by
 unfold plnV;have HM:=zH h;clear h;go_enter Tryz.func208,Tryz.ntmps208
 go_wp2_with (go_at_call 207;refine(a92 (HM.out.alloc _) _).mono ?_;rintro e w' ⟨rfl,hm,hc⟩;have HX:=zH (And.intro hm (((Chg.refl b g w).alloc _).trans hc));clear hm hc)
 go_ret2;exact⟨rfl,HX.out⟩
theorem publish_any (h:MemAt 145 w b g ws o n) (a0 a1 a2 a3 a4 a5 v:Int):Calls Tryz.prog 279 #[.pointer (some ⟨b,0,none⟩),plnV a0 a1 a2 a3 a4 a5,.int .u64 v] w fun e w'=>e=.returned (.int .i64 (errA ws o a2))/\MemAt 145 w' b g (stored ws o a2 v) (a49 ws o a2) (a48 ws o a2 n)/\Chg b g w w':=by
 unfold plnV;have HM:=zH h;clear h;go_enter Tryz.func279,Tryz.ntmps279
 go_wp2_with (go_at_call 262;refine(ae6 (HM.out.alloc _) _ _).mono ?_;rintro e w' ⟨rfl,hm,hc⟩;have HX:=zH (And.intro hm (((Chg.refl b g w).alloc _).trans hc));clear hm hc)
 go_ret;exact⟨rfl,HX.out⟩
def lE (ws:List Int) (o:Bool) (p t:Int):Int:=if may8 t then errA ws o (plc p t) else 100
def lW (ws:List Int) (o:Bool) (p t:Int):List Int:=if may8 t then stored ws o (plc p t) 0 else ws
def lO (ws:List Int) (o:Bool) (p t:Int):Bool:=if may8 t then a49 ws o (plc p t) else o
def lC (ws:List Int) (o:Bool) (p t n:Int):Int:=if may8 t then a48 ws o (plc p t) n else n
theorem leave_any (h:MemAt 145 w b g ws o n) (a0 a1 a2 a3 a4 a5 t:Int):Calls Tryz.prog 342 #[.pointer (some ⟨b,0,none⟩),plnV a0 a1 a2 a3 a4 a5,.int .i64 t] w fun e w'=>e=.returned (.int .i64 (lE ws o a3 t))/\MemAt 145 w' b g (lW ws o a3 t) (lO ws o a3 t) (lC ws o a3 t n)/\Chg b g w w':=by
 unfold plnV lE lW lO lC;have HM:=zH h;clear h;have HY:=zH (a94 a3 t)
 cases hm:may8 t
 ·simp only[hm]at HY
  go_enter Tryz.func342,Tryz.ntmps342
  go_wp2_with (go_at_call 344;refine(HY.out _).mono ?_;rintro e w1 ⟨rfl,hb⟩;have HB:=zH (a53 (ad6 (ad6 (zF w.heap.size w) _) _) hb);clear hb)
  go_ret;exact⟨rfl,HM.out.on HB.out,a68 HB.out (Chg.refl _ _ _)⟩
 ·simp only[hm]at HY
  have HPL:=zH (a67 a3 t hm);go_enter Tryz.func342,Tryz.ntmps342
  go_wp2_with (first
   | (go_at_call 344;refine(HY.out _).mono ?_;rintro e w1 ⟨rfl,hb⟩;have HB:=zH (a53 (ad6 (ad6 (zF w.heap.size w) _) _) hb);obtain⟨z0,z1⟩:w1.cell? ⟨w.heap.size+1,0,none⟩=some (.int .i64 a3)/\w1.cell? ⟨w.heap.size+1,1,none⟩=some (.int .i64 t):=⟨(hb.cell (p:=⟨w.heap.size+1,0,none⟩) (by simp)).trans (by simp[go_sem]),(hb.cell (p:=⟨w.heap.size+1,1,none⟩) (by simp)).trans (by simp[go_sem])⟩;clear hb)
   | (go_at_call 277;refine(HPL.out _).mono ?_;rintro e w2 ⟨rfl,hb⟩;have HB2:=zH (a53 HB.out hb);clear hb)
   | (go_at_call 262;refine(ae6 (HM.out.on HB2.out) _ _).mono ?_;rintro e w3 ⟨rfl,hm3,hc⟩;have HX:=zH (And.intro hm3 (a68 HB2.out hc));clear hm3 hc))
  go_ret;exact⟨rfl,HX.out⟩
end
end Go.Proofs.YtlkldgopliablaaGreatDoor.Md.Cv
namespace Go.Proofs.YtlkldgopliablaaGreatDoor.Rr
open Go.ChangeShapes Go.WideShapes Go.ChangeAt Go.RowKit Num
structure Rx where
 a:Int
 b:Int
 th:Int
 tag:Int
 args:List Nat
 m:Mac
 steps:Int
 part:Nat
 sub:Nat
 claim:Int
 stamp:Int
 cell:Int
 ver:Int
 now:Int
def u64B (v:Int):Prop:=0<=v/\v<18446744073709551616
def okW (ws:List Int):Prop:=∀ v∈ws,u64B v
theorem okW.at {ws:List Int} (h:okW ws) (i:Int):u64B (wordAt ws i):=by
 unfold wordAt;rw[zG]
 cases e:ws[i.toNat]? with
 | none=>exact⟨by decide,by decide⟩
 | some v=>exact h v (List.mem_of_getElem? e)
theorem okW.set {ws:List Int} (h:okW ws) (i:Nat) {v:Int} (hv:u64B v):okW (ws.set i v):=fun u hu=>(List.mem_or_eq_of_mem_set hu).elim (h u) (fun e=>e ▸ hv)
theorem au6 (v:Int):u64B (Md.Cv.passV v):=by
 unfold Md.Cv.passV u64B;rw[IntKind.wrap_u64];omega
def plW (x:Rx):Int:=3+x.b+3*x.a
def atW (x:Rx) (j:Int):Int:=3+x.b+3*x.cell+j
def a33 (x:Rx) (ws:List Int):Rx :=
 if x.sub=0 then { x with ver:=wordAt ws (atW x 0),sub:=if x.stamp<wordAt ws (atW x 0) then 3 else 1 }
 else if x.sub=1 then { x with now:=wordAt ws (atW x 1),sub:=2 }
 else if x.sub=2 then (if wordAt ws (atW x 0)=x.ver then { x with m:=a71 x.m (fixB x.now.toNat),cell:=-1,sub:=3 } else { x with sub:=3 })
 else { x with m:=a71 x.m (fixB (wordAt ws (atW x 2)).toNat),cell:=-1 }
def begX (x:Rx):Rx:={ x with m:=(a08 x.m).1,cell:=(a08 x.m).2.cell,sub:=0 }
def runX (x:Rx) (ws:List Int):Rx × Bool :=
 if 0<=x.cell then (a33 x ws,true)
 else if (a08 x.m).2.kind=1 then (a33 (begX x) ws,true)
 else ({ x with m:=(a08 x.m).1,part:=if (a08 x.m).2.kind=4 then 3 else 2 },false)
def a29 (x:Rx):Rx:={ x with steps:=x.steps+1 }
def a63 (x:Rx) (ws:List Int):Rx × List Int :=
 if x.sub=0 then ({ x with claim:=wordAt ws 2,sub:=1 },ws)
 else if x.sub=1 then ({ x with sub:=2 },ws.set (3+x.th).toNat (Md.Cv.passV x.claim))
 else ({ x with stamp:=wordAt ws 2,part:=2 },ws)
def ap7 (x:Rx):Rx:={ x with part:=4 }
def a25 (x:Rx) (ws:List Int):Rx × List Int × Bool :=
 if x.part=1 then ((a63 (a29 x) ws).1,(a63 (a29 x) ws).2,true)
 else if x.part=3 then (ap7 (a29 x),ws.set (3+x.th).toNat 0,true)
 else ((runX (a29 x) ws).1,ws,(runX (a29 x) ws).2)
structure Alike (x y:Rx):Prop where
 a:y.a=x.a
 b:y.b=x.b
 th:y.th=x.th
 tag:y.tag=x.tag
 args:y.args=x.args
 fuel:y.m.fuel=x.m.fuel
structure In0 (x:Rx):Prop where
 ca:1<=x.a/\x.a<=256
 cb:1<=x.b/\x.b<=8
 cel:x.m.cells=x.a
 th:0<=x.th/\x.th<x.b
 inv:Inv x.m
 few:x.args.length<=8
 part:1<=x.part/\x.part<=4
 p1:x.part=1->x.sub<=2/\x.cell=-1/\x.stamp=0/\(x.sub=0->x.claim=0)/\x.m.how=0/\¬ 0<=x.m.wait
 p2:x.part=2->x.m.how=0/\((x.cell=-1/\¬ 0<=x.m.wait)∨(0<=x.cell/\x.m.wait=x.cell/\1<=x.sub/\x.sub<=3))
 p3:x.part=3∨x.part=4->x.m.how≠0/\x.cell=-1/\¬ 0<=x.m.wait
 k:u64B x.claim
 s:u64B x.stamp
 v:u64B x.ver
 n:u64B x.now
structure InX (x:Rx):Prop extends In0 x where
 pos:0<=x.steps
 s1:x.part=1->x.steps=x.sub
 s2:x.part=2->(x.cell=-1->x.steps<=3+4*x.m.used)/\(0<=x.cell->x.steps<=4*x.m.used - 1+x.sub)
 s3:x.part=3->x.steps<=4*x.m.fuel+4
 s4:x.part=4->x.steps<=4*x.m.fuel+5
theorem In0.tick {x:Rx} (h:In0 x):In0 (a29 x):=⟨h.ca,h.cb,h.cel,h.th,h.inv,h.few,h.part,h.p1,h.p2,h.p3,h.k,h.s,h.v,h.n⟩
section
variable {x:Rx} {ws:List Int}
theorem In0.celB (h:In0 x):-1<=x.cell/\x.cell<x.a:=by
 have h1:=h.ca;have hp:=h.part
 rcases(by omega:x.part=1∨x.part=2∨x.part=3∨x.part=4) with e | e | e | e
 ·have:=(h.p1 e).2.1;omega
 ·rcases(h.p2 e).2 with q | q
  ·omega
  ·have:=h.inv.wait
   have:=h.cel;omega
 ·have:=(h.p3 (.inl e)).2.1;omega
 ·have:=(h.p3 (.inr e)).2.1;omega
theorem b06 (v:Int) (h:u64B v):fixB v.toNat<18446744073709551616:=a89 (by have:=h.2;have:=h.1;omega)
theorem b62 (hI:Inv x.m) (hc:0<=x.cell) (hw:x.m.wait=x.cell) (hs:x.sub<=3) (h0:x.m.how=0) (hn:u64B x.now) (hv:u64B x.ver) (hW:okW ws) :
  Alike x (a33 x ws)/\Inv (a33 x ws).m/\(a33 x ws).m.cells=x.m.cells/\(a33 x ws).m.how=0/\(a33 x ws).m.used=x.m.used/\(a33 x ws).part=x.part/\(a33 x ws).steps=x.steps/\(a33 x ws).stamp=x.stamp/\(a33 x ws).claim=x.claim/\u64B (a33 x ws).now/\u64B (a33 x ws).ver /\
   (((a33 x ws).cell=-1/\¬ 0<=(a33 x ws).m.wait/\x.sub ≥ 2)∨((a33 x ws).cell=x.cell/\(a33 x ws).m=x.m/\x.sub+1<=(a33 x ws).sub/\(a33 x ws).sub<=3)):=by
 have hw0:0<=x.m.wait:=by omega
 have G:∀ y:Int,u64B y->Inv (a71 x.m (fixB y.toNat))/\(a71 x.m (fixB y.toNat)).cells=x.m.cells/\(a71 x.m (fixB y.toNat)).how=0/\(a71 x.m (fixB y.toNat)).used=x.m.used/\¬ 0<=(a71 x.m (fixB y.toNat)).wait/\(a71 x.m (fixB y.toNat)).fuel=x.m.fuel:=fun y hy=>by
  obtain⟨q1,q2,q3,q4⟩:=at2 hw0 (fixB y.toNat);exact⟨aA2 hI (b06 y hy),q4.cells,q2.trans h0,q3,q1,q4.fuel⟩
 unfold a33
 split
 ·refine⟨⟨rfl,rfl,rfl,rfl,rfl,rfl⟩,hI,rfl,h0,rfl,rfl,rfl,rfl,rfl,hn,hW.at _,.inr ⟨rfl,rfl,?_,?_⟩⟩
  ·dsimp only;split <;> omega
  ·dsimp only;split <;> omega
 ·split
  ·exact⟨⟨rfl,rfl,rfl,rfl,rfl,rfl⟩,hI,rfl,h0,rfl,rfl,rfl,rfl,rfl,hW.at _,hv,.inr ⟨rfl,rfl,by dsimp only;omega,by dsimp only;omega⟩⟩
  ·split
   ·split
    ·obtain⟨q1,q2,q3,q4,q5,q6⟩:=G _ hn
     exact⟨⟨rfl,rfl,rfl,rfl,rfl,q6⟩,q1,q2,q3,q4,rfl,rfl,rfl,rfl,hn,hv,.inl ⟨rfl,q5,by omega⟩⟩
    ·exact⟨⟨rfl,rfl,rfl,rfl,rfl,rfl⟩,hI,rfl,h0,rfl,rfl,rfl,rfl,rfl,hn,hv,.inr ⟨rfl,rfl,by dsimp only;omega,by dsimp only;omega⟩⟩
   ·obtain⟨q1,q2,q3,q4,q5,q6⟩:=G (wordAt ws (atW x 2)) (hW.at _)
    exact⟨⟨rfl,rfl,rfl,rfl,rfl,q6⟩,q1,q2,q3,q4,rfl,rfl,rfl,rfl,hn,hv,.inl ⟨rfl,q5,by omega⟩⟩
theorem bE6 (h:InX x) (hp:x.part=2) (hW:okW ws):InX (runX (a29 x) ws).1/\Alike x (runX (a29 x) ws).1/\(runX (a29 x) ws).1.steps=x.steps+1/\((runX (a29 x) ws).1.part=2∨(runX (a29 x) ws).1.part=3):=by
 obtain⟨h0,hq⟩:=h.p2 hp;obtain⟨hs1,hs2⟩:=h.s2 hp;have hu:=h.inv.used;have hf:=h.inv.fuel;have hpos:=h.pos
 rcases hq with⟨hc,hw⟩ | ⟨hc,hw,hs1',hs3⟩
 ·have nc:¬ 0<=x.cell:=by omega
  have hst:=hs1 hc;obtain⟨lk,tr⟩:=ab5 h.inv hw h0;have hI:=af3 h.inv
  rcases tr with⟨k4,e1,e2⟩ | ⟨k1,e1,e2,e3,e4⟩ | ⟨k0,e1,e2,e3⟩
  ·have k1:¬ (a08 x.m).2.kind=1:=by omega
   have E:runX (a29 x) ws=({ a29 x with m:=(a08 x.m).1,part:=3 },false):=by
    unfold runX;rw[if_neg (show ¬ 0<=(a29 x).cell from nc),if_neg (show ¬ (a08 (a29 x).m).2.kind=1 from k1),if_pos (show (a08 (a29 x).m).2.kind=4 from k4)];rfl
   rw[E];exact⟨⟨⟨h.ca,h.cb,lk.cells.trans h.cel,h.th,hI,h.few,by dsimp only;omega,(fun e=>by cases e),(fun e=>by cases e),fun _=>⟨e1,hc,e2⟩,h.k,h.s,h.v,h.n⟩,by show 0<=x.steps+1;omega,(fun e=>by cases e),(fun e=>by cases e),(fun _=>by show x.steps+1<=4*(a08 x.m).1.fuel+4;rw[lk.fuel];omega),(fun e=>by cases e)⟩,⟨rfl,rfl,rfl,rfl,rfl,lk.fuel⟩,rfl,.inr rfl⟩
  ·have E:runX (a29 x) ws=(a33 (begX (a29 x)) ws,true):=by
    unfold runX;rw[if_neg (show ¬ 0<=(a29 x).cell from nc),if_pos (show (a08 (a29 x).m).2.kind=1 from k1)]
   obtain⟨q1,q2,q3,q4,q5,q6,q7,q8,q9,q10,q11,q12⟩:=b62 (x:=begX (a29 x)) (ws:=ws) hI (by show 0<=(a08 x.m).2.cell;omega) (by show (a08 x.m).1.wait=(a08 x.m).2.cell;omega) (by show (0:Nat)<=3;omega) e3 h.n h.v hW;rw[E];have s7:(a33 (begX (a29 x)) ws).steps=x.steps+1:=q7;have s5:(a33 (begX (a29 x)) ws).m.used=x.m.used+1:=q5.trans e4;have s6:(a33 (begX (a29 x)) ws).part=2:=q6.trans hp;obtain⟨z1,z2,z3,z4⟩:(a33 (begX (a29 x)) ws).cell=(a08 x.m).2.cell/\(a33 (begX (a29 x)) ws).m=(a08 x.m).1/\1<=(a33 (begX (a29 x)) ws).sub/\(a33 (begX (a29 x)) ws).sub<=3:=by
    rcases q12 with⟨_,_,z⟩ | ⟨z1,z2,z3,z4⟩
    ·exact absurd z (by show ¬ (0:Nat) ≥ 2;omega)
    ·exact⟨z1,z2,z3,z4⟩
   refine⟨⟨⟨by rw[q1.a];exact h.ca,by rw[q1.b];exact h.cb,by rw[q3,q1.a];exact lk.cells.trans h.cel,by rw[q1.th,q1.b];exact h.th,q2,by rw[q1.args];exact h.few,by dsimp only;omega,(fun e=>by dsimp only at e;omega),fun _=>⟨q4,.inr ⟨by dsimp only;omega,by dsimp only;rw[z1,z2];omega,z3,z4⟩⟩,(fun e=>by dsimp only at e;omega),by rw[q9];exact h.k,by rw[q8];exact h.s,q11,q10⟩,by dsimp only;omega,(fun e=>by dsimp only at e;omega),fun _=>⟨fun e=>by dsimp only at e;omega,fun _=>by dsimp only;omega⟩,(fun e=>by dsimp only at e;omega),(fun e=>by dsimp only at e;omega)⟩,⟨q1.a,q1.b,q1.th,q1.tag,q1.args,q1.fuel.trans lk.fuel⟩,s7,.inl s6⟩
  ·have k1:¬ (a08 x.m).2.kind=1:=by omega
   have k4:¬ (a08 x.m).2.kind=4:=by omega
   have E:runX (a29 x) ws=({ a29 x with m:=(a08 x.m).1,part:=2 },false):=by
    unfold runX;rw[if_neg (show ¬ 0<=(a29 x).cell from nc),if_neg (show ¬ (a08 (a29 x).m).2.kind=1 from k1),if_neg (show ¬ (a08 (a29 x).m).2.kind=4 from k4)];rfl
   rw[E];exact⟨⟨⟨h.ca,h.cb,lk.cells.trans h.cel,h.th,hI,h.few,by dsimp only;omega,(fun e=>by cases e),fun _=>⟨e2,.inl ⟨hc,e1⟩⟩,(fun e=>by rcases e with e | e <;> cases e),h.k,h.s,h.v,h.n⟩,by show 0<=x.steps+1;omega,(fun e=>by cases e),fun _=>⟨fun _=>by show x.steps+1<=3+4*(a08 x.m).1.used;omega,fun e=>absurd e nc⟩,(fun e=>by cases e),(fun e=>by cases e)⟩,⟨rfl,rfl,rfl,rfl,rfl,lk.fuel⟩,rfl,.inl rfl⟩
 ·have hst:=hs2 hc
  have E:runX (a29 x) ws=(a33 (a29 x) ws,true):=by
   unfold runX;rw[if_pos (show 0<=(a29 x).cell from hc)]
  obtain⟨q1,q2,q3,q4,q5,q6,q7,q8,q9,q10,q11,q12⟩:=b62 (x:=a29 x) (ws:=ws) h.inv hc hw hs3 h0 h.n h.v hW;rw[E];have s7:(a33 (a29 x) ws).steps=x.steps+1:=q7;have s5:(a33 (a29 x) ws).m.used=x.m.used:=q5;have s6:(a33 (a29 x) ws).part=2:=q6.trans hp;have Z:((a33 (a29 x) ws).cell=-1/\¬ 0<=(a33 (a29 x) ws).m.wait/\2<=x.sub)∨((a33 (a29 x) ws).cell=x.cell/\(a33 (a29 x) ws).m=x.m/\x.sub+1<=(a33 (a29 x) ws).sub/\(a33 (a29 x) ws).sub<=3):=q12;refine⟨⟨⟨by rw[q1.a];exact h.ca,by rw[q1.b];exact h.cb,by rw[q3,q1.a];exact h.cel,by rw[q1.th,q1.b];exact h.th,q2,by rw[q1.args];exact h.few,by dsimp only;omega,(fun e=>by dsimp only at e;omega),fun _=>⟨q4,?_⟩,(fun e=>by dsimp only at e;omega),by rw[q9];exact h.k,by rw[q8];exact h.s,q11,q10⟩,by dsimp only;omega,(fun e=>by dsimp only at e;omega),fun _=>⟨fun e=>?_,fun e=>?_⟩,(fun e=>by dsimp only at e;omega),(fun e=>by dsimp only at e;omega)⟩,⟨q1.a,q1.b,q1.th,q1.tag,q1.args,q1.fuel⟩,s7,.inl s6⟩
  ·rcases Z with⟨z1,z2,_⟩ | ⟨z1,z2,z3,z4⟩
   ·exact .inl ⟨z1,z2⟩
   ·exact .inr ⟨by dsimp only;rw[z1];exact hc,by dsimp only;rw[z1,z2];exact hw,by dsimp only;omega,z4⟩
  ·dsimp only at e ⊢
   rcases Z with⟨z1,z2,_⟩ | ⟨z1,z2,z3,z4⟩
   ·omega
   ·omega
  ·dsimp only at e ⊢
   rcases Z with⟨z1,z2,_⟩ | ⟨z1,z2,z3,z4⟩
   ·omega
   ·omega
theorem step_in (h:InX x) (hp:x.part≠4) (hW:okW ws):InX (a25 x ws).1/\Alike x (a25 x ws).1/\(a25 x ws).1.steps=x.steps+1/\okW (a25 x ws).2.1/\(a25 x ws).2.1.length=ws.length:=by
 have hP:=h.part;have hpos:=h.pos
 rcases(by omega:x.part=1∨x.part=2∨x.part=3) with e | e | e
 ·obtain⟨c1,c2,c3,c4,c6,c7⟩:=h.p1 e
  have c5:=h.s1 e
  rcases(by omega:x.sub=0∨x.sub=1∨x.sub=2) with d | d | d
  ·have E:a25 x ws=({ a29 x with claim:=wordAt ws 2,sub:=1 },ws,true):=by unfold a25 a63;rw[if_pos e,if_pos (show (a29 x).sub=0 from d)]
   rw[E];exact⟨⟨⟨h.ca,h.cb,h.cel,h.th,h.inv,h.few,hP,fun _=>⟨by show (1:Nat)<=2;omega,c2,c3,(fun q=>by cases q),c6,c7⟩,(fun q=>by have q':x.part=2:=q;omega),h.p3,hW.at _,h.s,h.v,h.n⟩,by show 0<=x.steps+1;omega,(fun _=>by show x.steps+1=1;omega),(fun q=>by have q':x.part=2:=q;omega),(fun q=>by have q':x.part=3:=q;omega),(fun q=>by have q':x.part=4:=q;omega)⟩,⟨rfl,rfl,rfl,rfl,rfl,rfl⟩,rfl,hW,rfl⟩
  ·have E:a25 x ws=({ a29 x with sub:=2 },ws.set (3+x.th).toNat (Md.Cv.passV x.claim),true):=by unfold a25 a63;rw[if_pos e,if_neg (show ¬ (a29 x).sub=0 by show ¬ x.sub=0;omega),if_pos (show (a29 x).sub=1 from d)];rfl
   rw[E];exact⟨⟨⟨h.ca,h.cb,h.cel,h.th,h.inv,h.few,hP,fun _=>⟨by show (2:Nat)<=2;omega,c2,c3,(fun q=>by cases q),c6,c7⟩,(fun q=>by have q':x.part=2:=q;omega),h.p3,h.k,h.s,h.v,h.n⟩,by show 0<=x.steps+1;omega,(fun _=>by show x.steps+1=2;omega),(fun q=>by have q':x.part=2:=q;omega),(fun q=>by have q':x.part=3:=q;omega),(fun q=>by have q':x.part=4:=q;omega)⟩,⟨rfl,rfl,rfl,rfl,rfl,rfl⟩,rfl,hW.set _ (au6 _),by simp⟩
  ·have E:a25 x ws=({ a29 x with stamp:=wordAt ws 2,part:=2 },ws,true):=by unfold a25 a63;rw[if_pos e,if_neg (show ¬ (a29 x).sub=0 by show ¬ x.sub=0;omega),if_neg (show ¬ (a29 x).sub=1 by show ¬ x.sub=1;omega)]
   rw[E];have hu:=h.inv.used;exact⟨⟨⟨h.ca,h.cb,h.cel,h.th,h.inv,h.few,by dsimp only;omega,(fun q=>by cases q),fun _=>⟨c6,.inl ⟨c2,c7⟩⟩,(fun q=>by rcases q with q | q <;> cases q),h.k,hW.at _,h.v,h.n⟩,by show 0<=x.steps+1;omega,(fun q=>by cases q),fun _=>⟨fun _=>by show x.steps+1<=3+4*x.m.used;omega,fun q=>by have q':0<=x.cell:=q;omega⟩,(fun q=>by cases q),(fun q=>by cases q)⟩,⟨rfl,rfl,rfl,rfl,rfl,rfl⟩,rfl,hW,rfl⟩
 ·have E:a25 x ws=((runX (a29 x) ws).1,ws,(runX (a29 x) ws).2):=by unfold a25;rw[if_neg (by omega),if_neg (by omega)]
  obtain⟨q1,q2,q3,_⟩:=bE6 h e hW;rw[E];exact⟨q1,q2,q3,hW,rfl⟩
 ·have E:a25 x ws=(ap7 (a29 x),ws.set (3+x.th).toNat 0,true):=by unfold a25;rw[if_neg (by omega),if_pos e]
  obtain⟨c1,c2,c3⟩:=h.p3 (.inl e);have c4:=h.s3 e;rw[E];exact⟨⟨⟨h.ca,h.cb,h.cel,h.th,h.inv,h.few,⟨by show 1<=4;omega,by show 4<=4;omega⟩,(fun q=>by cases q),(fun q=>by cases q),fun _=>⟨c1,c2,c3⟩,h.k,h.s,h.v,h.n⟩,by show 0<=x.steps+1;omega,(fun q=>by cases q),(fun q=>by cases q),(fun q=>by cases q),(fun _=>by show x.steps+1<=4*x.m.fuel+5;omega)⟩,⟨rfl,rfl,rfl,rfl,rfl,rfl⟩,rfl,hW.set _ ⟨by decide,by decide⟩,by simp⟩
theorem InX.few_steps (h:InX x):x.steps<=4*x.m.fuel+5/\(x.part≠4->x.steps<=4*x.m.fuel+4):=by
 have hP:=h.part;have hu:=h.inv.used;have hf:=h.inv.fuel
 rcases(by omega:x.part=1∨x.part=2∨x.part=3∨x.part=4) with e | e | e | e
 ·have:=h.s1 e;have:=h.p1 e;omega
 ·have:=h.s2 e;have:=h.p2 e;omega
 ·have:=h.s3 e;omega
 ·have:=h.s4 e;omega
end
end Go.Proofs.YtlkldgopliablaaGreatDoor.Rr
namespace Go.Proofs.YtlkldgopliablaaGreatDoor.Sx
open Go.ChangeShapes Go.WideShapes Go.ChangeAt Go.RowKit Num
theorem bx0 {w:World} {p:Option Addr} {c:Nat} {l:List Nat} (h:RowAt 71 w p c (fls l)) (i:Nat) (hi:i<l.length):∃ g,p=some ⟨g,0,none⟩/\g<w.heap.size/\w.cell? ⟨g,i,none⟩=some (.float .f64 l[i])/\w.frozen? ⟨g,i,none⟩=false:=by
 have ho:=h.own;rw[a26]at ho
 rcases ho.2 with⟨_,q⟩ | ⟨g,cap,cur,hv,_,hg,_⟩
 ·omega
 ·cases hv
  refine⟨g,rfl,lt_of_block hg,?_,zZ w g i _ _ hg⟩;rw[ho.cellAt i (by omega)]
  simp[fls,hi]
def hasN (n:Nat) (i:Int):Bool:=decide (0<=i) && decide (i<(n:Int))
def getV (l:List Nat) (i:Int):Nat:=if hasN l.length i then l.getD i.toNat 0 else 0
attribute [local go_sem] a00 frombits_run a42
theorem fMake (n:Nat) (hn:n<=256) (w:World):(Instr.makeSlice 24 (.int .i64 (n:Int)) (.int .i64 (n:Int))).run Tryz.prog w=.ok (.slice (some ⟨w.heap.size,0,none⟩) n n) (w.alloc (.cells (fls (List.replicate n 0)).toArray 71)):=by
 obtain⟨i,hi,hz0,hz1,hz2⟩:=info_parts az2;rw[run_make w 24 71 i (.float .f64 0) Tryz.underlying24 hi hz0 .i64 .i64 n n (by omega) (zW _) (by rw[hz2];omega) (by omega)];have e:(madeCells (.float .f64 0:Value).cells (((n:Int)).toNat*i.size))=(fls (List.replicate n 0)).toArray:=by
  rw[hz1,Nat.mul_one,Int.toNat_natCast]
  apply Array.toList_inj.1
  rw[show (.float .f64 0:Value).cells=#[.float .f64 0] from rfl,toList_madeCells_one]
  simp[fls]
 rw[e,Int.toNat_natCast]
attribute [local go_sem] a00 frombits_run a42
attribute [local go_sem] a00 frombits_run a42
theorem row_getD {w:World} {p:Option Addr} {c:Nat} {l:List Nat} (h:RowAt 71 w p c (fls l)) (i:Nat) (hi:i<l.length):∃ g,p=some ⟨g,0,none⟩/\g<w.heap.size/\w.cell? ⟨g,i,none⟩=some (.float .f64 (l.getD i 0))/\w.frozen? ⟨g,i,none⟩=false:=by
 have:=bx0 h i hi;rwa[show l[i]=l.getD i 0 by simp[hi]]at this
attribute [local go_sem] a00 frombits_run a42
end Go.Proofs.YtlkldgopliablaaGreatDoor.Sx
namespace Go.Proofs.YtlkldgopliablaaGreatDoor
open Go.ChangeShapes Go.WideShapes Go.ChangeAt Go.RowKit Num
def goM (s:List Nat) (m:Mac):Mac:=if (a08 m).2.kind=1 then a71 (a08 m).1 (Sx.getV s (a08 m).2.cell) else (a08 m).1
def okS (s:List Nat):Prop:=∀ x∈s,okN x
theorem bs8 {s:List Nat} (h:okS s) (i:Int):okN (Sx.getV s i):=by
 unfold Sx.getV
 split
 ·exact ad5 0 a83 s h _
 ·exact a83
structure Rest (m:Mac):Prop where
 inv:Inv m
 nw:¬ 0<=m.wait
 cel:∀ t∈m.buf,0<=t.1/\t.1<m.cells
 nod:(a21 m.buf).Nodup
theorem b80 {m:Mac} (hw:¬ 0<=m.wait) (h0:m.how≠0):a08 m=(m,a55):=by
 unfold a08;rw[if_neg hw,if_neg h0]
theorem bs9 {s:List Nat} {m:Mac} (hw:¬ 0<=m.wait) (h0:m.how≠0):goM s m=m:=by
 unfold goM;rw[b80 hw h0]
 rfl
theorem bD2 {s:List Nat} {m:Mac} (h:Inv m) (hs:okS s):Inv (goM s m):=by
 unfold goM
 split
 ·exact aA2 (af3 h) (bs8 hs _).2
 ·exact af3 h
theorem bd8 {s:List Nat} {m:Mac} (h:(a08 m).2.kind=1):goM s m=a71 (a08 m).1 (Sx.getV s (a08 m).2.cell):=if_pos h
theorem az6 {s:List Nat} {m:Mac} (h:(a08 m).2.kind≠1):goM s m=(a08 m).1:=if_neg h
theorem bd9 {s:List Nat} {m:Mac} (h:Inv m) (hw:¬ 0<=m.wait) (h0:m.how=0):Like m (goM s m)/\¬ 0<=(goM s m).wait/\(((a08 m).2.kind=4/\(goM s m).how≠0)∨((a08 m).2.kind≠4/\(goM s m).how=0/\(goM s m).used=m.used+1)):=by
 obtain⟨hl,⟨k1,k2,k3⟩ | ⟨k1,k2,k3,k4,k5⟩ | ⟨k1,k2,k3,k4⟩⟩:=ab5 h hw h0
 ·rw[az6 (by rw[k1];decide)]
  exact⟨hl,k3,.inl ⟨k1,k2⟩⟩
 ·rw[bd8 k1]
  obtain⟨g1,g2,g3,g4⟩:=at2 k3 (Sx.getV s (a08 m).2.cell);exact⟨hl.trans g4,g1,.inr ⟨by rw[k1];decide,g2.trans k4,g3.trans k5⟩⟩
 ·rw[az6 (by rcases k1 with k | k | k <;> rw[k] <;> decide)]
  exact⟨hl,k2,.inr ⟨by rcases k1 with k | k | k <;> rw[k] <;> decide,k3,k4⟩⟩
theorem bo2 {s:List Nat} {m:Mac}:(goM s m).buf=(a08 m).1.buf:=by
 unfold goM
 split
 ·exact aE5 _
 ·rfl
theorem aD2 {l:Wr} {c:Int}:c∈a21 l ↔ ∃ t∈l,t.1=c:=by unfold a21;exact List.mem_map
theorem aU0 {l:Wr} {c:Int} {y:Nat} {P:Int->Prop} (h:∀ t∈l,P t.1) (hc:P c):∀ t∈putC l c y,P t.1:=fun t ht=>by
 have h1:t.1∈a21 (putC l c y):=aD2.2 ⟨t,ht,rfl⟩;rw[ah2]at h1;have h2:t.1∈a21 l∨t.1=c:=by
  split at h1
  ·exact .inl h1
  ·rcases List.mem_append.1 h1 with h | h
   ·exact .inl h
   ·exact .inr (by simpa using h)
 rcases h2 with h2 | h2
 ·obtain⟨u,hu,e⟩:=aD2.1 h2
  exact e ▸ h u hu
 ·exact h2 ▸ hc
theorem Rest.go {s:List Nat} {m:Mac} (h:Rest m) (hs:okS s):Rest (goM s m):=by
 by_cases h0:m.how=0
 ·obtain⟨hl,g1,_⟩:=bd9 (s:=s) h.inv h.nw h0
  have hb:=an2 h.inv h.nw h0;refine⟨bD2 h.inv hs,g1,?_,?_⟩
  ·rw[bo2,hl.cells]
   rcases hb with⟨_,e⟩ | ⟨_,e⟩ | ⟨_,e,_⟩ | ⟨_,e,_⟩ | ⟨_,e,_,c1,c2⟩
   iterate 4 (rw[e];exact h.cel)
   rw[e];exact aU0 (P:=fun c=>0<=c/\c<m.cells) h.cel ⟨c1,c2⟩
  ·rw[bo2]
   rcases hb with⟨_,e⟩ | ⟨_,e⟩ | ⟨_,e,_⟩ | ⟨_,e,_⟩ | ⟨_,e,_,c1,c2⟩
   iterate 4 (rw[e];exact h.nod)
   rw[e];exact aF5 h.nod
 ·rw[bs9 h.nw h0]
  exact h
theorem bh0 {a b f e t:Int} {c:List Ins} {l:List Nat} (hc:Md.cfgB a b f e=true) (hx:∀ k,k<c.length->(ci c k).x<18446744073709551616) (hl:∀ x∈l,x<18446744073709551616):Rest (newM a f e t c l) :=
 ⟨b32 hc hx hl,show ¬ (0:Int)<=-1 by decide,fun t ht=>by simp[newM]at ht,by simp[newM,a21]⟩
end Go.Proofs.YtlkldgopliablaaGreatDoor
namespace Go.Proofs.YtlkldgopliablaaGreatDoor.Ww
open Go.ChangeShapes Go.WideShapes Go.ChangeAt Go.RowKit Num Rr
structure Wx where
 a:Int
 b:Int
 th:Int
 tag:Int
 args:List Nat
 m:Mac
 steps:Int
 part:Nat
 tick:Int
 stamp:Int
 was:List Nat
 at_:Nat
 num:Int
def plY (x:Wx):Int:=3+x.b+3*x.a
def atC (x:Wx) (c j:Int):Int:=3+x.b+3*c+j
def nowN (x:Wx) (ws:List Int) (c:Int):Nat:=fixB (wordAt ws (atC x c 1)).toNat
def runY (x:Wx) (ws:List Int):Wx × Bool :=
 if (a08 x.m).2.kind=1 then ({ x with m:=a71 (a08 x.m).1 (nowN x ws (a08 x.m).2.cell) },true)
 else if (a08 x.m).2.kind=3/\(a08 x.m).2.first=true then ({ x with m:=(a08 x.m).1,was:=x.was ++ [nowN x ws (a08 x.m).2.cell] },true)
 else if (a08 x.m).2.kind=4 then ({ x with m:=(a08 x.m).1,part:=if (a08 x.m).1.how=1 then 5 else 8 },false)
 else ({ x with m:=(a08 x.m).1 },false)
def aq2 (x:Wx) (ws:List Int):Wx :=
 if wordAt ws (3+(x.at_:Int))=0∨x.stamp<wordAt ws (3+(x.at_:Int)) then
  (if ((x.at_+1:Nat):Int)=x.b then { x with at_:=0,part:=if x.m.buf.length=0 then 7 else 6 } else { x with at_:=x.at_+1 })
 else x
def aC8 (x:Wx) (ws:List Int):List Int :=
 if x.at_ % 3=0 then ws.set (atC x (x.m.buf.getD (x.at_ / 3) (0,0)).1 2).toNat ((x.was.getD (x.at_ / 3) 0:Nat):Int)
 else if x.at_ % 3=1 then ws.set (atC x (x.m.buf.getD (x.at_ / 3) (0,0)).1 0).toNat (Md.Cv.passV x.stamp)
 else ws.set (atC x (x.m.buf.getD (x.at_ / 3) (0,0)).1 1).toNat (((x.m.buf.getD (x.at_ / 3) (0,0)).2:Nat):Int)
def aR4 (x:Wx):Wx:={ x with at_:=x.at_+1,part:=if x.at_+1=3*x.m.buf.length then 7 else 6 }
def aB9 (x:Wx):Wx:={ x with steps:=x.steps+1 }
def aQ0 (x:Wx) (ws:List Int):Wx × List Int × Bool :=
 if x.part=1 then ({ x with tick:=wordAt ws 0,part:=2 },ws.set 0 (Md.Cv.passV (wordAt ws 0)),true)
 else if x.part=2 then ((if wordAt ws 1=x.tick then { x with part:=3 } else x),ws,true)
 else if x.part=3 then ({ x with stamp:=wordAt ws 2,part:=4 },ws,true)
 else if x.part=4 then ((runY x ws).1,ws,(runY x ws).2)
 else if x.part=5 then (aq2 x ws,ws,true)
 else if x.part=6 then (aR4 x,aC8 x ws,true)
 else if x.part=7 then ({ x with num:=wrap64 (Md.Cv.passV x.stamp),part:=8 },ws.set 2 (Md.Cv.passV x.stamp),true)
 else ({ x with part:=9 },ws.set 1 (Md.Cv.passV x.tick),true)
def ac9 (x:Wx) (ws:List Int):Wx × List Int × Bool:=aQ0 (aB9 x) ws
structure AlikeY (x y:Wx):Prop where
 a:y.a=x.a
 b:y.b=x.b
 th:y.th=x.th
 tag:y.tag=x.tag
 args:y.args=x.args
 lk:Like x.m y.m
theorem AlikeY.refl (x:Wx):AlikeY x x:=⟨rfl,rfl,rfl,rfl,rfl,Like.refl _⟩
structure InY (x:Wx):Prop where
 ca:1<=x.a/\x.a<=256
 cb:1<=x.b/\x.b<=8
 cel:x.m.cells=x.a
 th:0<=x.th/\x.th<x.b
 rest:Rest x.m
 few:x.args.length<=8
 part:1<=x.part/\x.part<=9
 tk:u64B x.tick
 sp:u64B x.stamp
 wlen:x.was.length=x.m.buf.length
 wok:∀ v∈x.was,okN v
 run:x.part<=4->x.m.how=0
 fin:5<=x.part->x.m.how≠0
 com:5<=x.part->x.part<=7->x.m.how=1
 at4:x.part<=4->x.at_=0
 at5:x.part=5->(x.at_:Int)<x.b
 at6:x.part=6->x.at_<3*x.m.buf.length
theorem InY.tick {x:Wx} (h:InY x):InY (aB9 x):=⟨h.ca,h.cb,h.cel,h.th,h.rest,h.few,h.part,h.tk,h.sp,h.wlen,h.wok,h.run,h.fin,h.com,h.at4,h.at5,h.at6⟩
theorem bo9 {ws:List Int} (h:okW ws) (x:Wx) (c:Int):okN (nowN x ws c):=ac4 (by have:=h.at (atC x c 1);have h1:=this.1;have h2:=this.2;omega)
section
variable {x:Wx} {ws:List Int}
theorem aH1 {m:Mac} (h:Rest m) (hk:(a08 m).2.kind≠1):Rest (a08 m).1:=by
 have:=h.go (s:=[]) (fun _ hx=>by cases hx);rw[az6 hk]at this;exact this
theorem b66 {m:Mac} (h:Rest m) (h0:m.how=0) (hk:(a08 m).2.kind=1) {v:Nat} (hv:okN v):Rest (a71 (a08 m).1 v)/\(a71 (a08 m).1 v).how=0/\Like m (a71 (a08 m).1 v)/\(a71 (a08 m).1 v).used=m.used+1/\(a71 (a08 m).1 v).buf=m.buf:=by
 obtain⟨lk,tr⟩:=ab5 h.inv h.nw h0;have hb:=an2 h.inv h.nw h0
 rcases tr with⟨k4,_⟩ | ⟨_,e1,e2,e3,e4⟩ | ⟨k0,_⟩
 ·omega
 ·obtain⟨g1,g2,g3,g4⟩:=at2 e2 v
  have eb:(a71 (a08 m).1 v).buf=m.buf:=by
   rw[aE5]
   rcases hb with⟨q,_⟩ | ⟨q,_⟩ | ⟨_,e,_⟩ | ⟨q,_⟩ | ⟨q,_⟩
   ·omega
   ·omega
   ·exact e
   ·omega
   ·omega
  refine⟨⟨aA2 (af3 h.inv) hv.2,g1,?_,?_⟩,g2.trans e3,lk.trans g4,g3.trans e4,eb⟩
  ·rw[eb,(lk.trans g4).cells];exact h.cel
  ·rw[eb];exact h.nod
 ·omega
theorem bx5 (h:InY x) (hp:x.part=4) (hW:okW ws):InY (runY x ws).1/\AlikeY x (runY x ws).1/\(runY x ws).1.steps=x.steps:=by
 have h0:=h.run (by omega);have hR:=h.rest;obtain⟨lk,tr⟩:=ab5 hR.inv hR.nw h0;have hb:=an2 hR.inv hR.nw h0;unfold runY
 by_cases k1:(a08 x.m).2.kind=1
 ·rw[if_pos k1]
  obtain⟨r1,r2,r3,r4,r5⟩:=b66 hR h0 k1 (bo9 hW x (a08 x.m).2.cell);exact⟨⟨h.ca,h.cb,r3.cells.trans h.cel,h.th,r1,h.few,h.part,h.tk,h.sp,by dsimp only;rw[r5];exact h.wlen,h.wok,fun _=>r2,(fun q=>by dsimp only at q;omega),(fun q=>by dsimp only at q;omega),h.at4,(fun q=>by dsimp only at q;omega),(fun q=>by dsimp only at q;omega)⟩,⟨rfl,rfl,rfl,rfl,rfl,r3⟩,rfl⟩
 ·rw[if_neg k1]
  have rs:=aH1 hR k1
  by_cases k3:(a08 x.m).2.kind=3/\(a08 x.m).2.first=true
  ·rw[if_pos k3]
   have hh:(a08 x.m).1.how=0:=by
    rcases tr with⟨k4,_⟩ | ⟨q,_⟩ | ⟨_,_,e,_⟩
    ·omega
    ·omega
    ·exact e
   have hl:(a08 x.m).1.buf.length=x.m.buf.length+1:=by
    rcases hb with⟨q,_⟩ | ⟨q,_⟩ | ⟨q,_⟩ | ⟨q,_⟩ | ⟨_,e,f,_⟩
    ·omega
    ·omega
    ·omega
    ·omega
    ·rw[e,ai7]
     rw[k3.2]at f;have hc:hasC x.m.buf (a08 x.m).2.cell=false:=by simpa using f.symm
     rw[hc]
     rfl
   refine⟨⟨h.ca,h.cb,lk.cells.trans h.cel,h.th,rs,h.few,h.part,h.tk,h.sp,?_,fun v hv=>?_,fun _=>hh,(fun q=>by dsimp only at q;omega),(fun q=>by dsimp only at q;omega),h.at4,(fun q=>by dsimp only at q;omega),(fun q=>by dsimp only at q;omega)⟩,⟨rfl,rfl,rfl,rfl,rfl,lk⟩,rfl⟩
   ·dsimp only
    rw[List.length_append,h.wlen,hl]
    rfl
   ·rcases List.mem_append.1 hv with q | q
    ·exact h.wok v q
    ·have q':v=nowN x ws (a08 x.m).2.cell:=by simpa using q
     rw[q'];exact bo9 hW x _
  ·rw[if_neg k3]
   have hl:(a08 x.m).1.buf.length=x.m.buf.length:=by
    rcases hb with⟨_,e⟩ | ⟨_,e⟩ | ⟨_,e,_⟩ | ⟨_,e,_⟩ | ⟨q,e,f,_⟩
    ·rw[e]
    ·rw[e]
    ·rw[e]
    ·rw[e]
    ·rw[e,ai7]
     have hc:hasC x.m.buf (a08 x.m).2.cell=true:=by
      cases hq:hasC x.m.buf (a08 x.m).2.cell with
      | true=>rfl
      | false=>exact absurd ⟨q,by rw[f,hq];rfl⟩ k3
     rw[hc]
     rfl
   by_cases k4:(a08 x.m).2.kind=4
   ·rw[if_pos k4]
    have hh:(a08 x.m).1.how≠0:=by
     rcases tr with⟨_,e,_⟩ | ⟨q,_⟩ | ⟨q,_⟩
     ·exact e
     ·omega
     ·omega
    by_cases hc:(a08 x.m).1.how=1
    ·rw[if_pos hc]
     exact⟨⟨h.ca,h.cb,lk.cells.trans h.cel,h.th,rs,h.few,by dsimp only;omega,h.tk,h.sp,by dsimp only;rw[hl];exact h.wlen,h.wok,(fun q=>by dsimp only at q;omega),fun _=>hh,fun _ _=>hc,(fun q=>by dsimp only at q;omega),(fun _=>by dsimp only;rw[h.at4 (by omega)];have:=h.cb;omega),(fun q=>by dsimp only at q;omega)⟩,⟨rfl,rfl,rfl,rfl,rfl,lk⟩,rfl⟩
    ·rw[if_neg hc]
     exact⟨⟨h.ca,h.cb,lk.cells.trans h.cel,h.th,rs,h.few,by dsimp only;omega,h.tk,h.sp,by dsimp only;rw[hl];exact h.wlen,h.wok,(fun q=>by dsimp only at q;omega),fun _=>hh,(fun _ q=>by dsimp only at q;omega),(fun q=>by dsimp only at q;omega),(fun q=>by dsimp only at q;omega),(fun q=>by dsimp only at q;omega)⟩,⟨rfl,rfl,rfl,rfl,rfl,lk⟩,rfl⟩
   ·rw[if_neg k4]
    have hh:(a08 x.m).1.how=0:=by
     rcases tr with⟨q,_⟩ | ⟨q,_⟩ | ⟨_,_,e,_⟩
     ·omega
     ·omega
     ·exact e
    exact⟨⟨h.ca,h.cb,lk.cells.trans h.cel,h.th,rs,h.few,h.part,h.tk,h.sp,by dsimp only;rw[hl];exact h.wlen,h.wok,fun _=>hh,(fun q=>by dsimp only at q;omega),(fun q=>by dsimp only at q;omega),h.at4,(fun q=>by dsimp only at q;omega),(fun q=>by dsimp only at q;omega)⟩,⟨rfl,rfl,rfl,rfl,rfl,lk⟩,rfl⟩
theorem bk4 (h:InY x) (hp:x.part=5):InY (aq2 x ws)/\AlikeY x (aq2 x ws)/\(aq2 x ws).steps=x.steps:=by
 have h5:=h.at5 hp;unfold aq2
 split
 ·split
  ·by_cases hl:x.m.buf.length=0
   ·rw[if_pos hl]
    exact⟨⟨h.ca,h.cb,h.cel,h.th,h.rest,h.few,by dsimp only;omega,h.tk,h.sp,h.wlen,h.wok,(fun q=>by dsimp only at q;omega),fun _=>h.fin (by omega),fun _ _=>h.com (by omega) (by omega),(fun q=>by dsimp only at q;omega),(fun q=>by dsimp only at q;omega),(fun q=>by dsimp only at q;omega)⟩,⟨rfl,rfl,rfl,rfl,rfl,Like.refl _⟩,rfl⟩
   ·rw[if_neg hl]
    exact⟨⟨h.ca,h.cb,h.cel,h.th,h.rest,h.few,by dsimp only;omega,h.tk,h.sp,h.wlen,h.wok,(fun q=>by dsimp only at q;omega),fun _=>h.fin (by omega),fun _ _=>h.com (by omega) (by omega),(fun q=>by dsimp only at q;omega),(fun q=>by dsimp only at q;omega),(fun _=>by dsimp only;omega)⟩,⟨rfl,rfl,rfl,rfl,rfl,Like.refl _⟩,rfl⟩
  ·next hne=>exact⟨⟨h.ca,h.cb,h.cel,h.th,h.rest,h.few,h.part,h.tk,h.sp,h.wlen,h.wok,h.run,h.fin,h.com,(fun q=>by dsimp only at q;omega),(fun _=>by dsimp only;omega),(fun q=>by dsimp only at q;omega)⟩,⟨rfl,rfl,rfl,rfl,rfl,Like.refl _⟩,rfl⟩
 ·exact⟨h,AlikeY.refl x,rfl⟩
theorem bb1 (h:InY x) (hp:x.part=6) (hW:okW ws):InY (aR4 x)/\AlikeY x (aR4 x)/\okW (aC8 x ws)/\(aC8 x ws).length=ws.length:=by
 have h6:=h.at6 hp;have hk:x.at_ / 3<x.m.buf.length:=by omega
 have hw:(x.was.getD (x.at_ / 3) 0)<18446744073709551616:=(ad5 0 a83 x.was h.wok _).2;have hm:x.m.buf.getD (x.at_ / 3) (0,0)=x.m.buf[x.at_ / 3]:=by simp[hk]
 have hv:(x.m.buf.getD (x.at_ / 3) (0,0)).2<18446744073709551616:=by
  rw[hm];exact(h.rest.inv.buf _ (List.getElem_mem hk)).2
 refine⟨?_,⟨rfl,rfl,rfl,rfl,rfl,Like.refl _⟩,?_,?_⟩
 ·unfold aR4
  by_cases q:x.at_+1=3*x.m.buf.length
  ·rw[if_pos q]
   exact⟨h.ca,h.cb,h.cel,h.th,h.rest,h.few,by dsimp only;omega,h.tk,h.sp,h.wlen,h.wok,(fun q=>by dsimp only at q;omega),fun _=>h.fin (by omega),fun _ _=>h.com (by omega) (by omega),(fun q=>by dsimp only at q;omega),(fun q=>by dsimp only at q;omega),(fun q=>by dsimp only at q;omega)⟩
  ·rw[if_neg q]
   exact⟨h.ca,h.cb,h.cel,h.th,h.rest,h.few,by dsimp only;omega,h.tk,h.sp,h.wlen,h.wok,(fun q=>by dsimp only at q;omega),fun _=>h.fin (by omega),fun _ _=>h.com (by omega) (by omega),(fun q=>by dsimp only at q;omega),(fun q=>by dsimp only at q;omega),(fun _=>by dsimp only;omega)⟩
 ·unfold aC8
  split
  ·exact hW.set _ ⟨by omega,by omega⟩
  ·split
   ·exact hW.set _ (au6 _)
   ·exact hW.set _ ⟨by omega,by omega⟩
 ·unfold aC8
  split
  ·simp
  ·split <;> simp
theorem bl5 (h:InY x) (hp:x.part≠9) (hW:okW ws):InY (ac9 x ws).1/\AlikeY x (ac9 x ws).1/\(ac9 x ws).1.steps=x.steps+1/\okW (ac9 x ws).2.1/\(ac9 x ws).2.1.length=ws.length:=by
 have hP:=h.part;have t:=h.tick;have e8:(aB9 x).part=x.part:=rfl;unfold ac9 aQ0
 rcases(by omega:x.part=1∨x.part=2∨x.part=3∨x.part=4∨x.part=5∨x.part=6∨x.part=7∨x.part=8) with e | e | e | e | e | e | e | e
 ·rw[if_pos (e8.trans e)]
  exact⟨⟨h.ca,h.cb,h.cel,h.th,h.rest,h.few,by dsimp only;omega,hW.at _,h.sp,h.wlen,h.wok,fun _=>h.run (by omega),(fun q=>by dsimp only at q;omega),(fun q=>by dsimp only at q;omega),fun _=>h.at4 (by omega),(fun q=>by dsimp only at q;omega),(fun q=>by dsimp only at q;omega)⟩,⟨rfl,rfl,rfl,rfl,rfl,Like.refl _⟩,rfl,hW.set _ (au6 _),by simp⟩
 ·rw[if_neg (by omega),if_pos (e8.trans e)]
  dsimp only
  split
  ·exact⟨⟨h.ca,h.cb,h.cel,h.th,h.rest,h.few,by dsimp only;omega,h.tk,h.sp,h.wlen,h.wok,fun _=>h.run (by omega),(fun q=>by dsimp only at q;omega),(fun q=>by dsimp only at q;omega),fun _=>h.at4 (by omega),(fun q=>by dsimp only at q;omega),(fun q=>by dsimp only at q;omega)⟩,⟨rfl,rfl,rfl,rfl,rfl,Like.refl _⟩,rfl,hW,rfl⟩
  ·exact⟨t,⟨rfl,rfl,rfl,rfl,rfl,Like.refl _⟩,rfl,hW,rfl⟩
 ·rw[if_neg (by omega),if_neg (by omega),if_pos (e8.trans e)]
  exact⟨⟨h.ca,h.cb,h.cel,h.th,h.rest,h.few,by dsimp only;omega,h.tk,hW.at _,h.wlen,h.wok,fun _=>h.run (by omega),(fun q=>by dsimp only at q;omega),(fun q=>by dsimp only at q;omega),fun _=>h.at4 (by omega),(fun q=>by dsimp only at q;omega),(fun q=>by dsimp only at q;omega)⟩,⟨rfl,rfl,rfl,rfl,rfl,Like.refl _⟩,rfl,hW,rfl⟩
 ·rw[if_neg (by omega),if_neg (by omega),if_neg (by omega),if_pos (e8.trans e)]
  obtain⟨k1,k2,k3⟩:=bx5 t (e8.trans e) hW;exact⟨k1,⟨k2.a,k2.b,k2.th,k2.tag,k2.args,k2.lk⟩,k3,hW,rfl⟩
 ·rw[if_neg (by omega),if_neg (by omega),if_neg (by omega),if_neg (by omega),if_pos (e8.trans e)]
  obtain⟨k1,k2,k3⟩:=bk4 (ws:=ws) t (e8.trans e);exact⟨k1,⟨k2.a,k2.b,k2.th,k2.tag,k2.args,k2.lk⟩,k3,hW,rfl⟩
 ·rw[if_neg (by omega),if_neg (by omega),if_neg (by omega),if_neg (by omega),if_neg (by omega),if_pos (e8.trans e)]
  obtain⟨k1,k2,k3,k4⟩:=bb1 t (e8.trans e) hW;exact⟨k1,⟨k2.a,k2.b,k2.th,k2.tag,k2.args,k2.lk⟩,rfl,k3,k4⟩
 ·rw[if_neg (by omega),if_neg (by omega),if_neg (by omega),if_neg (by omega),if_neg (by omega),if_neg (by omega),if_pos (e8.trans e)]
  exact⟨⟨h.ca,h.cb,h.cel,h.th,h.rest,h.few,by dsimp only;omega,h.tk,h.sp,h.wlen,h.wok,(fun q=>by dsimp only at q;omega),fun _=>h.fin (by omega),(fun _ q=>by dsimp only at q;omega),(fun q=>by dsimp only at q;omega),(fun q=>by dsimp only at q;omega),(fun q=>by dsimp only at q;omega)⟩,⟨rfl,rfl,rfl,rfl,rfl,Like.refl _⟩,rfl,hW.set _ (au6 _),by simp⟩
 ·rw[if_neg (by omega),if_neg (by omega),if_neg (by omega),if_neg (by omega),if_neg (by omega),if_neg (by omega),if_neg (by omega)]
  exact⟨⟨h.ca,h.cb,h.cel,h.th,h.rest,h.few,by dsimp only;omega,h.tk,h.sp,h.wlen,h.wok,(fun q=>by dsimp only at q;omega),fun _=>h.fin (by omega),(fun _ q=>by dsimp only at q;omega),(fun q=>by dsimp only at q;omega),(fun q=>by dsimp only at q;omega),(fun q=>by dsimp only at q;omega)⟩,⟨rfl,rfl,rfl,rfl,rfl,Like.refl _⟩,rfl,hW.set _ (au6 _),by simp⟩
end
end Go.Proofs.YtlkldgopliablaaGreatDoor.Ww
namespace Go.Proofs.YtlkldgopliablaaGreatDoor.Rr
open Go.ChangeShapes Go.WideShapes Go.ChangeAt Go.RowKit Num
end Go.Proofs.YtlkldgopliablaaGreatDoor.Rr
namespace Go.Proofs.YtlkldgopliablaaGreatDoor.Ww
open Go.ChangeShapes Go.WideShapes Go.ChangeAt Go.RowKit Num Rr
end Go.Proofs.YtlkldgopliablaaGreatDoor.Ww
namespace Go.Proofs.YtlkldgopliablaaGreatDoor
open Go.ChangeShapes Go.WideShapes Go.ChangeAt Go.RowKit Num
end Go.Proofs.YtlkldgopliablaaGreatDoor
namespace Go.Proofs.YtlkldgopliablaaGreatDoor.Ww
open Go.ChangeShapes Go.WideShapes Go.ChangeAt Go.RowKit Num Rr
end Go.Proofs.YtlkldgopliablaaGreatDoor.Ww
namespace Go.Proofs.YtlkldgopliablaaGreatDoor.Rr
open Go.ChangeShapes Go.WideShapes Go.ChangeAt Go.RowKit Num
end Go.Proofs.YtlkldgopliablaaGreatDoor.Rr
namespace Go.Proofs.YtlkldgopliablaaGreatDoor.Ww
open Go.ChangeShapes Go.WideShapes Go.ChangeAt Go.RowKit Num Rr
structure Cf where
 a:Int
 b:Int
abbrev Tx:=Option ((Mac × Rx) ⊕ (Mac × Wx))
abbrev Tx.idle:Tx:=none
abbrev Tx.rd (m0:Mac) (x:Rx):Tx:=some (.inl (m0,x))
abbrev Tx.wr (m0:Mac) (x:Wx):Tx:=some (.inr (m0,x))
def upT (T:Nat->Tx) (t:Nat) (y:Tx):Nat->Tx:=fun u=>if u=t then y else T u
theorem a34 (T:Nat->Tx) (t:Nat) (y:Tx):upT T t y t=y:=if_pos rfl
theorem a76 (T:Nat->Tx) {t u:Nat} (y:Tx) (h:u≠t):upT T t y u=T u:=if_neg h
def su (f:Nat->Nat):Nat->Nat
 | 0=>0
 | n+1=>su f n+f n
theorem b82 {f g:Nat->Nat}:∀ n,(∀ i,i<n->f i=g i)->su f n=su g n
 | 0,_=>rfl
 | n+1,h=>by
  show su f n+f n=su g n+g n
  rw[b82 n (fun i hi=>h i (by omega)),h n (by omega)]
theorem bp5 {f g:Nat->Nat} {t:Nat}:∀ n,t<n->(∀ i,i<n->i≠t->g i=f i)->su g n+f t=su f n+g t
 | 0,h,_=>absurd h (zI _)
 | n+1,h,k=>by
  show su g n+g n+f t=su f n+f n+g t
  by_cases e:t=n
  ·subst e
   rw[b82 t (fun i hi=>k i (by omega) (by omega))];omega
  ·have:=bp5 n (by omega) (fun i hi=>k i (by omega))
   rw[k n (by omega) (fun q=>e q.symm)];omega
structure Eg where
 C:Cf
 n:Nat
 nc:Nat->Nat
 nx:Nat->Nat->Tx
 T:Nat->Tx
 B:Nat->Nat
 ws:List Int
 cnt:Int
 drw:Nat
 com:Nat
def isW:Tx->Bool
 | some (.inr _)=>true
 | _=>false
def updN (B:Nat->Nat) (t v:Nat):Nat->Nat:=fun u=>if u=t then v else B u
theorem a62 (B:Nat->Nat) (t v:Nat):updN B t v t=v:=if_pos rfl
theorem aa7 (B:Nat->Nat) {t u:Nat} (v:Nat) (h:u≠t):updN B t v u=B u:=if_neg h
def begE (E:Eg) (t:Nat):Eg:=if (E.T t).isNone then { E with T:=upT E.T t (E.nx t (E.B t)),B:=updN E.B t (E.B t+1),drw:=E.drw+(isW (E.nx t (E.B t))).toNat } else E
def goT:Tx->List Int->Tx × List Int × Bool × Bool
 | none,ws=>(none,ws,false,false)
 | some (.inl (m,x)),ws=>(if (a25 x ws).1.part=4 then .idle else .rd m (a25 x ws).1,(a25 x ws).2.1,(a25 x ws).2.2,false)
 | some (.inr (m,x)),ws=>(if (ac9 x ws).1.part=9 then .idle else .wr m (ac9 x ws).1,(ac9 x ws).2.1,(ac9 x ws).2.2,decide ((ac9 x ws).1.part=9) && x.m.how == 1)
def goE (E:Eg) (t:Nat):Eg:={ E with T:=upT E.T t (goT (E.T t) E.ws).1,ws:=(goT (E.T t) E.ws).2.1,cnt:=if (goT (E.T t) E.ws).2.2.1 then up E.cnt else E.cnt,com:=E.com+(goT (E.T t) E.ws).2.2.2.toNat }
abbrev finE (E:Eg) (t:Nat):Prop:=E.T t=.idle/\E.B t=E.nc t
abbrev Ty:=(Mac × Rx) ⊕ (Mac × Wx)
structure Dd where
 th:Nat
 no:Nat
 bg:Nat
 en:Nat
 tx:Ty
structure Hs where
 E:Eg
 D:Nat->Dd
 dn:Nat
 at_:Nat->Nat
 N:Nat
def updD (D:Nat->Dd) (i:Nat) (v:Dd):Nat->Dd:=fun u=>if u=i then v else D u
theorem a61 (D:Nat->Dd) (i:Nat) (v:Dd):updD D i v i=v:=if_pos rfl
theorem aa6 (D:Nat->Dd) {i u:Nat} (v:Dd) (h:u≠i):updD D i v u=D u:=if_neg h
def goS:Ty->List Int->Ty
 | .inl (m,x),ws=>.inl (m,(a25 x ws).1)
 | .inr (m,x),ws=>.inr (m,(ac9 x ws).1)
def a72:Ty->Bool
 | .inl (_,x)=>decide (x.part=4)
 | .inr (_,x)=>decide (x.part=9)
def begH (H:Hs) (t:Nat):Hs :=
 match H.E.T t,H.E.nx t (H.E.B t) with
 | none,some y=>{ H with E:=begE H.E t,D:=updD H.D H.dn ⟨t,H.E.B t,H.N+1,0,y⟩,dn:=H.dn+1,at_:=updN H.at_ t H.dn,N:=H.N+1 }
 | _,_=>{ H with N:=H.N+1 }
def goH (H:Hs) (t:Nat):Hs :=
 match H.E.T t with
 | none=>H
 | some y=>{ H with E:=goE H.E t,D:=updD H.D (H.at_ t) { H.D (H.at_ t) with tx:=goS y H.E.ws,en:=if a72 (goS y H.E.ws) then H.N else 0 } }
def by3 (H:Hs) (t:Nat):Hs:=goH (begH H t) t
structure Rs where
 H:Hs
 stp:Nat->Bool
 R:Nat
 fr:Nat->Nat
 to_:Nat->Nat
 ah:Nat->Nat
def aJ3 (E:Eg) (p:Nat->Bool):Nat->Bool
 | 0=>true
 | n+1=>aJ3 E p n && (decide (finE E n) || p n)
theorem aD7 (E:Eg) (p:Nat->Bool):∀ n,aJ3 E p n=true ↔ ∀ u,u<n->finE E u∨p u=true
 | 0=>⟨fun _ _ h=>absurd h (zI _),fun _=>rfl⟩
 | n+1=>by
  show (aJ3 E p n && (decide (finE E n) || p n))=true ↔ _
  rw[Bool.and_eq_true,aD7 E p n,Bool.or_eq_true,decide_eq_true_iff]
  constructor
  ·intro h u hu
   rcases Nat.lt_or_eq_of_le (Nat.le_of_lt_succ hu) with q | q
   ·exact h.1 u q
   ·rw[q];exact h.2
  ·exact fun h=>⟨fun u hu=>h u (by omega),h n (by omega)⟩
def stepR (X:Rs) (t:Nat):Rs :=
 let H':=by3 X.H t
 let p:Nat->Bool:=fun u=>if u=t then true else X.stp u
 let R':=if aJ3 H'.E p H'.E.n then X.R+1 else X.R
 { H:=H',stp:=if aJ3 H'.E p H'.E.n then fun _=>false else p,R:=R',fr:=if (X.H.E.T t).isNone then updN X.fr X.H.dn X.R else X.fr,to_:=if (H'.E.T t).isNone then updN X.to_ (H'.at_ t) R' else X.to_,ah:=if (X.H.E.T t).isNone then updN X.ah X.H.dn (wordAt X.H.E.ws 0 - wordAt X.H.E.ws 1).toNat else X.ah }
end Go.Proofs.YtlkldgopliablaaGreatDoor.Ww
namespace Go.Proofs.YtlkldgopliablaaGreatDoor.Rr
open Go.ChangeShapes Go.WideShapes Go.ChangeAt Go.RowKit Num
structure Rz where
 bm:Nat
 K:List Nat
 xc:Nat
 pa:Option Addr
 ca:Nat
def Rz.KK (z:Rz):List Nat:=z.K ++ fpR z.pa
def ptrV (q:Option Nat):Value:=.pointer (q.map fun n=>⟨n,0,none⟩)
def gX (b:Nat) (z:Rz) (q:Option Nat) (F:List Nat):List Nat:=b::z.xc::(q.toList ++ F)
def aj2 (x:Rx) (z:Rz) (q:Option Nat):Array Value:=#[.int .i64 0,.int .i64 1,.int .i64 2,.int .i64 3,.int .i64 (3+x.b),.int .i64 (3+x.b+3*x.a),.pointer (some ⟨z.bm,0,none⟩),.int .i64 x.steps,.int .i64 x.tag,.slice z.pa x.args.length z.ca,.int .i64 x.th,.int .i64 (x.part:Int),.pointer (some ⟨z.xc,0,none⟩),ptrV q]
structure RawAt (w:World) (b:Nat) (x:Rx) (z:Rz) (q:Option Nat) (F:List Nat) (c:Md.Cv.Cs) (r:Md.Ce.Rd):Prop where
 box:w.heap[b]?=some (.cells (aj2 x z q) 219 (0,0))
 mac:Mc w z.bm F z.K x.m
 com:Md.Cv.CmAt w z.xc c
 rd:∀ n,q=some n->Md.Ce.RdAt w n r
 arg:RowAt 71 w z.pa z.ca (fls x.args)
 sf:Sep (b::z.xc::q.toList) F
 sk:Sep (b::z.xc::q.toList) z.KK
 fa:Sep (fpR z.pa) F
theorem ah6 {w w':World} {n:Nat} {r:Md.Ce.Rd} (h:Md.Ce.RdAt w n r) (k:w'.heap[n]?=w.heap[n]?):Md.Ce.RdAt w' n r:=Md.Ce.RbAt.keep h k
theorem b93 {F F':List Nat} {w w':World} (t:Turn F F' w w') (A:List Nat):Turn (A ++ F) (A ++ F') w w' :=
 ⟨t.os,t.tape,t.output,t.size,fun k hk hn=>t.block k hk (fun q=>hn (List.mem_append.2 (.inr q))),fun k hk=>(List.mem_append.1 hk).elim (fun q=>.inl (List.mem_append.2 (.inl q))) (fun q=>(t.own k q).imp (fun y=>List.mem_append.2 (.inr y)) id)⟩
theorem af9 {L F:List Nat} {w w':World} (o1:w'.os=w.os) (o2:w'.tape=w.tape) (o3:w'.output=w.output) (hs:w.heap.size<=w'.heap.size) (hL:∀ k,k∈L->k∈F) (hb:∀ k,k<w.heap.size->k∉L->w'.heap[k]?=w.heap[k]?):Turn F F w w' :=
 ⟨o1,o2,o3,hs,fun k hk hn=>hb k hk (fun q=>hn (hL k q)),fun _ h=>.inl h⟩
section
variable {w w':World} {b:Nat} {x:Rx} {z:Rz} {q:Option Nat} {F:List Nat} {c:Md.Cv.Cs} {r:Md.Ce.Rd}
theorem RawAt.ltB (h:RawAt w b x z q F c r):b<w.heap.size:=lt_of_block h.box
theorem RawAt.blw (h:RawAt w b x z q F c r):Blw w (gX b z q F):=fun k hk=>by
 simp only[gX,List.mem_cons,List.mem_append,Option.mem_toList]at hk
 rcases hk with rfl | rfl | hk | hk
 ·exact h.ltB
 ·exact h.com.lt
 ·exact Md.Ce.RdAt.lt (h.rd k hk)
 ·exact h.mac.blw k hk
theorem RawAt.blwK (h:RawAt w b x z q F c r):Blw w z.KK:=fun k hk=>by
 rcases List.mem_append.1 hk with hk | hk
 ·exact h.mac.blwK k hk
 ·exact h.arg.blw k hk
theorem RawAt.sep (h:RawAt w b x z q F c r):Sep z.KK (gX b z q F):=fun k hk hq=>by
 have hX:=h.sk.symm k hk;have hF:k∉F:=fun q=>by
  rcases List.mem_append.1 hk with hk | hk
  ·exact h.mac.sepK k hk q
  ·exact h.fa k hk q
 simp only[gX,List.mem_cons,List.mem_append]at hq hX
 rcases hq with rfl | rfl | hq | hq
 ·exact hX (.inl rfl)
 ·exact hX (.inr (.inl rfl))
 ·exact hX (.inr (.inr hq))
 ·exact hF hq
theorem in_b {b:Nat} {z:Rz} {q:Option Nat} {F:List Nat}:b∈gX b z q F:=by simp[gX]
theorem in_c {b:Nat} {z:Rz} {q:Option Nat} {F:List Nat}:z.xc∈gX b z q F:=by simp[gX]
theorem in_q {b n:Nat} {z:Rz} {q:Option Nat} {F:List Nat} (h:q=some n):n∈gX b z q F:=by simp[gX,h]
theorem in_F {b k:Nat} {z:Rz} {q:Option Nat} {F:List Nat} (h:k∈F):k∈gX b z q F:=by simp[gX,h]
theorem RawAt.keep (h:RawAt w b x z q F c r) (k:Kept (gX b z q F) w w') (k2:Kept z.KK w w'):RawAt w' b x z q F c r :=
 ⟨(k.2 b in_b).trans h.box,h.mac.keep ⟨k.1,fun i hi=>k.2 i (in_F hi)⟩ ⟨k.1,fun i hi=>k2.2 i (List.mem_append.2 (.inl hi))⟩,h.com.keep (k.2 _ in_c),fun n hn=>ah6 (h.rd n hn) (k.2 n (in_q hn)),h.arg.keep ⟨k.1,fun i hi=>k2.2 i (List.mem_append.2 (.inr hi))⟩,h.sf,h.sk,h.fa⟩
theorem RawAt.on (h:RawAt w b x z q F c r) (k:Bl w w'):RawAt w' b x z q F c r:=h.keep (a27 k h.blw) (a27 k h.blwK)
theorem RawAt.cell (h:RawAt w b x z q F c r) (j:Nat):w.cell? ⟨b,j,none⟩=(aj2 x z q)[j]?:=zR w b j _ _ _ h.box
theorem RawAt.free (h:RawAt w b x z q F c r) (j:Nat):w.frozen? ⟨b,j,none⟩=false:=zZ w b j _ _ h.box
theorem RawAt.bc (h:RawAt w b x z q F c r):b≠z.xc:=Md.Cv.ne_ty h.box h.com (by decide)
theorem RawAt.bq (h:RawAt w b x z q F c r) {n:Nat} (hn:q=some n):b≠n:=Md.Cv.ne_ty h.box (h.rd n hn) (by decide)
theorem RawAt.cq (h:RawAt w b x z q F c r) {n:Nat} (hn:q=some n):z.xc≠n:=Md.Cv.ne_ty h.com (h.rd n hn) (by decide)
theorem RawAt.nF (h:RawAt w b x z q F c r) {k:Nat} (hk:k=b∨k=z.xc∨q=some k):k∉F:=h.sf k (by simpa using hk)
theorem RawAt.nK (h:RawAt w b x z q F c r) {k:Nat} (hk:k=b∨k=z.xc∨q=some k):k∉z.KK:=h.sk k (by simpa using hk)
theorem ae1 {F:List Nat} {w:World} {b j:Nat} {v:Value} (h:b∉F):Kept F w (w.setCell ⟨b,j,none⟩ v):=⟨by simp,fun i hi=>zO _ _ _ _ (fun (e:i=b)=>h (e ▸ hi))⟩
theorem RawAt.put (h:RawAt w b x z q F c r) (j:Nat) (v:Value) (x':Rx) (e:(aj2 x z q).setIfInBounds j v=aj2 x' z q) (hm:x'.m=x.m) (ha:x'.args=x.args):RawAt (w.setCell ⟨b,j,none⟩ v) b x' z q F c r:=by
 have kF:Kept F w (w.setCell ⟨b,j,none⟩ v):=ae1 (h.nF (.inl rfl));have kK:Kept z.KK w (w.setCell ⟨b,j,none⟩ v):=ae1 (h.nK (.inl rfl));refine⟨?_,by rw[hm];exact h.mac.keep kF ⟨kK.1,fun i hi=>kK.2 i (List.mem_append.2 (.inl hi))⟩,h.com.keep (zO _ _ _ _ (fun (e:z.xc=b)=>h.bc e.symm)),fun n hn=>ah6 (h.rd n hn) (zO _ _ _ _ (fun (e:n=b)=>h.bq hn e.symm)),by rw[ha];exact h.arg.keep ⟨kK.1,fun i hi=>kK.2 i (List.mem_append.2 (.inr hi))⟩,h.sf,h.sk,h.fa⟩;rw[<- e];exact zS w b j _ _ v h.box
theorem RawAt.putQ (h:RawAt w b x z q F c r) (q':Option Nat) (r':Md.Ce.Rd) (hq:∀ n,q'=some n->Md.Ce.RdAt w n r'/\n∉F/\n∉z.KK):RawAt (w.setCell ⟨b,13,none⟩ (ptrV q')) b x z q' F c r':=by
 have kF:Kept F w (w.setCell ⟨b,13,none⟩ (ptrV q')):=ae1 (h.nF (.inl rfl));have kK:Kept z.KK w (w.setCell ⟨b,13,none⟩ (ptrV q')):=ae1 (h.nK (.inl rfl));have nq:∀ n,q'=some n->b≠n:=fun n hn=>Md.Cv.ne_ty h.box (hq n hn).1 (by decide)
 refine⟨?_,h.mac.keep kF ⟨kK.1,fun i hi=>kK.2 i (List.mem_append.2 (.inl hi))⟩,h.com.keep (zO _ _ _ _ (fun (e:z.xc=b)=>h.bc e.symm)),fun n hn=>ah6 (hq n hn).1 (zO _ _ _ _ (fun (e:n=b)=>nq n hn e.symm)),h.arg.keep ⟨kK.1,fun i hi=>kK.2 i (List.mem_append.2 (.inr hi))⟩,fun k hk=>?_,fun k hk=>?_,h.fa⟩
 ·exact zS w b 13 _ _ _ h.box
 ·simp only[List.mem_cons,Option.mem_toList]at hk
  rcases hk with hk | hk | hk
  ·exact h.nF (.inl hk)
  ·exact h.nF (.inr (.inl hk))
  ·exact(hq k hk).2.1
 ·simp only[List.mem_cons,Option.mem_toList]at hk
  rcases hk with hk | hk | hk
  ·exact h.nK (.inl hk)
  ·exact h.nK (.inr (.inl hk))
  ·exact(hq k hk).2.2
theorem RawAt.mach (h:RawAt w b x z q F c r) {m':Mac} (g:Gm w F z.bm z.K w' m'):∃ F',RawAt w' b { x with m:=m' } z q F' c r/\Turn F F' w w':=by
 obtain⟨F',hM,t⟩:=g.mc;have lX:Blw w (b::z.xc::q.toList):=fun k hk=>h.blw k (by simp only[gX,List.mem_cons,List.mem_append]at hk ⊢;rcases hk with hk | hk | hk <;> simp[hk])
 have kX:Kept (b::z.xc::q.toList) w w':=t.kept h.sf lX;have kA:Kept (fpR z.pa) w w':=t.kept h.fa h.arg.blw;exact⟨F',⟨(kX.2 b (by simp)).trans h.box,hM,h.com.keep (kX.2 _ (by simp)),fun n hn=>ah6 (h.rd n hn) (kX.2 n (by simp[hn])),h.arg.keep kA,h.sf.turn lX t,h.sk,h.fa.turn h.arg.blw t⟩,t⟩
end
def Mid (W:World) (G0:List Nat) (b:Nat) (z:Rz) (mb mg:Nat) (w:World) (x:Rx) (q:Option Nat) (c:Md.Cv.Cs) (r:Md.Ce.Rd) (ws:List Int) (o:Bool) (n:Int):Prop :=
 ∃ F,RawAt w b x z q F c r/\MemAt 145 w mb mg ws o n/\Sep [mb,mg] (gX b z q F)/\Sep [mb,mg] z.KK/\Turn G0 (mb::mg::gX b z q F) W w
section
variable {W w w':World} {G0:List Nat} {b mb mg:Nat} {x:Rx} {z:Rz} {q:Option Nat} {c:Md.Cv.Cs} {r:Md.Ce.Rd} {ws:List Int} {o:Bool} {n:Int}
theorem Mid.mem (h:Mid W G0 b z mb mg w x q c r ws o n):MemAt 145 w mb mg ws o n:=by obtain⟨F,_,h2,_⟩:=h;exact h2
theorem Mid.com (h:Mid W G0 b z mb mg w x q c r ws o n):Md.Cv.CmAt w z.xc c:=by obtain⟨F,h1,_⟩:=h;exact h1.com
theorem Mid.rd (h:Mid W G0 b z mb mg w x q c r ws o n) {k:Nat} (hk:q=some k):Md.Ce.RdAt w k r:=by obtain⟨F,h1,_⟩:=h;exact h1.rd k hk
theorem Mid.cell (h:Mid W G0 b z mb mg w x q c r ws o n) (j:Nat):w.cell? ⟨b,j,none⟩=(aj2 x z q)[j]?:=by obtain⟨F,h1,_⟩:=h;exact h1.cell j
theorem Mid.free (h:Mid W G0 b z mb mg w x q c r ws o n) (j:Nat):w.frozen? ⟨b,j,none⟩=false:=by obtain⟨F,h1,_⟩:=h;exact h1.free j
theorem Mid.ltB (h:Mid W G0 b z mb mg w x q c r ws o n):b<w.heap.size:=by obtain⟨F,h1,_⟩:=h;exact h1.ltB
theorem Mid.size (h:Mid W G0 b z mb mg w x q c r ws o n):W.heap.size<=w.heap.size:=by obtain⟨F,_,_,_,_,t⟩:=h;exact t.size
theorem Mid.on (h:Mid W G0 b z mb mg w x q c r ws o n) (k:Bl w w'):Mid W G0 b z mb mg w' x q c r ws o n:=by
 obtain⟨F,h1,h2,h3,h4,t⟩:=h;exact⟨F,h1.on k,h2.on k,h3,h4,t.trans (Below.turn k _)⟩
theorem Mid.alloc (h:Mid W G0 b z mb mg w x q c r ws o n) (y:Obj):Mid W G0 b z mb mg (w.alloc y) x q c r ws o n:=h.on (below_alloc _ y)
theorem Mid.same (h:Mid W G0 b z mb mg w x q c r ws o n) (k:Same w w'):Mid W G0 b z mb mg w' x q c r ws o n:=h.on (k.below _)
theorem Mid.drew (h:Mid W G0 b z mb mg w x q c r ws o n):Mid W G0 b z mb mg w.drew x q c r ws o n:=h.same (Same.drew w)
theorem Mid.put (h:Mid W G0 b z mb mg w x q c r ws o n) (j:Nat) (v:Value) (x':Rx) (e:(aj2 x z q).setIfInBounds j v=aj2 x' z q) (hm:x'.m=x.m) (ha:x'.args=x.args):Mid W G0 b z mb mg (w.setCell ⟨b,j,none⟩ v) x' q c r ws o n:=by
 obtain⟨F,h1,h2,h3,h4,t⟩:=h;refine⟨F,h1.put j v x' e hm ha,h2.other (fun e=>h3 mb (by simp) (e ▸ in_b)) (fun e=>h3 mg (by simp) (e ▸ in_b)) j v,h3,h4,t.trans (af9 (L:=[b]) rfl rfl rfl (by simp) (fun k hk=>?_) fun k _ hn=>zO _ _ _ _ (by simpa using hn))⟩
 simp at hk
 subst hk
 simp[gX]
theorem Mid.memb {ws':List Int} {o':Bool} {n':Int} (h:Mid W G0 b z mb mg w x q c r ws o n) (k:Chg mb mg w w') (hm:MemAt 145 w' mb mg ws' o' n'):Mid W G0 b z mb mg w' x q c r ws' o' n':=by
 obtain⟨F,h1,h2,h3,h4,t⟩:=h;refine⟨F,h1.keep ⟨k.size,fun i hi=>k.block i (h1.blw i hi) (fun e=>h3 mb (by simp) (e ▸ hi)) (fun e=>h3 mg (by simp) (e ▸ hi))⟩ ⟨k.size,fun i hi=>k.block i (h1.blwK i hi) (fun e=>h4 mb (by simp) (e ▸ hi)) (fun e=>h4 mg (by simp) (e ▸ hi))⟩,hm,h3,h4,t.trans (af9 (L:=[mb,mg]) k.os k.tape k.output k.size (fun i hi=>?_) fun i hi hn=>k.block i hi (fun e=>hn (by simp[e])) (fun e=>hn (by simp[e])))⟩;simp only[List.mem_cons,List.not_mem_nil,or_false]at hi
 rcases hi with rfl | rfl <;> simp
theorem Mid.comes {ws':List Int} {o':Bool} {n':Int} {c':Md.Cv.Cs} (h:Mid W G0 b z mb mg w x q c r ws o n) (k:Md.Cv.Ch3 mb mg z.xc w w') (hm:MemAt 145 w' mb mg ws' o' n') (hc:Md.Cv.CmAt w' z.xc c'):Mid W G0 b z mb mg w' x q c' r ws' o' n':=by
 obtain⟨F,h1,h2,h3,h4,t⟩:=h;have G:∀ i,i∈gX b z q F->i≠z.xc->w'.heap[i]?=w.heap[i]?:=fun i hi hn=>k.block i (h1.blw i hi) (fun e=>h3 mb (by simp) (e ▸ hi)) (fun e=>h3 mg (by simp) (e ▸ hi)) hn
 have G2:∀ i,i∈z.KK->w'.heap[i]?=w.heap[i]?:=fun i hi=>k.block i (h1.blwK i hi) (fun e=>h4 mb (by simp) (e ▸ hi)) (fun e=>h4 mg (by simp) (e ▸ hi)) (fun e=>h1.nK (.inr (.inl rfl)) (e ▸ hi))
 refine⟨F,⟨(G b in_b h1.bc).trans h1.box,h1.mac.keep ⟨k.size,fun i hi=>G i (in_F hi) (fun e=>h1.nF (.inr (.inl rfl)) (e ▸ hi))⟩ ⟨k.size,fun i hi=>G2 i (List.mem_append.2 (.inl hi))⟩,hc,fun i hi=>ah6 (h1.rd i hi) (G i (in_q hi) (fun e=>h1.cq hi e.symm)),h1.arg.keep ⟨k.size,fun i hi=>G2 i (List.mem_append.2 (.inr hi))⟩,h1.sf,h1.sk,h1.fa⟩,hm,h3,h4,t.trans (af9 (L:=[mb,mg,z.xc]) k.os k.tape k.output k.size (fun i hi=>?_) fun i hi hn=>k.block i hi (fun e=>hn (by simp[e])) (fun e=>hn (by simp[e])) (fun e=>hn (by simp[e])))⟩;simp only[List.mem_cons,List.not_mem_nil,or_false]at hi
 rcases hi with rfl | rfl | rfl <;> simp[gX]
theorem Mid.reads {ws':List Int} {o':Bool} {n':Int} {r':Md.Ce.Rd} {i0:Nat} (h:Mid W G0 b z mb mg w x q c r ws o n) (hq:q=some i0) (k:Md.Ce.Ch [mb,mg,i0] w w') (hm:MemAt 145 w' mb mg ws' o' n') (hr:Md.Ce.RdAt w' i0 r'):Mid W G0 b z mb mg w' x q c r' ws' o' n':=by
 obtain⟨F,h1,h2,h3,h4,t⟩:=h;have G:∀ i,i∈gX b z q F->i≠i0->w'.heap[i]?=w.heap[i]?:=fun i hi hn=>k.block i (h1.blw i hi) (fun e=>by
  simp only[List.mem_cons,List.not_mem_nil,or_false]at e
  rcases e with e | e | e
  ·exact h3 mb (by simp) (e ▸ hi)
  ·exact h3 mg (by simp) (e ▸ hi)
  ·exact hn e)
 have G2:∀ i,i∈z.KK->w'.heap[i]?=w.heap[i]?:=fun i hi=>k.block i (h1.blwK i hi) (fun e=>by
  simp only[List.mem_cons,List.not_mem_nil,or_false]at e
  rcases e with e | e | e
  ·exact h4 mb (by simp) (e ▸ hi)
  ·exact h4 mg (by simp) (e ▸ hi)
  ·exact h1.nK (k:=i0) (.inr (.inr hq)) (e ▸ hi))
 refine⟨F,⟨(G b in_b (h1.bq hq)).trans h1.box,h1.mac.keep ⟨k.size,fun i hi=>G i (in_F hi) (fun e=>h1.nF (k:=i0) (.inr (.inr hq)) (e ▸ hi))⟩ ⟨k.size,fun i hi=>G2 i (List.mem_append.2 (.inl hi))⟩,h1.com.keep (G _ in_c (h1.cq hq)),fun i hi=>?_,h1.arg.keep ⟨k.size,fun i hi=>G2 i (List.mem_append.2 (.inr hi))⟩,h1.sf,h1.sk,h1.fa⟩,hm,h3,h4,t.trans (af9 (L:=[mb,mg,i0]) k.os k.tape k.output k.size (fun i hi=>?_) fun i hi hn=>k.block i hi hn)⟩
 ·obtain rfl:i0=i:=by rw[hq]at hi;exact Option.some.inj hi
  exact hr
 ·simp only[List.mem_cons,List.not_mem_nil,or_false]at hi
  rcases hi with rfl | rfl | rfl <;> simp[gX,hq]
theorem Mid.readNew {w1:World} {r':Md.Ce.Rd} {i0:Nat} (h:Mid W G0 b z mb mg w x q c r ws o n) (k:Bl w w1) (hi:w.heap.size<=i0) (hr:Md.Ce.RdAt w1 i0 r'):Mid W G0 b z mb mg (w1.setCell ⟨b,13,none⟩ (.pointer (some ⟨i0,0,none⟩))) x (some i0) c r' ws o n:=by
 have hs:=h.size;obtain⟨F,h1,h2,h3,h4,t⟩:=h;have nG:i0∉gX b z q F:=fun y=>absurd (h1.blw i0 y) (Nat.not_lt.2 hi)
 have nK:i0∉z.KK:=fun y=>absurd (h1.blwK i0 y) (Nat.not_lt.2 hi)
 have g1:=(h1.on k).putQ (some i0) r' (fun n hn=>by cases hn;exact⟨hr,fun y=>nG (in_F y),nK⟩);have m1:=h2.on k;have tt:Turn (mb::mg::gX b z q F) (mb::mg::gX b z q F) w1 (w1.setCell ⟨b,13,none⟩ (.pointer (some ⟨i0,0,none⟩))):=⟨rfl,rfl,rfl,by simp,fun i _ hn=>zO _ _ _ _ (fun (e:i=b)=>hn (by simp[e,gX])),fun i hy=>.inl hy⟩;refine⟨F,g1,m1.other (fun e=>h3 mb (by simp) (e ▸ in_b)) (fun e=>h3 mg (by simp) (e ▸ in_b)) 13 _,fun i hi2 hy=>?_,h4,((t.trans (Below.turn k _)).trans tt).mono fun i hy=>?_⟩
 ·simp only[gX,List.mem_cons,List.mem_append,Option.mem_toList]at hy
  rcases hy with hy | hy | hy | hy
  ·exact h3 i hi2 (by simp[gX,hy])
  ·exact h3 i hi2 (by simp[gX,hy])
  ·have e:i0=i:=by simpa using hy
   have l:i<w.heap.size:=by
    simp only[List.mem_cons,List.not_mem_nil,or_false]at hi2
    rcases hi2 with rfl | rfl
    ·exact h2.ltB
    ·exact h2.ltG
   omega
  ·exact h3 i hi2 (by simp[gX,hy])
 ·by_cases e:i=i0
  ·subst e
   exact .inr (zQ hs hi)
  ·refine(t.own i ?_)
   simp only[gX,List.mem_cons,List.mem_append,Option.mem_toList]at hy ⊢
   rcases hy with hy | hy | hy | hy | hy | hy
   ·simp[hy]
   ·simp[hy]
   ·simp[hy]
   ·simp[hy]
   ·exact absurd (by simpa using hy:i0=i) (fun y=>e y.symm)
   ·simp[hy]
theorem Mid.readOver (h:Mid W G0 b z mb mg w x q c r ws o n):Mid W G0 b z mb mg (w.setCell ⟨b,13,none⟩ (.pointer none)) x none c r ws o n:=by
 obtain⟨F,h1,h2,h3,h4,t⟩:=h;have sub:∀ i,i∈gX b z none F->i∈gX b z q F:=fun i hy=>by
  simp only[gX,List.mem_cons,List.mem_append,Option.toList_none,List.not_mem_nil,false_or]at hy ⊢
  rcases hy with hy | hy | hy <;> simp[hy]
 have tt:Turn (mb::mg::gX b z q F) (mb::mg::gX b z q F) w (w.setCell ⟨b,13,none⟩ (.pointer none)):=⟨rfl,rfl,rfl,by simp,fun i _ hn=>zO _ _ _ _ (fun (e:i=b)=>hn (by simp[e,gX])),fun i hy=>.inl hy⟩;refine⟨F,h1.putQ none r (fun n hn=>by cases hn),h2.other (fun e=>h3 mb (by simp) (e ▸ in_b)) (fun e=>h3 mg (by simp) (e ▸ in_b)) 13 _,fun i hi hy=>h3 i hi (sub i hy),h4,(t.trans tt).mono fun i hy=>t.own i ?_⟩;simp only[List.mem_cons]at hy ⊢;exact hy.imp id (Or.imp id (sub i))
theorem Mid.mach (h:Mid W G0 b z mb mg w x q c r ws o n):∃ F,Gm w F z.bm z.K w x.m/\(a78 W G0->a78 w F)/\∀ w' m',Gm w F z.bm z.K w' m'->Mid W G0 b z mb mg w' { x with m:=m' } q c r ws o n:=by
 obtain⟨F,h1,h2,h3,h4,t⟩:=h;refine⟨F,h1.mac.gm,fun hT=>?_,fun w' m' g=>?_⟩
 ·have:=hT.turn t
  exact⟨this.1,fun y=>this.2 (by simp[gX,y])⟩
 ·obtain⟨F',g1,tF⟩:=h1.mach g
  have nm:∀ i,i∈[mb,mg]->i∉F:=fun i hi y=>h3 i hi (in_F y)
  have lX:Blw w (mb::mg::b::z.xc::q.toList):=fun k hk=>by
   simp only[List.mem_cons,Option.mem_toList]at hk
   rcases hk with rfl | rfl | hk | hk | hk
   ·exact h2.ltB
   ·exact h2.ltG
   ·exact h1.blw k (by simp[gX,hk])
   ·exact h1.blw k (by simp[gX,hk])
   ·exact h1.blw k (in_q hk)
  have sp:Sep [mb,mg] F':=Sep.turn (fun i hi y=>nm i hi y) (fun k hk=>lX k (by simp only[List.mem_cons,List.not_mem_nil,or_false]at hk;rcases hk with hk | hk <;> simp[hk])) tF;refine⟨F',g1,h2.keep (tF.block mb h2.ltB (nm mb (by simp))) (tF.block mg h2.ltG (nm mg (by simp))),fun i hi hy=>?_,h4,t.trans ?_⟩
  ·simp only[gX,List.mem_cons,List.mem_append]at hy
   rcases hy with hy | hy | hy | hy
   ·exact h3 i hi (by simp[gX,hy])
   ·exact h3 i hi (by simp[gX,hy])
   ·exact h3 i hi (by simp[gX];simp at hy;simp[hy])
   ·exact sp i hi hy
  ·have:=b93 tF (mb::mg::b::z.xc::q.toList)
   simpa[gX]using this
end
def comN (x:Rx):Int:=if x.part=1 then (x.sub:Int) else 3
def comC (x:Rx):Md.Cv.Cs:=⟨2,3,x.th,comN x,x.claim,x.stamp⟩
structure RdLike (x:Rx) (r:Md.Ce.Rd):Prop where
 p:r.p=3+x.b
 c:r.c=x.cell
 s:r.s=x.stamp
 k:r.k=x.sub
 v:x.sub=1∨x.sub=2->r.v=x.ver
 x:x.sub=2->r.x=fixB x.now.toNat
def RdOk (x:Rx) (q:Option Nat) (r:Md.Ce.Rd):Prop:=(q=none/\x.cell<0)∨((∃ i,q=some i)/\0<=x.cell/\RdLike x r)
section
variable {x:Rx} {ws:List Int}
theorem aK1 {ws:List Int} {i:Int} (h:0<=i) (k:i<(ws.length:Int)):hasB ws i=true:=zT ⟨h,k⟩
theorem a88 {ws:List Int} {i:Int} (h:0<=i) (k:i<(ws.length:Int)):errA ws true i=0:=by unfold errA;rw[aK1 h k];rfl
theorem bA8 (hI:In0 x):Md.Cv.COk (comC x):=by
 refine⟨?_,fun h=>?_,fun h=>?_⟩
 ·show comN x=0∨comN x=1∨comN x=2∨comN x=3
  unfold comN
  by_cases e:x.part=1
  ·have:=(hI.p1 e).1
   rw[if_pos e];omega
  ·rw[if_neg e];omega
 ·have h':comN x=0:=h
  unfold comN at h'
  by_cases e:x.part=1
  ·rw[if_pos e]at h'
   exact(hI.p1 e).2.2.2.1 (by omega)
  ·rw[if_neg e]at h';omega
 ·have h':comN x≠3:=h
  unfold comN at h'
  by_cases e:x.part=1
  ·exact(hI.p1 e).2.2.1
  ·rw[if_neg e]at h';exact absurd rfl h'
theorem bb5 (hI:In0 x) (hp:x.part=1) (hl:plW x<=(ws.length:Int)) (n:Int):Md.Cv.cE (comC x) ws true=0/\Md.Cv.cO (comC x) ws true=decide (x.sub=2)/\Md.Cv.cW (comC x) ws true=(a63 x ws).2/\Md.Cv.cP (comC x) ws true=false/\Md.Cv.cQ (comC x) ws true n=up n/\Md.Cv.cC (comC x) ws true=comC (a63 x ws).1:=by
 have hs:=(hI.p1 hp).1;have ht:=hI.th;have hb:=hI.cb;have ha:=hI.ca;have hN:(comC x).N=(x.sub:Int):=by show comN x=_;unfold comN;rw[if_pos hp]
 have hpl:Md.Cv.plc 3 x.th=3+x.th:=by unfold Md.Cv.plc;rw[if_pos (by omega)]
 unfold plW at hl;have hE:Md.Cv.cE (comC x) ws true=0:=by
  unfold Md.Cv.cE;rw[if_neg (by rw[hN];omega),show Md.Cv.may8 (comC x).T=true from zT (by show 0<=x.th/\x.th<8;omega),if_pos rfl];unfold Md.Cv.cI
  split
  ·show errA ws true (Md.Cv.plc 3 x.th)=0
   rw[hpl];exact a88 (by omega) (by omega)
  ·exact a88 (by show (0:Int)<=2;omega) (by show (2:Int)<_;omega)
 refine⟨hE,?_,?_,?_,?_,?_⟩
 ·unfold Md.Cv.cO
  rw[hE,hN]
  simp
  omega
 ·unfold Md.Cv.cW a63
  rw[if_pos hE,hN]
  rcases(by omega:x.sub=0∨x.sub=1∨x.sub=2) with d | d | d
  ·rw[if_neg (by omega),if_pos d]
  ·rw[if_pos (by omega),if_neg (by omega),if_pos d]
   show ws.set (Md.Cv.plc 3 x.th).toNat _=_
   rw[hpl]
   rfl
  ·rw[if_neg (by omega),if_neg (by omega),if_neg (by omega)]
 ·unfold Md.Cv.cP;rw[if_pos hE]
 ·unfold Md.Cv.cQ;rw[if_pos hE]
 ·unfold Md.Cv.cC a63
  rw[if_pos hE,hN]
  rcases(by omega:x.sub=0∨x.sub=1∨x.sub=2) with d | d | d
  ·rw[if_pos (by omega),if_neg (by omega),if_pos d]
   simp[comC,comN,hp,d]
  ·rw[if_neg (by omega),if_neg (by omega),if_neg (by omega),if_pos d]
   simp[comC,comN,hp,d]
  ·rw[if_neg (by omega),if_pos (by omega),if_neg (by omega),if_neg (by omega)]
   simp[comC,comN,d]
theorem aN7 (x:Rx) (ws:List Int):(a63 x ws).1.m=x.m/\(a63 x ws).1.args=x.args/\(a63 x ws).1.a=x.a/\(a63 x ws).1.b=x.b/\(a63 x ws).1.th=x.th/\(a63 x ws).1.tag=x.tag/\(a63 x ws).1.steps=x.steps/\(a63 x ws).1.cell=x.cell/\(x.sub=0∨x.sub=1->(a63 x ws).1.part=x.part)/\(x.sub=2->(a63 x ws).1.part=2):=by
 unfold a63
 split
 ·exact⟨rfl,rfl,rfl,rfl,rfl,rfl,rfl,rfl,fun _=>rfl,fun h=>by omega⟩
 ·split
  ·exact⟨rfl,rfl,rfl,rfl,rfl,rfl,rfl,rfl,fun _=>rfl,fun h=>by omega⟩
  ·exact⟨rfl,rfl,rfl,rfl,rfl,rfl,rfl,rfl,fun h=>by omega,fun h=>rfl⟩
theorem bi2 {r:Md.Ce.Rd} (ha:1<=x.a/\x.a<=256) (hb:1<=x.b/\x.b<=8) (hn:u64B x.now) (h:RdLike x r) (hc:0<=x.cell) (hca:x.cell<x.a) (hs:x.sub<=3) (hl:plW x<=(ws.length:Int)) (hW:okW ws):Md.Ce.errR r ws true=0 /\
  (((a33 x ws).cell=-1/\Md.Ce.endR r ws true=true/\(a33 x ws).m=a71 x.m (Md.Ce.stepR r ws true).y/\(Md.Ce.stepR r ws true).y<18446744073709551616)∨((a33 x ws).cell=x.cell/\Md.Ce.endR r ws true=false/\(a33 x ws).m=x.m/\RdLike (a33 x ws) (Md.Ce.stepR r ws true))):=by
 have hk:r.k=x.sub:=h.k;unfold plW at hl;have P:∀ j:Int,Md.Ce.placeI r.p r.c j=atW x j:=fun j=>by
  rw[h.p,h.c];unfold Md.Ce.placeI atW;rw[if_pos (by omega)]
 have hw:=Md.Ce.wrd_in r.k;have A:Md.Ce.errR r ws true=0:=by
  unfold Md.Ce.errR Md.Ce.errC;rw[if_pos (by omega),show Md.Ce.mayC r.c=true from zT (by rw[h.c];omega),if_pos rfl,P];unfold atW;exact a88 (by omega) (by omega)
 have S:Md.Ce.stepR r ws true=Md.Ce.nxt r (wordAt ws (atW x (Md.Ce.wrd x.sub))):=by
  unfold Md.Ce.stepR Md.Ce.wordC;rw[if_pos A,P,hk]
 refine⟨A,?_⟩;unfold Md.Ce.endR;rw[A,S]
 rcases(by omega:x.sub=0∨x.sub=1∨x.sub=2∨x.sub=3) with d | d | d | d
 ·have W0:Md.Ce.wrd x.sub=0:=by rw[d];rfl
  rw[W0]
  generalize hu:wordAt ws (atW x 0)=u
  have N:Md.Ce.nxt r u={ r with v:=u,k:=(if x.stamp<u then 3 else 1),n:=up r.n }:=by unfold Md.Ce.nxt Md.Ce.nx0;rw[if_pos (by omega),h.s]
  have R:a33 x ws={ x with ver:=u,sub:=if x.stamp<u then 3 else 1 }:=by unfold a33;rw[if_pos d,hu]
  rw[N,R];have k4:¬ 4<=(if x.stamp<u then 3 else 1:Nat):=by split <;> omega
  exact .inr ⟨rfl,by simp[k4],rfl,⟨h.p,h.c,h.s,rfl,fun _=>rfl,fun e=>by dsimp only at e;split at e <;> omega⟩⟩
 ·have W1:Md.Ce.wrd x.sub=1:=by rw[d];rfl
  rw[W1]
  generalize hu:wordAt ws (atW x 1)=u
  have N:Md.Ce.nxt r u={ r with x:=fixB u.toNat,k:=2,n:=up r.n }:=by unfold Md.Ce.nxt Md.Ce.nx0;rw[if_neg (by omega),if_pos (by omega)]
  have R:a33 x ws={ x with now:=u,sub:=2 }:=by unfold a33;rw[if_neg (by omega),if_pos d,hu]
  rw[N,R];exact .inr ⟨rfl,by simp,rfl,⟨h.p,h.c,h.s,rfl,fun _=>h.v (.inl d),fun _=>rfl⟩⟩
 ·have W2:Md.Ce.wrd x.sub=0:=by rw[d];rfl
  rw[W2]
  generalize hu:wordAt ws (atW x 0)=u
  have hv:=h.v (.inr d)
  by_cases e:u=x.ver
  ·have N:Md.Ce.nxt r u={ r with y:=r.x,k:=4,n:=up r.n }:=by unfold Md.Ce.nxt Md.Ce.nx0;rw[if_neg (by omega),if_neg (by omega),if_pos (by omega),if_pos (e.trans hv.symm)]
   have R:a33 x ws={ x with m:=a71 x.m (fixB x.now.toNat),cell:=-1,sub:=3 }:=by unfold a33;rw[if_neg (by omega),if_neg (by omega),if_pos d,hu,if_pos e]
   rw[N,R];exact .inl ⟨rfl,by simp,by rw[h.x d],by show r.x<_;rw[h.x d];exact b06 _ hn⟩
  ·have N:Md.Ce.nxt r u={ r with t:=true,k:=3,n:=up r.n }:=by unfold Md.Ce.nxt Md.Ce.nx0;rw[if_neg (by omega),if_neg (by omega),if_pos (by omega),if_neg (fun y=>e (y.trans hv))]
   have R:a33 x ws={ x with sub:=3 }:=by unfold a33;rw[if_neg (by omega),if_neg (by omega),if_pos d,hu,if_neg e]
   rw[N,R];exact .inr ⟨rfl,by simp,rfl,⟨h.p,h.c,h.s,rfl,fun y=>by dsimp only at y;omega,fun y=>by dsimp only at y;omega⟩⟩
 ·have W3:Md.Ce.wrd x.sub=2:=by rw[d];rfl
  rw[W3];have hu64:=hW.at (atW x 2)
  generalize hu:wordAt ws (atW x 2)=u at hu64 ⊢
  have N:Md.Ce.nxt r u={ r with y:=fixB u.toNat,k:=4,n:=up r.n }:=by unfold Md.Ce.nxt Md.Ce.nx0;rw[if_neg (by omega),if_neg (by omega),if_neg (by omega)]
  have R:a33 x ws={ x with m:=a71 x.m (fixB u.toNat),cell:=-1 }:=by unfold a33;rw[if_neg (by omega),if_neg (by omega),if_neg (by omega),hu]
  rw[N,R];exact .inl ⟨rfl,by simp,rfl,b06 _ hu64⟩
end
section
variable {W w:World} {G0:List Nat} {b mb mg:Nat} {x:Rx} {z:Rz} {q:Option Nat} {c:Md.Cv.Cs} {r:Md.Ce.Rd} {ws:List Int} {o:Bool} {n:Int}
theorem over_any (h:Mid W G0 b z mb mg w x q c r ws o n):Calls Tryz.prog 332 #[.pointer (some ⟨b,0,none⟩)] w fun e w'=>e=.returned (.bool (decide ((x.part:Int)=4)))/\w'=w:=by
 have h11:w.cell? ⟨b,11,none⟩=some (.int .i64 (x.part:Int)):=(h.cell 11).trans rfl;have hb:=h.ltB;clear h;go_enter Tryz.func332,Tryz.ntmps332
 go_wp2
 go_ret;exact⟨rfl,rfl⟩
theorem ai3 (h:Mid W G0 b z mb mg w x q c r ws o n):Calls Tryz.prog 333 #[.pointer (some ⟨b,0,none⟩),.pointer (some ⟨mb,0,none⟩)] w fun e w'=>e=.returned (.bool (decide (plW x<=(ws.length:Int))))/\Same w w':=by
 have h5:w.cell? ⟨b,5,none⟩=some (.int .i64 (plW x)):=(h.cell 5).trans rfl;have hb:=h.ltB;have HL:=zH (Md.len_any h.drew.mem)
 generalize plW x=pl at h5 ⊢
 clear h;go_enter Tryz.func333,Tryz.ntmps333;go_wp2_with fail;refine a05 (fun u=>u.cell? ⟨b,5,none⟩=some (.int .i64 pl) )  ((0,true)::(2,true)::(3,true)::(4,true)::(5,true)::(6,true)::(1,false)::(7,true)::(8,true)::[])  Md.Cv.follows13 (by kernel_rfl) (fun _ _ _ _ _ h=>h)  h5 ?_
 (repeat ((first | (refine a02 (v:=?_) rfl (by rfl) (fun wq hSq=>?_) ?_;rotate_left;(focus ((try dsimp only at hSq);go_simp;try with_reducible rfl))) | refine a03 rfl (by rfl) ?_);simp only[Act.put,zA,zB,zC]))
 (refine a04 rfl (by rfl) (fun KK hK=>?_);go_simp)
 refine HL.out.mono ?_;rintro e w1 ⟨rfl,hw⟩;subst w1;refine hK.out _ _ h5 ?_
 (clear hK KK;try simp only[Act.put,zA,zB,zC])
 (repeat ((first | (refine a02 (v:=?_) rfl (by rfl) (fun wq hSq=>?_) ?_;rotate_left;(focus ((try dsimp only at hSq);go_simp;try with_reducible rfl))) | refine a03 rfl (by rfl) ?_);simp only[Act.put,zA,zB,zC]))
 refine a07 ?_;go_wp2_with fail;go_ret;exact⟨rfl,Same.drew _⟩
theorem open_any (h:Mid W G0 b z mb mg w x q c r ws o n) (h0:0<=x.steps) (h1:x.steps<=100000):Calls Tryz.prog 334 #[.pointer (some ⟨b,0,none⟩),.pointer (some ⟨mb,0,none⟩)] w fun e w'=>e=.returned (.tuple #[])/\Mid W G0 b z mb mg w' (a29 x) q c r ws true n:=by
 have HL:=zH (Md.open_any h.mem);have HD:Hid (∀ w',MemAt 145 w' mb mg ws true n->Chg mb mg w w'->Mid W G0 b z mb mg w' x q c r ws true n):=fun w' k1 k2=>h.memb k2 k1
 have HP:Hid (∀ w',Mid W G0 b z mb mg w' x q c r ws true n->Mid W G0 b z mb mg (w'.setCell ⟨b,7,none⟩ (.int .i64 (x.steps+1))) (a29 x) q c r ws true n):=fun w' k=>k.put 7 _ (a29 x) rfl rfl rfl
 clear h;go_enter Tryz.func334,Tryz.ntmps334
 go_wp2_with (go_at_call 324;refine HL.out.mono ?_;rintro e w1 ⟨rfl,k1,k2⟩;have HQ:=zH (HD.out _ k1 k2);have e7:w1.cell? ⟨b,7,none⟩=some (.int .i64 x.steps):=(HQ.out.cell 7).trans rfl;have f7:=HQ.out.free 7;have lb:=HQ.out.ltB;clear k1 k2 HL HD)
 go_end0
 exact⟨rfl,HP.out _ HQ.out⟩
theorem come_any (h:Mid W G0 b z mb mg w x q (comC x) r ws true n) (hI:In0 x) (hp:x.part=1) (hl:plW x<=(ws.length:Int)):Calls Tryz.prog 335 #[.pointer (some ⟨b,0,none⟩),.pointer (some ⟨mb,0,none⟩)] w fun e w'=>e=.returned (.tuple #[])/\Mid W G0 b z mb mg w' (a63 x ws).1 q (comC (a63 x ws).1) r (a63 x ws).2 false (up n):=by
 obtain⟨f1,f2,f3,f4,f5,f6⟩:=bb5 hI hp hl n;have HS:=zH (Md.Cv.cstep_any h.mem h.com (bA8 hI));rw[f1,f2,f3,f4,f5,f6]at HS;have hs2:=(hI.p1 hp).1;obtain⟨g1,g2,g3,g4,g5,g6,g7,g8,g9,g10⟩:=aN7 x ws;have h12:w.cell? ⟨b,12,none⟩=some (.pointer (some ⟨z.xc,0,none⟩)):=(h.cell 12).trans rfl;have hb:=h.ltB;have HD:Hid (∀ w',MemAt 145 w' mb mg (a63 x ws).2 false (up n)->Md.Cv.CmAt w' z.xc (comC (a63 x ws).1)->Md.Cv.Ch3 mb mg z.xc w w'->Mid W G0 b z mb mg w' x q (comC (a63 x ws).1) r (a63 x ws).2 false (up n)):=fun w' k1 k2 k3=>h.comes k3 k1 k2
 by_cases d:x.sub=2
 ·have HP:Hid (∀ w',Mid W G0 b z mb mg w' x q (comC (a63 x ws).1) r (a63 x ws).2 false (up n)->Mid W G0 b z mb mg (w'.setCell ⟨b,11,none⟩ (.int .i64 2)) (a63 x ws).1 q (comC (a63 x ws).1) r (a63 x ws).2 false (up n)):=fun w' k=>k.put 11 _ _ (by unfold aj2;rw[g2,g3,g4,g5,g6,g7,g10 d];rfl) g1 g2
  rw[zT d]at HS;clear h f1 f2 f3 f4 f5 f6 g1 g2 g3 g4 g5 g6 g7 g8 g9 g10;go_enter Tryz.func335,Tryz.ntmps335
  go_wp2_with (go_at_call 339;refine HS.out.mono ?_;rintro e w1 ⟨rfl,k1,k2,k3⟩;have HQ:=zH (HD.out _ k1 k2 k3);have e11:w1.cell? ⟨b,11,none⟩=some (.int .i64 (x.part:Int)):=(HQ.out.cell 11).trans rfl;have f11:=HQ.out.free 11;have lb:=HQ.out.ltB;clear k1 k2 k3 HS HD)
  go_end0
  exact⟨rfl,HP.out _ HQ.out⟩
 ·have HP:Hid (∀ w',Mid W G0 b z mb mg w' x q (comC (a63 x ws).1) r (a63 x ws).2 false (up n)->Mid W G0 b z mb mg w' (a63 x ws).1 q (comC (a63 x ws).1) r (a63 x ws).2 false (up n)):=fun w' k=>by
   obtain⟨F,k1,k2⟩:=k;exact⟨F,⟨by have:=k1.box;unfold aj2 at this ⊢;rw[g2,g3,g4,g5,g6,g7,g9 (by omega)];exact this,by rw[g1];exact k1.mac,k1.com,k1.rd,by rw[g2];exact k1.arg,k1.sf,k1.sk,k1.fa⟩,k2⟩
  rw[zU d]at HS;clear h f1 f2 f3 f4 f5 f6 g1 g2 g3 g4 g5 g6 g7 g8 g9 g10;go_enter Tryz.func335,Tryz.ntmps335
  go_wp2_with (go_at_call 339;refine HS.out.mono ?_;rintro e w1 ⟨rfl,k1,k2,k3⟩;have HQ:=zH (HD.out _ k1 k2 k3);clear k1 k2 k3 HS HD)
  go_end0
  exact⟨rfl,HP.out _ HQ.out⟩
theorem leave_any (h:Mid W G0 b z mb mg w x q c r ws true n) (hI:In0 x) (hl:plW x<=(ws.length:Int)):Calls Tryz.prog 337 #[.pointer (some ⟨b,0,none⟩),.pointer (some ⟨mb,0,none⟩)] w fun e w'=>e=.returned (.tuple #[])/\Mid W G0 b z mb mg w' (ap7 x) q c r (ws.set (3+x.th).toNat 0) false (up n):=by
 have ht:=hI.th;have hb8:=hI.cb;have ha:=hI.ca;have hm8:Md.Cv.may8 x.th=true:=zT (by omega);have hpl:Md.Cv.plc 3 x.th=3+x.th:=by unfold Md.Cv.plc;rw[if_pos (by omega)]
 unfold plW at hl;have hE:errA ws true (3+x.th)=0:=a88 (by omega) (by omega);obtain⟨f1,f2,f3,_⟩:=Md.Cv.ok_facts hE;have HL:=zH (Md.Cv.leave_any h.drew.mem 0 1 2 3 (3+x.b) (3+x.b+3*x.a) x.th);unfold Md.Cv.lE Md.Cv.lW Md.Cv.lO Md.Cv.lC Md.Cv.plnV at HL;rw[hm8,if_pos rfl,if_pos rfl,if_pos rfl,if_pos rfl,hpl,hE,f1,f2,f3]at HL;have h0:w.cell? ⟨b,0,none⟩=some (.int .i64 0):=(h.cell 0).trans rfl;have h1:w.cell? ⟨b,1,none⟩=some (.int .i64 1):=(h.cell 1).trans rfl;have h2:w.cell? ⟨b,2,none⟩=some (.int .i64 2):=(h.cell 2).trans rfl;have h3:w.cell? ⟨b,3,none⟩=some (.int .i64 3):=(h.cell 3).trans rfl;have h4:w.cell? ⟨b,4,none⟩=some (.int .i64 (3+x.b)):=(h.cell 4).trans rfl;have h5:w.cell? ⟨b,5,none⟩=some (.int .i64 (3+x.b+3*x.a)):=(h.cell 5).trans rfl;have h10:w.cell? ⟨b,10,none⟩=some (.int .i64 x.th):=(h.cell 10).trans rfl;have hb:=h.ltB;have HD:Hid (∀ w',MemAt 145 w' mb mg (ws.set (3+x.th).toNat 0) false (up n)->Chg mb mg w.drew w'->Mid W G0 b z mb mg w' x q c r (ws.set (3+x.th).toNat 0) false (up n)):=fun w' k1 k2=>h.drew.memb k2 k1
 have HP:Hid (∀ w',Mid W G0 b z mb mg w' x q c r (ws.set (3+x.th).toNat 0) false (up n)->Mid W G0 b z mb mg (w'.setCell ⟨b,11,none⟩ (.int .i64 4)) (ap7 x) q c r (ws.set (3+x.th).toNat 0) false (up n)):=fun w' k=>k.put 11 _ (ap7 x) rfl rfl rfl
 clear h f1 f2 f3 hm8 hpl hE hl;have HE4:Hid (∀ w',Mid W G0 b z mb mg w' x q c r (ws.set (3+x.th).toNat 0) false (up n)->w'.cell? ⟨b,4,none⟩=some (.int .i64 (3+x.b))):=fun w' k=>(k.cell 4).trans rfl
 have HE5:Hid (∀ w',Mid W G0 b z mb mg w' x q c r (ws.set (3+x.th).toNat 0) false (up n)->w'.cell? ⟨b,5,none⟩=some (.int .i64 (3+x.b+3*x.a))):=fun w' k=>(k.cell 5).trans rfl
 generalize 3+x.b+3*x.a=p5 at *
 generalize 3+x.b=p4 at *
 go_enter Tryz.func337,Tryz.ntmps337;go_wp2_with fail;refine a05 (fun u=>u.cell? ⟨b,0,none⟩=some (.int .i64 0)/\u.cell? ⟨b,1,none⟩=some (.int .i64 1)/\u.cell? ⟨b,2,none⟩=some (.int .i64 2)/\u.cell? ⟨b,3,none⟩=some (.int .i64 3)/\u.cell? ⟨b,4,none⟩=some (.int .i64 p4)/\u.cell? ⟨b,5,none⟩=some (.int .i64 p5)/\u.cell? ⟨b,10,none⟩=some (.int .i64 x.th) )  ((0,true)::(1,true)::(2,true)::(3,true)::(4,true)::(5,true)::(6,true)::(7,true)::(8,true)::(9,true)::(10,false)::[])  Md.Cv.follows13 (by kernel_rfl) (fun _ _ _ _ _ h=>h)  ⟨h0,h1,h2,h3,h4,h5,h10⟩ ?_
 (repeat ((first | (refine a02 (v:=?_) rfl (by rfl) (fun wq hSq=>?_) ?_;rotate_left;(focus ((try dsimp only at hSq);go_simp;try with_reducible rfl))) | refine a03 rfl (by rfl) ?_);simp only[Act.put,zA,zB,zC]))
 (refine a04 rfl (by rfl) (fun KK hK=>?_);go_simp)
 refine HL.out.mono ?_;rintro e w1 ⟨rfl,k1,k2⟩;have HQ:=zH (HD.out _ k1 k2);have e11:w1.cell? ⟨b,11,none⟩=some (.int .i64 (x.part:Int)):=(HQ.out.cell 11).trans rfl;have f11:=HQ.out.free 11;have lb:=HQ.out.ltB;clear k1 k2 HL HD;refine hK.out _ _ ⟨(HQ.out.cell 0).trans rfl,(HQ.out.cell 1).trans rfl,(HQ.out.cell 2).trans rfl,(HQ.out.cell 3).trans rfl,HE4.out _ HQ.out,HE5.out _ HQ.out,(HQ.out.cell 10).trans rfl⟩ ?_
 (clear hK KK;try simp only[Act.put,zA,zB,zC])
 refine a07 ?_;go_wp2_with fail
 go_end0
 exact⟨rfl,HP.out _ HQ.out⟩
end
attribute [local go_sem] a00
section
variable {W w:World} {G0:List Nat} {b mb mg:Nat} {x:Rx} {z:Rz} {q:Option Nat} {c:Md.Cv.Cs} {r:Md.Ce.Rd} {ws:List Int} {o:Bool} {n:Int}
theorem Mid.plan (h:Mid W G0 b z mb mg w x q c r ws o n) {p4 p5:Int} (h4:3+x.b=p4) (h5:3+x.b+3*x.a=p5):(w.cell? ⟨b,0,none⟩=some (.int .i64 0)/\w.cell? ⟨b,1,none⟩=some (.int .i64 1)/\w.cell? ⟨b,2,none⟩=some (.int .i64 2)/\w.cell? ⟨b,3,none⟩=some (.int .i64 3)/\w.cell? ⟨b,4,none⟩=some (.int .i64 p4)/\w.cell? ⟨b,5,none⟩=some (.int .i64 p5))/\w.cell? ⟨b,6,none⟩=some (.pointer (some ⟨z.bm,0,none⟩))/\w.cell? ⟨b,12,none⟩=some (.pointer (some ⟨z.xc,0,none⟩))/\w.cell? ⟨b,13,none⟩=some (ptrV q)/\b<w.heap.size/\w.frozen? ⟨b,13,none⟩=false:=by
 subst h4 h5;exact⟨⟨(h.cell 0).trans rfl,(h.cell 1).trans rfl,(h.cell 2).trans rfl,(h.cell 3).trans rfl,(h.cell 4).trans rfl,(h.cell 5).trans rfl⟩,(h.cell 6).trans rfl,(h.cell 12).trans rfl,(h.cell 13).trans rfl,h.ltB,h.free 13⟩
theorem Mid.step (h:Mid W G0 b z mb mg w x q c r ws o n) (hT:a78 W G0) (hI:Inv x.m) {M:Mac} {A:Ask} (hM:(a08 x.m).1=M) (hA:(a08 x.m).2=A):Calls Tryz.prog 214 #[.pointer (some ⟨z.bm,0,none⟩)] w fun e w'=>e=.returned (.agg #[.int .i64 A.kind,.int .i64 A.cell,.float .f64 A.x,.bool A.first])/\Mid W G0 b z mb mg w' { x with m:=M } q c r ws o n:=by
 obtain⟨F,g,tb,go⟩:=h.mach;subst hM hA;refine(step_any g (tb hT) hI).mono ?_;rintro e w' ⟨rfl,k⟩;exact⟨rfl,go _ _ k⟩
theorem Mid.give (h:Mid W G0 b z mb mg w x q c r ws o n) (hI:Inv x.m) (y:Nat) {M:Mac} (hM:a71 x.m y=M):Calls Tryz.prog 215 #[.pointer (some ⟨z.bm,0,none⟩),.float .f64 y] w fun e w'=>e=.returned (.int .i64 (giveE x.m))/\Mid W G0 b z mb mg w' { x with m:=M } q c r ws o n:=by
 obtain⟨F,g,tb,go⟩:=h.mach;subst hM;refine(aO2 g hI y).mono ?_;rintro e w' ⟨rfl,k⟩;exact⟨rfl,go _ _ k⟩
theorem aT1 (h:Mid W G0 b z mb mg w x none c r ws o n) (hT:a78 W G0) (hI:Inv x.m) {M:Mac} {A:Ask} (hM:(a08 x.m).1=M) (hA:(a08 x.m).2=A) (hk:A.kind=1):Calls Tryz.prog 329 #[.pointer (some ⟨b,0,none⟩)] w fun e w'=>e=.returned (.tuple #[])/\∃ i0,Mid W G0 b z mb mg w' { x with m:=M } (some i0) c (Md.Ce.newR (3+x.b) A.cell c.S) ws o n:=by
 have HS:=zH (h.step hT hI hM hA);rw[hk]at HS;have h6:w.cell? ⟨b,6,none⟩=some (.pointer (some ⟨z.bm,0,none⟩)):=(h.cell 6).trans rfl;have hb:=h.ltB;clear h hM hA hT hI
 generalize h4:3+x.b=p4
 generalize h5:3+x.b+3*x.a=p5
 have HP:Hid (3+x.b=p4/\3+x.b+3*x.a=p5):=⟨h4,h5⟩;clear h4 h5;have HR:=zH (fun (v:World)=>Md.Ce.read_any v 0 1 2 3 p4 p5 A.cell c.S);unfold Md.Ce.planV at HR;go_enter Tryz.func329,Tryz.ntmps329
 go_wp2_with (go_at_call 214;refine HS.out.mono ?_;rintro e w1 ⟨rfl,k⟩;have HQ:=zH k;have lb:=k.ltB;clear k HS)
 obtain⟨w2,hw2⟩:∃ w2,w2=w1.alloc (.cells #[.int .i64 1,.int .i64 A.cell,.float .f64 A.x,.bool A.first] 165):=⟨_,rfl⟩
 rw[<- hw2];have HU:=zH ((HQ.out.alloc (.cells #[.int .i64 1,.int .i64 A.cell,.float .f64 A.x,.bool A.first] 165)).drew);rw[<- hw2]at HU;have eA:w2.cell? ⟨w1.heap.size,1,none⟩=some (.int .i64 A.cell):=by rw[hw2];simp[go_sem]
 have lA:w1.heap.size<w2.heap.size:=by rw[hw2];simp
 clear hw2 HQ;obtain⟨⟨e0,e1,e2,e3,e4,e5⟩,e6,e12,e13,eb,_⟩:=HU.out.plan HP.out.1 HP.out.2;refine a05 (fun u=>(u.cell? ⟨b,0,none⟩=some (.int .i64 0)/\u.cell? ⟨b,1,none⟩=some (.int .i64 1)/\u.cell? ⟨b,2,none⟩=some (.int .i64 2)/\u.cell? ⟨b,3,none⟩=some (.int .i64 3)/\u.cell? ⟨b,4,none⟩=some (.int .i64 p4)/\u.cell? ⟨b,5,none⟩=some (.int .i64 p5))/\u.cell? ⟨b,12,none⟩=some (.pointer (some ⟨z.xc,0,none⟩))/\u.cell? ⟨w1.heap.size,1,none⟩=some (.int .i64 A.cell) )  ((0,true)::(1,true)::(2,true)::(3,true)::(4,true)::(5,true)::(6,true)::(7,true)::(8,true)::(9,true)::(10,true)::(11,true)::(12,false)::(13,false)::(14,true)::(15,true)::(16,false)::[])  Md.Cv.follows13 (by kernel_rfl) (fun _ _ _ _ _ h=>h)  ⟨⟨e0,e1,e2,e3,e4,e5⟩,e12,eA⟩ ?_
 (repeat ((first | (refine a02 (v:=?_) rfl (by rfl) (fun wq hSq=>?_) ?_;rotate_left;(focus ((try dsimp only at hSq);go_simp;try with_reducible rfl))) | refine a03 rfl (by rfl) ?_);simp only[Act.put,zA,zB,zC]))
 (refine a04 rfl (by rfl) (fun KK hK=>?_);go_simp)
 refine(Md.Cv.stampC_any HU.out.com).mono ?_;rintro e u1 ⟨rfl,hw⟩;subst u1;refine hK.out _ _ ⟨⟨e0,e1,e2,e3,e4,e5⟩,e12,eA⟩ ?_
 (clear hK KK;try simp only[Act.put,zA,zB,zC])
 (refine a04 rfl (by rfl) (fun KK hK=>?_);go_simp)
 refine(HR.out _).mono ?_;rintro e u3 ⟨i0,rfl,k1,k2,k3⟩;have HV:=zH (HU.out.on k3);have HN:=zH (HU.out.readNew k3 k1 k2);have eA3:u3.cell? ⟨w1.heap.size,1,none⟩=some (.int .i64 A.cell):=(k3.cell (p:=⟨w1.heap.size,1,none⟩) lA).trans eA;obtain⟨⟨g0,g1,g2,g3,g4,g5⟩,g6,g12,g13,gb,g14⟩:=HV.out.plan HP.out.1 HP.out.2;refine hK.out _ _ ⟨⟨g0,g1,g2,g3,g4,g5⟩,g12,eA3⟩ ?_
 (clear hK KK;try simp only[Act.put,zA,zB,zC])
 (repeat ((first | (refine a02 (v:=?_) rfl (by rfl) (fun wq hSq=>?_) ?_;rotate_left;(focus ((try dsimp only at hSq);go_simp;try with_reducible rfl))) | refine a03 rfl (by rfl) ?_);simp only[Act.put,zA,zB,zC]))
 (refine a04 rfl (by rfl) (fun KK hK=>?_);go_simp)
 obtain⟨⟨y0,y1,y2,y3,y4,y5⟩,_,y12,_,_,_⟩:=HN.out.plan HP.out.1 HP.out.2;refine hK.out _ _ ⟨⟨y0,y1,y2,y3,y4,y5⟩,y12,(Md.Cv.cell_kept (zO _ _ _ _ (fun (e:w1.heap.size=b)=>by omega)) 1).trans eA3⟩ ?_
 (clear hK KK;try simp only[Act.put,zA,zB,zC])
 refine a07 ?_;go_wp2_with fail
 go_end0
 exact⟨rfl,i0,HN.out⟩
theorem b31 (h:Mid W G0 b z mb mg w x q c r ws o n) (hT:a78 W G0) (hI:Inv x.m) {M:Mac} {A:Ask} (hM:(a08 x.m).1=M) (hA:(a08 x.m).2=A) (hk:A.kind=4):Calls Tryz.prog 329 #[.pointer (some ⟨b,0,none⟩)] w fun e w'=>e=.returned (.tuple #[])/\Mid W G0 b z mb mg w' { x with m:=M,part:=3 } q c r ws o n:=by
 have HS:=zH (h.step hT hI hM hA);rw[hk]at HS;have h6:w.cell? ⟨b,6,none⟩=some (.pointer (some ⟨z.bm,0,none⟩)):=(h.cell 6).trans rfl;have hb:=h.ltB;have HD:Hid (∀ w1 y,Mid W G0 b z mb mg w1 { x with m:=M } q c r ws o n->Mid W G0 b z mb mg ((w1.setCell ⟨b,11,none⟩ (.int .i64 3)).alloc y) { x with m:=M,part:=3 } q c r ws o n):=fun w1 y k=>(k.put 11 (.int .i64 3) { x with m:=M,part:=3 } rfl rfl rfl).alloc y
 clear h hM hA hT hI;go_enter Tryz.func329,Tryz.ntmps329
 go_wp2_with (go_at_call 214;refine HS.out.mono ?_;rintro e w1 ⟨rfl,k⟩;have HQ:=zH k;have lb:=k.ltB;have e11:w1.cell? ⟨b,11,none⟩=some (.int .i64 (x.part:Int)):=(k.cell 11).trans rfl;have f11:=k.free 11;clear k HS)
 go_end0
 exact⟨rfl,HD.out _ _ HQ.out⟩
theorem be5 (h:Mid W G0 b z mb mg w x q c r ws o n) (hT:a78 W G0) (hI:Inv x.m) {M:Mac} {A:Ask} (hM:(a08 x.m).1=M) (hA:(a08 x.m).2=A) (h1:(A.kind == 1)=false) (h4:(A.kind == 4)=false):Calls Tryz.prog 329 #[.pointer (some ⟨b,0,none⟩)] w fun e w'=>e=.returned (.tuple #[])/\Mid W G0 b z mb mg w' { x with m:=M } q c r ws o n:=by
 have HS:=zH (h.step hT hI hM hA);have h6:w.cell? ⟨b,6,none⟩=some (.pointer (some ⟨z.bm,0,none⟩)):=(h.cell 6).trans rfl;have hb:=h.ltB;clear h hM hA hT hI;go_enter Tryz.func329,Tryz.ntmps329
 go_wp2_with (go_at_call 214;refine HS.out.mono ?_;rintro e w1 ⟨rfl,k⟩;have HQ:=zH k;clear k HS)
 go_end0
 exact⟨rfl,HQ.out.alloc _⟩
theorem Mid.nq (h:Mid W G0 b z mb mg w x q c r ws o n) {i0:Nat} (hq:q=some i0):i0≠mb/\i0≠mg:=by
 obtain⟨F,h1,_,h3,_⟩:=h;exact⟨fun e=>h3 mb (by simp) (e ▸ in_q hq),fun e=>h3 mg (by simp) (e ▸ in_q hq)⟩
theorem bw6 {i0:Nat} (h:Mid W G0 b z mb mg w x (some i0) c r ws true n) (hE:Md.Ce.errR r ws true=0) (hD:Md.Ce.endR r ws true=false):Calls Tryz.prog 340 #[.pointer (some ⟨b,0,none⟩),.pointer (some ⟨mb,0,none⟩)] w fun e w'=>e=.returned (.tuple #[])/\Mid W G0 b z mb mg w' x (some i0) c (Md.Ce.stepR r ws true) ws false (up n):=by
 have HS:=zH (Md.Ce.rstep_any h.mem (h.rd rfl) (h.nq rfl).1 (h.nq rfl).2);rw[hE,hD]at HS;have HQ0:Hid (∀ w',MemAt 145 w' mb mg ws false (up n)->Md.Ce.RdAt w' i0 (Md.Ce.stepR r ws true)->Md.Ce.Ch [mb,mg,i0] w w'->Mid W G0 b z mb mg w' x (some i0) c (Md.Ce.stepR r ws true) ws false (up n)):=fun w' k1 k2 k3=>h.reads rfl k3 k1 k2
 have h13:w.cell? ⟨b,13,none⟩=some (.pointer (some ⟨i0,0,none⟩)):=(h.cell 13).trans rfl;have hb:=h.ltB;unfold Md.Ce.aftO Md.Ce.aftN at HS;rw[if_pos rfl,if_pos rfl]at HS;clear h hE hD;go_enter Tryz.func340,Tryz.ntmps340
 go_wp2_with (go_at_call 346;refine HS.out.mono ?_;rintro e w1 ⟨rfl,k1,k2,k3⟩;have HQ:=zH (HQ0.out _ k1 k2 k3);clear k1 k2 k3 HS)
 go_end0
 exact⟨rfl,HQ.out⟩
theorem bi0 {i0:Nat} (h:Mid W G0 b z mb mg w x (some i0) c r ws true n) (hI:Inv x.m) (hE:Md.Ce.errR r ws true=0) (hD:Md.Ce.endR r ws true=true) {M:Mac} (hM:a71 x.m (Md.Ce.stepR r ws true).y=M):Calls Tryz.prog 340 #[.pointer (some ⟨b,0,none⟩),.pointer (some ⟨mb,0,none⟩)] w fun e w'=>e=.returned (.tuple #[])/\Mid W G0 b z mb mg w' { x with m:=M } none c (Md.Ce.stepR r ws true) ws false (up n):=by
 have HS:=zH (Md.Ce.rstep_any h.mem (h.rd rfl) (h.nq rfl).1 (h.nq rfl).2);rw[hE,hD]at HS;have HQ0:Hid (∀ w',MemAt 145 w' mb mg ws false (up n)->Md.Ce.RdAt w' i0 (Md.Ce.stepR r ws true)->Md.Ce.Ch [mb,mg,i0] w w'->Mid W G0 b z mb mg w' x (some i0) c (Md.Ce.stepR r ws true) ws false (up n)):=fun w' k1 k2 k3=>h.reads rfl k3 k1 k2
 have HG:Hid (∀ w',Mid W G0 b z mb mg w' x (some i0) c (Md.Ce.stepR r ws true) ws false (up n)->Calls Tryz.prog 215 #[.pointer (some ⟨z.bm,0,none⟩),.float .f64 (Md.Ce.stepR r ws true).y] w' fun e w2=>e=.returned (.int .i64 (giveE x.m))/\Mid W G0 b z mb mg w2 { x with m:=M } (some i0) c (Md.Ce.stepR r ws true) ws false (up n)):=fun w' k=>k.give hI _ hM
 have h13:w.cell? ⟨b,13,none⟩=some (.pointer (some ⟨i0,0,none⟩)):=(h.cell 13).trans rfl;have hb:=h.ltB;unfold Md.Ce.aftO Md.Ce.aftN at HS;rw[if_pos rfl,if_pos rfl]at HS;clear h hE hD hM
 generalize Md.Ce.stepR r ws true=r' at *
 generalize giveE x.m=ge at *
 go_enter Tryz.func340,Tryz.ntmps340
 go_wp2_with (go_at_call 346;refine HS.out.mono ?_;rintro e w1 ⟨rfl,k1,k2,k3⟩;have HQ:=zH (HQ0.out _ k1 k2 k3);clear k1 k2 k3 HS)
 have HU:=zH HQ.out.drew;have e6:w1.cell? ⟨b,6,none⟩=some (.pointer (some ⟨z.bm,0,none⟩)):=(HQ.out.cell 6).trans rfl;have e13:w1.cell? ⟨b,13,none⟩=some (.pointer (some ⟨i0,0,none⟩)):=(HQ.out.cell 13).trans rfl;have lb:=HQ.out.ltB;clear HQ HQ0;refine a05 (fun u=>u.cell? ⟨b,6,none⟩=some (.pointer (some ⟨z.bm,0,none⟩))/\u.cell? ⟨b,13,none⟩=some (.pointer (some ⟨i0,0,none⟩)) )  ((0,true)::(1,true)::(2,true)::(3,true)::(4,true)::(5,true)::(6,true)::(7,true)::(8,true)::(9,false)::(10,false)::[])  Md.Cv.follows13 (by kernel_rfl) (fun _ _ _ _ _ h=>h)  ⟨e6,e13⟩ ?_
 (repeat ((first | (refine a02 (v:=?_) rfl (by rfl) (fun wq hSq=>?_) ?_;rotate_left;(focus ((try dsimp only at hSq);go_simp;try with_reducible rfl))) | refine a03 rfl (by rfl) ?_);simp only[Act.put,zA,zB,zC]))
 (refine a04 rfl (by rfl) (fun KK hK=>?_);go_simp)
 refine(Md.Ce.value_any (HU.out.rd rfl)).mono ?_;rintro e u1 ⟨rfl,hw⟩;subst u1;refine hK.out _ _ ⟨e6,e13⟩ ?_
 (clear hK KK;try simp only[Act.put,zA,zB,zC])
 (refine a04 rfl (by rfl) (fun KK hK=>?_);go_simp)
 refine(HG.out _ HU.out).mono ?_;rintro e w2 ⟨rfl,k⟩;have HV:=zH k;have l2:=k.ltB;have d13:w2.cell? ⟨b,13,none⟩=some (.pointer (some ⟨i0,0,none⟩)):=(k.cell 13).trans rfl;have f13:=k.free 13;refine hK.out _ _ ⟨(k.cell 6).trans rfl,d13⟩ ?_;clear k
 (clear hK KK;try simp only[Act.put,zA,zB,zC])
 refine a07 ?_;go_wp2_with fail
 go_end0
 exact⟨rfl,HV.out.readOver⟩
end
def Full (W:World) (G0:List Nat) (b:Nat) (z:Rz) (mb mg:Nat) (w:World) (x:Rx) (ws:List Int) (o:Bool) (n:Int):Prop:=∃ q r,Mid W G0 b z mb mg w x q (comC x) r ws o n/\RdOk x q r
section
variable {W w:World} {G0:List Nat} {b mb mg:Nat} {x:Rx} {z:Rz} {q:Option Nat} {c:Md.Cv.Cs} {r:Md.Ce.Rd} {ws:List Int} {o:Bool} {n:Int}
theorem Mid.like (h:Mid W G0 b z mb mg w x q c r ws o n) {y:Rx} (e:aj2 y z q=aj2 x z q) (em:y.m=x.m) (ea:y.args=x.args):Mid W G0 b z mb mg w y q c r ws o n:=by
 obtain⟨F,k1,k2⟩:=h;exact⟨F,⟨by rw[e];exact k1.box,by rw[em];exact k1.mac,k1.com,k1.rd,by rw[ea];exact k1.arg,k1.sf,k1.sk,k1.fa⟩,k2⟩
theorem b61 (x:Rx) (ws:List Int):(a33 x ws).a=x.a/\(a33 x ws).b=x.b/\(a33 x ws).th=x.th/\(a33 x ws).tag=x.tag/\(a33 x ws).args=x.args/\(a33 x ws).steps=x.steps/\(a33 x ws).part=x.part/\(a33 x ws).claim=x.claim/\(a33 x ws).stamp=x.stamp:=by
 unfold a33
 split
 ·exact⟨rfl,rfl,rfl,rfl,rfl,rfl,rfl,rfl,rfl⟩
 ·split
  ·exact⟨rfl,rfl,rfl,rfl,rfl,rfl,rfl,rfl,rfl⟩
  ·split
   ·split <;> exact⟨rfl,rfl,rfl,rfl,rfl,rfl,rfl,rfl,rfl⟩
   ·exact⟨rfl,rfl,rfl,rfl,rfl,rfl,rfl,rfl,rfl⟩
theorem aG9 {i0:Nat} (h:Mid W G0 b z mb mg w x (some i0) c r ws true n) (hL:RdLike x r) (ha:1<=x.a/\x.a<=256) (hb:1<=x.b/\x.b<=8) (hn:u64B x.now) (hIm:Inv x.m) (hp:x.part=2) (hc:0<=x.cell) (hca:x.cell<x.a) (hs:x.sub<=3) (hcc:c=comC x) (hl:plW x<=(ws.length:Int)) (hW:okW ws):Calls Tryz.prog 340 #[.pointer (some ⟨b,0,none⟩),.pointer (some ⟨mb,0,none⟩)] w fun e w'=>e=.returned (.tuple #[])/\Full W G0 b z mb mg w' (a33 x ws) ws false (up n):=by
 obtain⟨b1,b2,b3,b4,b5,b6,b7,b8,b9⟩:=b61 x ws;have hcom:comC (a33 x ws)=c:=by
  rw[hcc];unfold comC comN;rw[b3,b7,b8,b9,if_neg (by omega),if_neg (by omega)]
 obtain⟨hE,hR⟩:=bi2 ha hb hn hL hc hca hs hl hW;have hbox:∀ q',aj2 (a33 x ws) z q'=aj2 x z q':=fun q'=>by unfold aj2;rw[b1,b2,b3,b4,b5,b6,b7]
 rcases hR with⟨c1,c2,c3,c4⟩ | ⟨c1,c2,c3,c4⟩
 ·refine(bi0 h hIm hE c2 c3.symm).mono ?_
  rintro e w' ⟨rfl,k⟩;exact⟨rfl,none,Md.Ce.stepR r ws true,by rw[hcom];exact k.like (hbox none) rfl b5,.inl ⟨rfl,by omega⟩⟩
 ·refine(bw6 h hE c2).mono ?_
  rintro e w' ⟨rfl,k⟩;exact⟨rfl,some i0,Md.Ce.stepR r ws true,by rw[hcom];exact k.like (hbox _) c3 b5,.inr ⟨⟨i0,rfl⟩,by omega,c4⟩⟩
end
section
variable {W w:World} {G0:List Nat} {b mb mg:Nat} {x:Rx} {z:Rz} {ws:List Int} {o:Bool} {n:Int}
theorem bx7 (h:Full W G0 b z mb mg w x ws true n) (hI:In0 x) (hp:x.part=2) (hc:0<=x.cell) (hl:plW x<=(ws.length:Int)) (hW:okW ws):Calls Tryz.prog 336 #[.pointer (some ⟨b,0,none⟩),.pointer (some ⟨mb,0,none⟩)] w fun e w'=>e=.returned (.tuple #[])/\Full W G0 b z mb mg w' (a33 x ws) ws false (up n):=by
 obtain⟨q,r,h,hR⟩:=h
 rcases hR with⟨_,hR⟩ | ⟨⟨i0,rfl⟩,_,hL⟩
 ·omega
 have h2:=(hI.p2 hp).2;have HR:=zH (aG9 h hL hI.ca hI.cb hI.n hI.inv hp hc hI.celB.2 (by omega) rfl hl hW);have h13:w.cell? ⟨b,13,none⟩=some (.pointer (some ⟨i0,0,none⟩)):=(h.cell 13).trans rfl;have hb:=h.ltB;clear h hL h2;go_enter Tryz.func336,Tryz.ntmps336
 go_wp2_with (go_at_call 340;refine HR.out.mono ?_;rintro e w1 ⟨rfl,k⟩;have HQ:=zH k;clear k HR)
 go_end0
 exact⟨rfl,HQ.out⟩
theorem bx6 (h:Full W G0 b z mb mg w x ws true n) (hT:a78 W G0) (hI:In0 x) (hp:x.part=2) (hc:x.cell<0) (hk:(a08 x.m).2.kind=1) (hl:plW x<=(ws.length:Int)) (hW:okW ws):Calls Tryz.prog 336 #[.pointer (some ⟨b,0,none⟩),.pointer (some ⟨mb,0,none⟩)] w fun e w'=>e=.returned (.tuple #[])/\Full W G0 b z mb mg w' (a33 (begX x) ws) ws false (up n):=by
 obtain⟨q,r,h,hR⟩:=h;obtain rfl:q=none:=by
  rcases hR with hR | ⟨_,hR,_⟩
  ·exact hR.1
  ·omega
 obtain⟨h0,h2⟩:=hI.p2 hp;have hw:¬ 0<=x.m.wait:=by omega
 obtain⟨lk,tr⟩:=ab5 hI.inv hw h0;have hst:(a08 x.m).2.cell=(a08 x.m).1.wait/\0<=(a08 x.m).1.wait/\(a08 x.m).1.how=0:=by
  rcases tr with⟨k4,_⟩ | ⟨_,e1,e2,e3,_⟩ | ⟨k0,_⟩
  ·omega
  ·exact⟨e1,e2,e3⟩
  ·omega
 have hIs:=af3 hI.inv;have hwc:=hIs.wait;have hcl:(a08 x.m).1.cells=x.a:=lk.cells.trans hI.cel;have HI:=zH (aT1 h hT hI.inv rfl rfl hk);have HR:Hid (∀ w' i0,Mid W G0 b z mb mg w' { x with m:=(a08 x.m).1 } (some i0) (comC x) (Md.Ce.newR (3+x.b) (a08 x.m).2.cell (comC x).S) ws true n->Calls Tryz.prog 340 #[.pointer (some ⟨b,0,none⟩),.pointer (some ⟨mb,0,none⟩)] w' fun e w'=>e=.returned (.tuple #[])/\Full W G0 b z mb mg w' (a33 (begX x) ws) ws false (up n)):=fun w' i0 k=>by
  have kb:Mid W G0 b z mb mg w' (begX x) (some i0) (comC x) (Md.Ce.newR (3+x.b) (a08 x.m).2.cell (comC x).S) ws true n:=k.like rfl rfl rfl;exact aG9 kb ⟨rfl,rfl,rfl,rfl,(fun e=>by have e':(0:Nat)=1∨(0:Nat)=2:=e;omega),(fun e=>by have e':(0:Nat)=2:=e;omega)⟩ hI.ca hI.cb hI.n hIs hp (by show 0<=(a08 x.m).2.cell;omega) (by show (a08 x.m).2.cell<x.a;omega) (by show (0:Nat)<=3;omega) (by unfold comC comN;rw[if_neg (by omega),if_neg (show ¬ (begX x).part=1 by show ¬ x.part=1;omega)];rfl) hl hW
 have h13:w.cell? ⟨b,13,none⟩=some (.pointer none):=(h.cell 13).trans rfl;have hb:=h.ltB;clear h hT h0 h2 hw lk tr hst hIs hwc hcl hk hc hI hp hl hW;go_enter Tryz.func336,Tryz.ntmps336
 go_wp2_with (first
  | (go_at_call 329;refine HI.out.mono ?_;rintro e w1 ⟨rfl,i0,k⟩;have HQ:=zH k;have e13:w1.cell? ⟨b,13,none⟩=some (.pointer (some ⟨i0,0,none⟩)):=(k.cell 13).trans rfl;have lb:=k.ltB;clear k HI)
  | (go_at_call 340;refine(HR.out _ _ HQ.out).mono ?_;rintro e w2 ⟨rfl,k⟩;have HZ:=zH k;clear k HR))
 go_end0
 exact⟨rfl,HZ.out⟩
theorem bj7 (h:Full W G0 b z mb mg w x ws true n) (hT:a78 W G0) (hI:In0 x) (hp:x.part=2) (hc:x.cell<0) (hk:(a08 x.m).2.kind=4):Calls Tryz.prog 336 #[.pointer (some ⟨b,0,none⟩),.pointer (some ⟨mb,0,none⟩)] w fun e w'=>e=.returned (.tuple #[])/\Full W G0 b z mb mg w' { x with m:=(a08 x.m).1,part:=3 } ws true n:=by
 obtain⟨q,r,h,hR⟩:=h;obtain rfl:q=none:=by
  rcases hR with hR | ⟨_,hR,_⟩
  ·exact hR.1
  ·omega
 have HI:=zH (b31 h hT hI.inv rfl rfl hk);have h13:w.cell? ⟨b,13,none⟩=some (.pointer none):=(h.cell 13).trans rfl;have hb:=h.ltB;have HC:Hid (comC x=comC { x with m:=(a08 x.m).1,part:=3 }):=by unfold comC comN;rw[if_neg (by omega),if_neg (by show ¬ (3:Nat)=1;omega)];trivial
 have HX:Hid (x.cell<0):=hc;clear h hT hk hI hp hc;go_enter Tryz.func336,Tryz.ntmps336
 go_wp2_with (go_at_call 329;refine HI.out.mono ?_;rintro e w1 ⟨rfl,k⟩;have HQ:=zH k;have e13:w1.cell? ⟨b,13,none⟩=some (.pointer none):=(k.cell 13).trans rfl;have lb:=k.ltB;clear k HI)
 go_end0
 exact⟨rfl,none,r,by rw[<- HC.out];exact HQ.out,.inl ⟨rfl,HX.out⟩⟩
theorem bj8 (h:Full W G0 b z mb mg w x ws true n) (hT:a78 W G0) (hI:In0 x) (hp:x.part=2) (hc:x.cell<0) (h1:(a08 x.m).2.kind≠1) (h4:(a08 x.m).2.kind≠4):Calls Tryz.prog 336 #[.pointer (some ⟨b,0,none⟩),.pointer (some ⟨mb,0,none⟩)] w fun e w'=>e=.returned (.tuple #[])/\Full W G0 b z mb mg w' { x with m:=(a08 x.m).1,part:=2 } ws true n:=by
 obtain⟨q,r,h,hR⟩:=h;obtain rfl:q=none:=by
  rcases hR with hR | ⟨_,hR,_⟩
  ·exact hR.1
  ·omega
 have HI:=zH (be5 h hT hI.inv rfl rfl (by simpa using h1) (by simpa using h4));have h13:w.cell? ⟨b,13,none⟩=some (.pointer none):=(h.cell 13).trans rfl;have hb:=h.ltB;have HC:Hid (comC x=comC { x with m:=(a08 x.m).1,part:=2 }):=by unfold comC comN;rw[if_neg (by omega),if_neg (by show ¬ (2:Nat)=1;omega)];trivial
 have HX:Hid (x.cell<0/\x.part=2):=⟨hc,hp⟩;clear h hT h1 h4 hI hp hc;go_enter Tryz.func336,Tryz.ntmps336
 go_wp2_with (go_at_call 329;refine HI.out.mono ?_;rintro e w1 ⟨rfl,k⟩;have HQ:=zH k;have e13:w1.cell? ⟨b,13,none⟩=some (.pointer none):=(k.cell 13).trans rfl;have lb:=k.ltB;clear k HI)
 go_end0
 exact⟨rfl,none,r,by rw[<- HC.out];exact HQ.out.like (by unfold aj2;rw[HX.out.2]) rfl rfl,.inl ⟨rfl,HX.out.1⟩⟩
theorem bx2 (h:Full W G0 b z mb mg w x ws true n) (hT:a78 W G0) (hI:In0 x) (hp:x.part=2) (hl:plW x<=(ws.length:Int)) (hW:okW ws):Calls Tryz.prog 336 #[.pointer (some ⟨b,0,none⟩),.pointer (some ⟨mb,0,none⟩)] w fun e w'=>e=.returned (.tuple #[])/\Full W G0 b z mb mg w' (runX x ws).1 ws (!(runX x ws).2) (if (runX x ws).2 then up n else n):=by
 unfold runX
 by_cases hc:0<=x.cell
 ·rw[if_pos hc];exact bx7 h hI hp hc hl hW
 ·rw[if_neg hc]
  by_cases h1:(a08 x.m).2.kind=1
  ·rw[if_pos h1];exact bx6 h hT hI hp (by omega) h1 hl hW
  ·rw[if_neg h1]
   by_cases h4:(a08 x.m).2.kind=4
   ·rw[if_pos h4];exact bj7 h hT hI hp (by omega) h4
   ·rw[if_neg h4];exact bj8 h hT hI hp (by omega) h1 h4
theorem Full.mid (h:Full W G0 b z mb mg w x ws o n):∃ q c r,Mid W G0 b z mb mg w x q c r ws o n:=by
 obtain⟨q,r,h,_⟩:=h;exact⟨q,_,r,h⟩
theorem Full.on {w':World} (h:Full W G0 b z mb mg w x ws o n) (k:Bl w w'):Full W G0 b z mb mg w' x ws o n:=by
 obtain⟨q,r,h,h2⟩:=h;exact⟨q,r,h.on k,h2⟩
theorem Full.same {w':World} (h:Full W G0 b z mb mg w x ws o n) (k:Same w w'):Full W G0 b z mb mg w' x ws o n:=h.on (k.below _)
theorem by4 {part:Nat} (hpt:x.part=part) (hpp:part=1∨part=2∨part=3) (h:Full W G0 b z mb mg w x ws o n) (hT:a78 W G0) (hI:InX x) (hl:plW x<=(ws.length:Int)) (hW:okW ws) {y:Rx} {ws':List Int} {ac:Bool} (hy:a25 x ws=(y,ws',ac)) :
  Calls Tryz.prog 328 #[.pointer (some ⟨b,0,none⟩),.pointer (some ⟨mb,0,none⟩)] w fun e w'=>e=.returned (.tuple #[.bool (decide ((y.part:Int)=4)),.int .i64 0])/\Full W G0 b z mb mg w' y ws' (!ac) (if ac then up n else n):=by
 obtain⟨o',ho⟩:∃ o',o'=!ac:=⟨_,rfl⟩
 obtain⟨n',hn⟩:∃ n',n'=if ac then up n else n:=⟨_,rfl⟩
 rw[<- ho,<- hn];have HF:Hid (Calls Tryz.prog 333 #[.pointer (some ⟨b,0,none⟩),.pointer (some ⟨mb,0,none⟩)] w fun e w'=>e=.returned (.bool true)/\Same w w'):=by
  obtain⟨q,c,r,h⟩:=h.mid;have:=ai3 h;rwa[zT hl]at this
 have HO:Hid (∀ w',Same w w'->Calls Tryz.prog 332 #[.pointer (some ⟨b,0,none⟩)] w' fun e w2=>e=.returned (.bool false)/\w2=w'):=fun w' k=>by
  obtain⟨q,c,r,h⟩:=(h.same k).mid;have:=over_any h;rwa[zU (by omega)]at this
 have hfs:=hI.few_steps.1;have hfu:=hI.inv.fuel;have HP:Hid (∀ w',Same w w'->Calls Tryz.prog 334 #[.pointer (some ⟨b,0,none⟩),.pointer (some ⟨mb,0,none⟩)] w' fun e w2=>e=.returned (.tuple #[])/\Full W G0 b z mb mg w2 (a29 x) ws true n):=fun w' k=>by
  obtain⟨q,r,h,hR⟩:=h.same k;refine(open_any h hI.pos (by omega)).mono ?_;rintro e w2 ⟨rfl,k2⟩;exact⟨rfl,q,r,k2,by rcases hR with hR | ⟨h1,h2,h3⟩;exact .inl hR;exact .inr ⟨h1,h2,⟨h3.p,h3.c,h3.s,h3.k,h3.v,h3.x⟩⟩⟩
 have HZ:Hid (∀ w',Full W G0 b z mb mg w' y ws' o' n'->Calls Tryz.prog 332 #[.pointer (some ⟨b,0,none⟩)] w' fun e w2=>e=.returned (.bool (decide ((y.part:Int)=4)))/\w2=w'):=fun w' k=>by
  obtain⟨q,c,r,h⟩:=k.mid;exact over_any h
 have HB:Hid (∀ w',Full W G0 b z mb mg w' (a29 x) ws true n->w'.cell? ⟨b,11,none⟩=some (.int .i64 (part:Int))/\b<w'.heap.size):=fun w' k=>by
  obtain⟨q,c,r,h⟩:=k.mid;exact⟨(h.cell 11).trans (by show some (Value.int .i64 (x.part:Int))=_;rw[hpt]),h.ltB⟩
 have HB0:Hid (b<w.heap.size/\∀ w',Same w w'->b<w'.heap.size):=by
  obtain⟨q,c,r,h⟩:=h.mid;exact⟨h.ltB,fun w' k=>by rw[k.heap];exact h.ltB⟩
 have hb:=HB0.out.1
 rcases hpp with rfl | rfl | rfl
 ·have HC:Hid (∀ w',Full W G0 b z mb mg w' (a29 x) ws true n->Calls Tryz.prog 335 #[.pointer (some ⟨b,0,none⟩),.pointer (some ⟨mb,0,none⟩)] w' fun e w2=>e=.returned (.tuple #[])/\Full W G0 b z mb mg w2 y ws' o' n'):=fun w' k=>by
   have E:a25 x ws=((a63 (a29 x) ws).1,(a63 (a29 x) ws).2,true):=by unfold a25;rw[if_pos hpt]
   rw[E]at hy
   cases hy
   subst ho hn;obtain⟨q,r,h,hR⟩:=k;have hc1:=(hI.p1 hpt).2.1;obtain⟨g1,g2,g3,g4,g5,g6,g7,g8,g9,g10⟩:=aN7 (a29 x) ws;have g8':(a63 (a29 x) ws).1.cell=x.cell:=g8;refine(come_any h hI.tick hpt hl).mono ?_;rintro e w2 ⟨rfl,k2⟩;refine⟨rfl,q,r,k2,?_⟩
   rcases hR with hR | ⟨_,h2,_⟩
   ·exact .inl ⟨hR.1,by rw[g8'];omega⟩
   ·have h2':0<=x.cell:=h2
    omega
  clear h hT hI hl hW hy hpt hfs hfu ho hn;go_enter Tryz.func328,Tryz.ntmps328
  go_wp2_with (first
   | (go_at_call 332;refine(HZ.out _ H4.out).mono ?_;rintro e w5 ⟨rfl,hw⟩;subst w5;clear HZ)
   | (go_at_call 335;refine(HC.out _ H3.out).mono ?_;rintro e w4 ⟨rfl,k⟩;have H4:=zH k;clear k HC H3)
   | (go_at_call 334;refine(HP.out _ H1.out).mono ?_;rintro e w3 ⟨rfl,k⟩;have H3:=zH k;obtain⟨e11,lb3⟩:=HB.out _ k;clear k HP HB)
   | (go_at_call 332;refine(HO.out _ H1.out).mono ?_;rintro e w2 ⟨rfl,hw⟩;subst w2;clear HO)
   | (go_at_call 333;refine HF.out.mono ?_;rintro e w1 ⟨rfl,k⟩;have H1:=zH k;have lb1:=HB0.out.2 _ k;clear k HF))
  go_ret2;exact⟨rfl,H4.out⟩
 ·have HC:Hid (∀ w',Full W G0 b z mb mg w' (a29 x) ws true n->Calls Tryz.prog 336 #[.pointer (some ⟨b,0,none⟩),.pointer (some ⟨mb,0,none⟩)] w' fun e w2=>e=.returned (.tuple #[])/\Full W G0 b z mb mg w2 y ws' o' n'):=fun w' k=>by
   have E:a25 x ws=((runX (a29 x) ws).1,ws,(runX (a29 x) ws).2):=by unfold a25;rw[if_neg (by omega),if_neg (by omega)]
   rw[E]at hy
   cases hy
   subst ho hn;exact bx2 k hT hI.tick hpt hl hW
  clear h hT hI hl hW hy hpt hfs hfu ho hn;go_enter Tryz.func328,Tryz.ntmps328
  go_wp2_with (first
   | (go_at_call 332;refine(HZ.out _ H4.out).mono ?_;rintro e w5 ⟨rfl,hw⟩;subst w5;clear HZ)
   | (go_at_call 336;refine(HC.out _ H3.out).mono ?_;rintro e w4 ⟨rfl,k⟩;have H4:=zH k;clear k HC H3)
   | (go_at_call 334;refine(HP.out _ H1.out).mono ?_;rintro e w3 ⟨rfl,k⟩;have H3:=zH k;obtain⟨e11,lb3⟩:=HB.out _ k;clear k HP HB)
   | (go_at_call 332;refine(HO.out _ H1.out).mono ?_;rintro e w2 ⟨rfl,hw⟩;subst w2;clear HO)
   | (go_at_call 333;refine HF.out.mono ?_;rintro e w1 ⟨rfl,k⟩;have H1:=zH k;have lb1:=HB0.out.2 _ k;clear k HF))
  go_ret2;exact⟨rfl,H4.out⟩
 ·have HC:Hid (∀ w',Full W G0 b z mb mg w' (a29 x) ws true n->Calls Tryz.prog 337 #[.pointer (some ⟨b,0,none⟩),.pointer (some ⟨mb,0,none⟩)] w' fun e w2=>e=.returned (.tuple #[])/\Full W G0 b z mb mg w2 y ws' o' n'):=fun w' k=>by
   have E:a25 x ws=(ap7 (a29 x),ws.set (3+x.th).toNat 0,true):=by unfold a25;rw[if_neg (by omega),if_pos hpt]
   rw[E]at hy
   cases hy
   subst ho hn;obtain⟨q,r,h,hR⟩:=k;have hc1:=(hI.p3 (.inl hpt)).2.1;refine(leave_any h hI.tick hl).mono ?_;rintro e w2 ⟨rfl,k2⟩;refine⟨rfl,q,r,?_,?_⟩
   ·have:comC (ap7 (a29 x))=comC (a29 x):=by
     unfold comC comN;rw[if_neg (show ¬ (ap7 (a29 x)).part=1 by show ¬ 4=1;omega),if_neg (show ¬ (a29 x).part=1 by show ¬ x.part=1;omega)]
     rfl
    rw[this];exact k2
   ·rcases hR with hR | ⟨_,h2,_⟩
    ·exact .inl hR
    ·have h2':0<=x.cell:=h2
     omega
  clear h hT hI hl hW hy hpt hfs hfu ho hn;go_enter Tryz.func328,Tryz.ntmps328
  go_wp2_with (first
   | (go_at_call 332;refine(HZ.out _ H4.out).mono ?_;rintro e w5 ⟨rfl,hw⟩;subst w5;clear HZ)
   | (go_at_call 337;refine(HC.out _ H3.out).mono ?_;rintro e w4 ⟨rfl,k⟩;have H4:=zH k;clear k HC H3)
   | (go_at_call 334;refine(HP.out _ H1.out).mono ?_;rintro e w3 ⟨rfl,k⟩;have H3:=zH k;obtain⟨e11,lb3⟩:=HB.out _ k;clear k HP HB)
   | (go_at_call 332;refine(HO.out _ H1.out).mono ?_;rintro e w2 ⟨rfl,hw⟩;subst w2;clear HO)
   | (go_at_call 333;refine HF.out.mono ?_;rintro e w1 ⟨rfl,k⟩;have H1:=zH k;have lb1:=HB0.out.2 _ k;clear k HF))
  go_ret2;exact⟨rfl,H4.out⟩
theorem step_any (h:Full W G0 b z mb mg w x ws o n) (hT:a78 W G0) (hI:InX x) (hp:x.part≠4) (hl:plW x<=(ws.length:Int)) (hW:okW ws) {y:Rx} {ws':List Int} {ac:Bool} (hy:a25 x ws=(y,ws',ac)) :
  Calls Tryz.prog 328 #[.pointer (some ⟨b,0,none⟩),.pointer (some ⟨mb,0,none⟩)] w fun e w'=>e=.returned (.tuple #[.bool (decide ((y.part:Int)=4)),.int .i64 0])/\Full W G0 b z mb mg w' y ws' (!ac) (if ac then up n else n) :=
 by4 rfl (by have:=hI.part;omega) h hT hI hl hW hy
end
end Go.Proofs.YtlkldgopliablaaGreatDoor.Rr
namespace Go.Proofs.YtlkldgopliablaaGreatDoor
open Go.ChangeShapes Go.WideShapes Go.ChangeAt Go.RowKit Num
section
variable {P:Program} {w:World}
theorem a57 {o:Oper} {a:Act} {K:Act->World->Prop} {Q:Exit->Act->World->Prop} (s x:Operand) (t tx:TypeId)
  (ho:o.op=.call { callee:=.builtin .append,args:=#[s,x],argTypes:=#[t,tx] }) (vs vx:Value) (hs:a.eval s=vs) (hx:a.eval x=vx) {R:Value->World->Prop}
  (hr:∃ v w',(Builtin.append_ #[t,tx] o.type #[vs,vx]).run P w=.ok v w'/\R v w') (h:∀ v w',R v w'->K (a.put o.dst v) w'):o.wp P a w K Q:=by
 obtain⟨v,w',hr,hR⟩:=hr;unfold Oper.wp execOp;simp only[ho,resolve,invoke,builtin,Sem.run_bind,Sem.run_pure,Result.andThen_ok,List.map_toArray,List.map_cons,List.map_nil,hs,hx,hr];exact h v w' hR
theorem aa8 {ops:Array Oper} {rest:List Oper} {o:Oper} {a:Act} {Q:Exit->Act->World->Prop} (hgd:o.guard=none) (s x:Operand) (t tx:TypeId)
  (ho:o.op=.call { callee:=.builtin .append,args:=#[s,x],argTypes:=#[t,tx] }) (vs vx:Value) (hs:a.eval s=vs) (hx:a.eval x=vx) {R:Value->World->Prop}
  (hr:∃ v w',(Builtin.append_ #[t,tx] o.type #[vs,vx]).run P w=.ok v w'/\R v w') (h:∀ v w',R v w'->wpList P ops Q rest (a.put o.dst v) w'):wpList P ops Q (o::rest) a w :=
 wpList_plain hgd fun _ hK=>a57 s x t tx ho vs vx hs hx hr fun v w' hR=>hK _ _ (h v w' hR)
end
def Ro (w:World) (p:Option Addr) (vs:List Value):Prop:=(p=none/\vs=[])∨∃ g o,p=some ⟨g,o,none⟩/\w.rangeAt g o vs
theorem Ro.get {w:World} {p:Option Addr} {vs:List Value} (h:Ro w p vs) {j:Nat} {v:Value} (hv:vs[j]?=some v):∃ g o,p=some ⟨g,o,none⟩/\w.cell? ⟨g,o+j,none⟩=some v/\g<w.heap.size:=by
 rcases h with⟨_,rfl⟩ | ⟨g,o,rfl,h⟩
 ·simp at hv
 ·exact⟨g,o,rfl,h j v hv,zK w _ (h j v hv)⟩
theorem Ro.nil (w:World):Ro w none []:=.inl ⟨rfl,rfl⟩
attribute [local go_sem] a00
attribute [local go_sem] a00
attribute [local go_sem] a00
attribute [local go_sem] a00
attribute [local go_sem] a00
attribute [local go_sem] a00
attribute [local go_sem] a00
attribute [local go_sem] a00
attribute [local go_sem] a00
attribute [local go_sem] a00
attribute [local go_sem] a00
attribute [local go_sem] a00
attribute [local go_sem] a00
attribute [local go_sem] a00
attribute [local go_sem] a00
attribute [local go_sem] a00
attribute [local go_sem] a00
theorem bE4 {w:World} {p:Option Addr} {c n:Nat} {l:List Nat} (h:RowAt 71 w p c (fls l)) (hn:l.length=n) (i:Nat) (hi:i<n):∃ g,p=some ⟨g,0,none⟩/\g<w.heap.size/\w.cell? ⟨g,i,none⟩=some (.float .f64 (l.getD i 0)):=by
 rcases h.own.2 with⟨hv,_⟩ | ⟨g,cap,cur,hv,_⟩
 ·injection hv with _ h2 _
  rw[a26]at h2;omega
 ·injection hv with h1 _ _
  subst h1;obtain⟨r1,_,r2⟩:=row_get h (j:=i) (v:=.float .f64 (l.getD i 0)) (by simp[fls,show i<l.length by omega]);exact⟨g,rfl,r2,r1⟩
theorem b90 {w:World} {p:Option Addr} {c n:Nat} {l:Wr} (h:TRow w p c l) (hn:l.length=n) (i:Nat) (hi:i<n):∃ g,p=some ⟨g,0,none⟩/\g<w.heap.size/\w.cell? ⟨g,i*2,none⟩=some (.int .i64 (l.getD i (0,0)).1)/\w.cell? ⟨g,i*2+1,none⟩=some (.float .f64 (l.getD i (0,0)).2):=by
 obtain⟨g,r1,r2,r3,r4,_⟩:=h.at i (by omega);rw[show l.getD i (0,0)=l[i]'(by omega) by simp[show i<l.length by omega]];exact⟨g,r1,r2,r3,r4⟩
attribute [local go_sem] a00
def TlAt (w:World) (p:Option Addr) (l:Wr):Prop:=∀ k,k<l.length->∃ g o,p=some ⟨g,o,none⟩/\g<w.heap.size/\w.cell? ⟨g,o+k*2,none⟩=some (.int .i64 (l.getD k (0,0)).1)/\w.cell? ⟨g,o+k*2+1,none⟩=some (.float .f64 (l.getD k (0,0)).2)
theorem Ro.fl {w:World} {p:Option Addr} {l:List Nat} (h:Ro w p (fls l)):FlAt w p l:=fun k hk=>by
 obtain⟨g,o,e,c,hg⟩:=h.get (j:=k) (v:=.float .f64 (l.getD k 0)) (by unfold fls;rw[List.getElem?_map,zG,List.getElem?_eq_getElem hk];rfl);exact⟨g,o,e,hg,c⟩
theorem RowAt.fl {w:World} {p:Option Addr} {c:Nat} {l:List Nat} (h:RowAt 71 w p c (fls l)):FlAt w p l:=fun k hk=>by
 obtain⟨g,e,hg,c⟩:=bE4 h rfl k hk;exact⟨g,0,e,hg,by rw[Nat.zero_add];exact c⟩
theorem TRow.tl {w:World} {p:Option Addr} {c:Nat} {l:Wr} (h:TRow w p c l):TlAt w p l:=fun k hk=>by
 obtain⟨g,e,hg,c0,c1⟩:=b90 h rfl k hk;exact⟨g,0,e,hg,by rw[Nat.zero_add];exact c0,by rw[Nat.zero_add];exact c1⟩
theorem TlAt.on {w w':World} {p:Option Addr} {l:Wr} (h:TlAt w p l) (hb:Bl w w'):TlAt w' p l:=fun k hk=>by
 obtain⟨g,o,e,hlt,c0,c1⟩:=h k hk;exact⟨g,o,e,zL hlt hb.size,(hb.cell (p:=⟨g,o+k*2,none⟩) hlt).trans c0,(hb.cell (p:=⟨g,o+k*2+1,none⟩) hlt).trans c1⟩
attribute [local go_sem] a00
attribute [local go_sem] a00
attribute [local go_sem] a00
def insC (i:Ins):List Value:=[.int .i64 i.op,.int .i64 i.n,.float .f64 i.x]
theorem aJ8 {α:Type} (f:α->List Value) (s:Nat) (hf:∀ a,(f a).length=s):∀ (n:Nat) (l:List α) (m:α),l[n]?=some m->∀ j,j<s->(l.flatMap f)[n*s+j]?=(f m)[j]?
 | 0,l,m,hm,j,hj=>by
  cases l with
  | nil=>simp at hm
  | cons a t =>
   simp at hm
   subst hm;rw[List.flatMap_cons,Nat.zero_mul,Nat.zero_add,List.getElem?_append_left (by rw[hf];exact hj)]
 | n+1,l,m,hm,j,hj=>by
  cases l with
  | nil=>simp at hm
  | cons a t =>
   rw[List.flatMap_cons,List.getElem?_append_right (by rw[hf,Nat.add_mul];omega)];have e:(n+1)*s+j - (f a).length=n*s+j:=by rw[hf,Nat.add_mul];omega
   rw[e];exact aJ8 f s hf n t m (by simpa using hm) j hj
theorem aA0 (c:List Ins):(c.flatMap insC).length=c.length*3:=by
 induction c with
 | nil=>rfl
 | cons i c ih=>rw[List.flatMap_cons,List.length_append,ih];simp[insC];omega
theorem be4 (c:List Ins):∀ u∈c.flatMap insC,u.oneCell'=true:=by
 intro u hu;obtain⟨i,_,h⟩:=List.mem_flatMap.1 hu
 simp[insC]at h
 rcases h with rfl | rfl | rfl <;> rfl
theorem aD5 {w:World} {g off:Nat} {c:List Ins} (hg:g<w.heap.size) (h:w.rangeAt g off (c.flatMap insC)):a35 w (some ⟨g,off,none⟩) c:=fun k hk=>by
 have e:∀ j,j<3->w.cell? ⟨g,off+(k*3+j),none⟩=(insC (ci c k))[j]?:=fun j hj=>by
  have h2:=aJ8 insC 3 (fun _=>rfl) k c (ci c k) (bA7 hk) j hj
  cases hq:(insC (ci c k))[j]? with
  | none =>
   rw[List.getElem?_eq_none_iff]at hq
   simp[insC]at hq
   omega
  | some v=>exact h _ _ (h2.trans hq)
 exact⟨g,off,rfl,hg,e 0 (by decide),e 1 (by decide),e 2 (by decide)⟩
theorem aG8 {w:World} {b off:Nat} {c:List Ins} (h:a35 w (some ⟨b,off,none⟩) c):w.rangeAt b off (c.flatMap insC):=fun j v hv=>by
 have hj:j<c.length*3:=by
  have:=(List.getElem?_eq_some_iff.1 hv).1;rwa[aA0]at this
 have hk:j / 3<c.length:=by omega
 obtain⟨b',off',e,_,c0,c1,c2⟩:=h (j / 3) hk
 cases e
 have hr:j % 3<3:=Nat.mod_lt _ (by decide);have e2:=aJ8 insC 3 (fun _=>rfl) (j / 3) c (ci c (j / 3)) (bA7 hk) (j % 3) hr;rw[show j / 3*3+j % 3=j by omega,hv]at e2;have h3:j % 3=0∨j % 3=1∨j % 3=2:=by omega
 rcases h3 with q | q | q
 ·rw[show off+j=off+j / 3*3 by omega,c0,e2,q];rfl
 ·rw[show off+j=off+j / 3*3+1 by omega,c1,e2,q];rfl
 ·rw[show off+j=off+j / 3*3+2 by omega,c2,e2,q];rfl
theorem bl1 {w:World} {ao:Option Addr} {c:List Ins} (cap:Nat) (h:a35 w ao c):Src Tryz.prog 3 134 (.slice ao c.length cap) c.length (c.flatMap insC) w:=by
 cases ao with
 | none =>
  cases c with
  | nil=>exact Src.ofNil w Tryz.underlying134 cap
  | cons i c =>
   obtain⟨b,off,e,_⟩:=h 0 (by simp)
   cases e
 | some a =>
  refine Src.ofSlice w Tryz.underlying134 a c.length cap _ (aA0 c) (fun j u hu=>?_) (be4 c)
  cases c with
  | nil=>simp at hu
  | cons i c =>
   obtain⟨b,off,e,_⟩:=h 0 (by simp)
   cases e
   rw[Addr.add_mid];exact aG8 h j u hu
theorem at0 {l:List Nat} {j:Nat} (hj:j<l.length):(fls l)[j]?=some (.float .f64 (l.getD j 0)):=by
 unfold fls;rw[List.getElem?_map,List.getElem?_eq_getElem hj,zG,List.getElem?_eq_getElem hj]
 rfl
theorem bF2 {w:World} {po:Option Addr} {l:List Nat} (co:Nat) (h:FlAt w po l):Src Tryz.prog 1 24 (.slice po l.length co) l.length (fls l) w:=by
 cases po with
 | none =>
  cases l with
  | nil=>exact Src.ofNil w Tryz.underlying24 co
  | cons i c =>
   obtain⟨b,off,e,_⟩:=h 0 (by simp)
   cases e
 | some a =>
  refine Src.ofSlice w Tryz.underlying24 a l.length co _ (by rw[a26,Nat.mul_one]) (fun j u hu=>?_) (aK0 l);have hj:j<l.length:=by
   have:=(List.getElem?_eq_some_iff.1 hu).1;rwa[a26]at this
  obtain⟨b,off,e,_,c⟩:=h j hj
  cases e
  rw[Addr.add_mid,c,<- hu,at0 hj]
end Go.Proofs.YtlkldgopliablaaGreatDoor
namespace Go.Proofs.YtlkldgopliablaaGreatDoor.Rr
open Go.ChangeShapes Go.WideShapes Go.ChangeAt Go.RowKit Num
attribute [local go_sem] a00 frombits_run a42
def rowL (l:List Nat) (k n:Nat):List Nat:=(List.range n).map fun i=>if i<k then fixB (l.getD i 0) else 0
theorem af8 (l:List Nat) (k n:Nat):(rowL l k n).length=n:=by simp[rowL]
theorem au8 (l:List Nat) (n:Nat):rowL l 0 n=List.replicate n 0:=by
 apply List.ext_getElem
 ·simp[rowL]
 ·intro i h1 h2
  simp[rowL]
theorem aB4 {l:List Nat} {n:Nat} (h:l.length=n):rowL l n n=l.map fixB:=by
 apply List.ext_getElem
 ·simp[rowL,h]
 ·intro i h1 h2
  have hi:i<n:=by simpa[rowL]using h1
  simp[rowL,hi,h]
theorem aB5 (l:List Nat) (k n:Nat):(rowL l k n).set k (fixB (l.getD k 0))=rowL l (k+1) n:=by
 apply List.ext_getElem
 ·simp[rowL]
 ·intro i h1 h2
  rw[List.getElem_set]
  by_cases e:k=i
  ·subst e
   simp[rowL]
  ·rw[if_neg e]
   simp only[rowL,List.getElem_map,List.getElem_range]
   by_cases q:i<k
   ·rw[if_pos q,if_pos (by omega)]
   ·rw[if_neg q,if_neg (by omega)]
theorem fMk (n:Nat) (hn:n<=256) (w:World):(Instr.makeSlice 24 (.int .i64 (n:Int)) (.int .i64 (n:Int))).run Tryz.prog w=.ok (.slice (some ⟨w.heap.size,0,none⟩) n n) (w.alloc (.cells (fls (List.replicate n 0)).toArray 71)):=by
 obtain⟨i,hi,hz0,hz1,hz2⟩:=info_parts az2;rw[run_make w 24 71 i (.float .f64 0) Tryz.underlying24 hi hz0 .i64 .i64 n n (by omega) (zW _) (by rw[hz2];omega) (by omega)];have e:(madeCells (.float .f64 0:Value).cells (((n:Int)).toNat*i.size))=(fls (List.replicate n 0)).toArray:=by
  rw[hz1,Nat.mul_one,Int.toNat_natCast]
  apply Array.toList_inj.1
  rw[show (.float .f64 0:Value).cells=#[.float .f64 0] from rfl,toList_madeCells_one]
  simp[fls]
 rw[e,Int.toNat_natCast]
theorem row_made {w:World} {l:List Nat} {n:Nat} (hl:l.length=n) (hn:n<=256):RowAt 71 (w.alloc (.cells (fls l).toArray 71)) (some ⟨w.heap.size,0,none⟩) n (fls l):=⟨by
 rw[a26,hl];exact World.ownsRow_lit w _ n (zV _) (by unfold maxLen;omega) (by rw[List.size_toArray,a26,hl,Nat.mul_one])⟩
theorem as6 {w:World} {po:Option Addr} {l:List Nat} {k co:Nat} (hk:l.length=k) (hL:FlAt w po l) (hk8:k<=8):Calls Tryz.prog 166 #[.slice po k co] w fun e w'=>e=.returned (.slice (some ⟨w.heap.size,0,none⟩) k k)/\RowAt 71 w' (some ⟨w.heap.size,0,none⟩) k (fls (l.map fixB))/\Bl w w':=by
 have hmk:=fMk k (by omega) w;have HL0:Hid (∀ wr,Bl w wr->FlAt wr po l):=fun wr h=>hL.on h
 have HE:Hid (rowL l k k=l.map fixB):=aB4 hk;have HS0:Hid (RowAt 71 (w.alloc (.cells (fls (List.replicate k 0)).toArray 71)) (some ⟨w.heap.size,0,none⟩) k (fls (rowL l 0 k))):=by
  have:=row_made (w:=w) (af8 l 0 k) (by omega);rw[au8]at this ⊢;exact this
 have HAT:Hid (∀ (v x y s:Int) (w:World),Calls Tryz.prog 62 #[.agg #[.int .u64 v,.int .u64 x,.int .u64 y],.int .u64 s] w fun e w'=>e=.returned (.float .f64 (Md.Ce.atV v x y s))/\Bl w w'):=Md.Ce.cat_any;have HK:Hid (l.length=k):=hk;clear hL hk;go_enter Tryz.func166,Tryz.ntmps166
 go_wp2
 go_loopw [11] (fun vi wr=>∃ i:Nat,vi=.int .i64 i/\i<=k/\Hid (RowAt 71 wr (some ⟨w.heap.size,0,none⟩) k (fls (rowL l i k)))/\Hid (Bl w wr)) (fun vi _=>k - (intOf vi).toNat)
 case atStart=>exact⟨0,rfl,zV _,HS0.out,below_alloc w _⟩
 case round =>
  obtain⟨i,rfl,hi,HR,HB⟩:=hrel
  by_cases hlt:i<k
  ·have hlt':(i:Int)<(k:Int):=by omega
   obtain⟨g,o,rfl,hg,hx⟩:=HL0.out _ HB.out i (by rw[HK.out];exact hlt);have hAt:Hid (∀ y:Nat,Md.Ce.atV 0 (y:Int) 0 0=fixB y):=fun y=>by unfold Md.Ce.atV;rw[if_neg (by omega)];rfl
   have HS1:=zH (aB5 l i k)
   generalize l.getD i 0=y at hx HS1
   obtain⟨r0,r1,r2⟩:=row_get HR.out (j:=i) (v:=.float .f64 ((rowL l i k).getD i 0)) (by rw[at0 (by rw[af8];exact hlt)]);have HD:Hid (∀ u,Bl wr u->u.cell? ⟨w.heap.size,i,none⟩=some (.float .f64 ((rowL l i k).getD i 0))/\u.frozen? ⟨w.heap.size,i,none⟩=false/\w.heap.size<u.heap.size/\RowAt 71 (u.setCell ⟨w.heap.size,i,none⟩ (.float .f64 (fixB y))) (some ⟨w.heap.size,0,none⟩) k (fls (rowL l (i+1) k))/\Bl w (u.setCell ⟨w.heap.size,i,none⟩ (.float .f64 (fixB y)))):=fun u hu=>by
    have h1:=HR.out.on hu;obtain⟨a1,a2,a3⟩:=row_get h1 (j:=i) (v:=.float .f64 ((rowL l i k).getD i 0)) (by rw[at0 (by rw[af8];exact hlt)]);have q:=(row_put h1 i (.float .f64 (fixB y))).1;rw[b19,HS1.out]at q;exact⟨a1,a2,a3,q,(HB.out.trans (hu.mono HB.out.size)).setCell (zE _) _⟩
   clear HL0 HS0
   go_wp2_with (go_at_call 62;refine(HAT.out _ _ _ _ _).mono ?_;rintro e u ⟨rfl,hb⟩;rw[hAt.out];obtain⟨a1,a2,a3,a4,a5⟩:=HD.out _ hb;have HZ:=zH (And.intro a4 a5);clear a4 a5 hb)
   exact⟨⟨i+1,by first | rfl | (congr 1),by omega,HZ.out.1,HZ.out.2⟩,by simp[intOf];omega⟩
  ·have hlt':¬ (i:Int)<(k:Int):=by omega
   obtain rfl:i=k:=by omega
   have HZ:=zH HR.out;rw[HE.out]at HZ
   go_wp2
   go_ret;exact⟨rfl,HZ.out,HB.out⟩
attribute [local go_sem] a00
abbrev trC (a b:Int) (bm:Option Addr) (st t:Int) (pa:Option Addr) (n ca:Nat):Array Value:=#[.int .i64 0,.int .i64 1,.int .i64 2,.int .i64 3,.int .i64 (3+b),.int .i64 (3+b+3*a),.pointer bm,.int .i64 st,.int .i64 t,.slice pa n ca]
abbrev trO (c:Array Value):Obj:=.cells c 212
abbrev trZ:Array Value:=#[.int .i64 0,.int .i64 0,.int .i64 0,.int .i64 0,.int .i64 0,.int .i64 0,.pointer none,.int .i64 0,.int .i64 0,.slice none 0 0]
theorem bz1 {fn:Func} {p u:Tmp} (h:fn.results=#[.cell p 212,.tmp u]) {Q:Ending->World->Prop} {a:Act} {w:World} (g:Nat) {v0 v1 v2 v3 v4 v5 v6 v7 v8 v9:Value} (may:Bool) (hp:a.tmps.getD p undef=.pointer (some ⟨g,0,none⟩)) (hu:a.tmps.getD u undef=.bool may)
  (hg:w.heap[g]?=some (.cells #[v0,v1,v2,v3,v4,v5,v6,v7,v8,v9] 212 (0,0))) (hd:a.defers=[]) (hR:Q (.returned (.tuple #[.agg #[v0,v1,v2,v3,v4,v5,v6,v7,v8,v9],.bool may])) w):bodyPost Tryz.prog fn Q .ret a w:=by
 refine bodyPost_ret (v:=.tuple #[.agg #[v0,v1,v2,v3,v4,v5,v6,v7,v8,v9],.bool may]) ?_ hd hR;rw[results_cell_tmp h,hp,hu];have hl:=run_loadVar_row (P:=Tryz.prog) w g 212 212 #[v0,v1,v2,v3,v4,v5,v6,v7,v8,v9] (0,0) _ hg Tryz.underlying212 rfl (by kernel_rfl)
 simp[asAddr,hl,Result.andThen]
abbrev begW (w:World) (a b c e t:Int) (ao:Option Addr) (n cap:Nat):World:=((w.alloc (cfgO a b c e)).alloc (prgO t ao n cap)).alloc (trO trZ)
theorem heap_old {w:World} {o y:Obj} {k:Nat} (e:w.heap[k]?=some y):(w.alloc o).heap[k]?=some y:=(Below.heap_alloc _ _ _ (Array.getElem?_eq_some_iff.1 e).1).trans e
theorem aR5 {w u:World} {a b c e t:Int} {ao:Option Addr} {n cap:Nat} (h:Below (begW w a b c e t ao n cap).heap.size (begW w a b c e t ao n cap) u) :
  u.heap[w.heap.size]?=some (cfgO a b c e)/\u.heap[w.heap.size+1]?=some (prgO t ao n cap)/\u.heap[w.heap.size+1+1]?=some (trO trZ)/\Bl w u:=by
 have h0:(begW w a b c e t ao n cap).heap[w.heap.size]?=some (cfgO a b c e):=heap_old (heap_old (zN _ _));have h1:(begW w a b c e t ao n cap).heap[w.heap.size+1]?=some (prgO t ao n cap):=heap_old (a73 (by simp));have h2:(begW w a b c e t ao n cap).heap[w.heap.size+1+1]?=some (trO trZ):=a73 (by simp);refine⟨(h.block _ (lt_of_block h0)).trans h0,(h.block _ (lt_of_block h1)).trans h1,(h.block _ (lt_of_block h2)).trans h2,?_⟩;exact(((below_alloc w _).trans ((below_alloc _ _).mono (by simp))).trans ((below_alloc _ _).mono (by simp;omega))).trans (h.mono (by simp[begW];omega))
theorem aX9 {w:World} {x:Nat} {v0 v1 v2 v3 v4 v5 v6 v7 v8 v9:Value} {T:TypeId} (h:w.heap[x]?=some (.cells #[v0,v1,v2,v3,v4,v5,v6,v7,v8,v9] T (0,0))):(w.cell? ⟨x,0,none⟩=some v0/\w.cell? ⟨x,1,none⟩=some v1/\w.cell? ⟨x,2,none⟩=some v2/\w.cell? ⟨x,3,none⟩=some v3/\w.cell? ⟨x,4,none⟩=some v4/\w.cell? ⟨x,5,none⟩=some v5/\w.cell? ⟨x,6,none⟩=some v6/\w.cell? ⟨x,7,none⟩=some v7/\w.cell? ⟨x,8,none⟩=some v8/\w.cell? ⟨x,9,none⟩=some v9/\x<w.heap.size)/\∀ j,w.frozen? ⟨x,j,none⟩=false :=
 ⟨⟨(zR w x 0 _ _ _ h).trans rfl,(zR w x 1 _ _ _ h).trans rfl,(zR w x 2 _ _ _ h).trans rfl,(zR w x 3 _ _ _ h).trans rfl,(zR w x 4 _ _ _ h).trans rfl,(zR w x 5 _ _ _ h).trans rfl,(zR w x 6 _ _ _ h).trans rfl,(zR w x 7 _ _ _ h).trans rfl,(zR w x 8 _ _ _ h).trans rfl,(zR w x 9 _ _ _ h).trans rfl,lt_of_block h⟩,fun j=>zZ w x j _ _ h⟩
theorem bM2 {w:World} {x:Nat} {v0 v1 v2 v3 v4 v5 v6 v7 v8 v9 u0 u1 u2 u3 u4 u5 u6 u7 u8 u9:Value} {T:TypeId} (h:w.heap[x]?=some (.cells #[v0,v1,v2,v3,v4,v5,v6,v7,v8,v9] T (0,0))):((((((((((w.setCell ⟨x,0,none⟩ u0).setCell ⟨x,1,none⟩ u1).setCell ⟨x,2,none⟩ u2).setCell ⟨x,3,none⟩ u3).setCell ⟨x,4,none⟩ u4).setCell ⟨x,5,none⟩ u5).setCell ⟨x,6,none⟩ u6).setCell ⟨x,7,none⟩ u7).setCell ⟨x,8,none⟩ u8).setCell ⟨x,9,none⟩ u9).heap[x]?=some (.cells #[u0,u1,u2,u3,u4,u5,u6,u7,u8,u9] T (0,0)):=by
 have h0:=(zS _ x 0 _ _ u0 h).trans (show _=some (Obj.cells #[u0,v1,v2,v3,v4,v5,v6,v7,v8,v9] T (0,0)) from rfl);have h1:=(zS _ x 1 _ _ u1 h0).trans (show _=some (Obj.cells #[u0,u1,v2,v3,v4,v5,v6,v7,v8,v9] T (0,0)) from rfl);have h2:=(zS _ x 2 _ _ u2 h1).trans (show _=some (Obj.cells #[u0,u1,u2,v3,v4,v5,v6,v7,v8,v9] T (0,0)) from rfl);have h3:=(zS _ x 3 _ _ u3 h2).trans (show _=some (Obj.cells #[u0,u1,u2,u3,v4,v5,v6,v7,v8,v9] T (0,0)) from rfl);have h4:=(zS _ x 4 _ _ u4 h3).trans (show _=some (Obj.cells #[u0,u1,u2,u3,u4,v5,v6,v7,v8,v9] T (0,0)) from rfl);have h5:=(zS _ x 5 _ _ u5 h4).trans (show _=some (Obj.cells #[u0,u1,u2,u3,u4,u5,v6,v7,v8,v9] T (0,0)) from rfl);have h6:=(zS _ x 6 _ _ u6 h5).trans (show _=some (Obj.cells #[u0,u1,u2,u3,u4,u5,u6,v7,v8,v9] T (0,0)) from rfl);have h7:=(zS _ x 7 _ _ u7 h6).trans (show _=some (Obj.cells #[u0,u1,u2,u3,u4,u5,u6,u7,v8,v9] T (0,0)) from rfl);have h8:=(zS _ x 8 _ _ u8 h7).trans (show _=some (Obj.cells #[u0,u1,u2,u3,u4,u5,u6,u7,u8,v9] T (0,0)) from rfl);have h9:=(zS _ x 9 _ _ u9 h8).trans (show _=some (Obj.cells #[u0,u1,u2,u3,u4,u5,u6,u7,u8,u9] T (0,0)) from rfl);exact h9
theorem bw0 {w:World} {x y:Nat} (u0 u1 u2 u3 u4 u5 u6 u7 u8 u9:Value) (h:y≠x):((((((((((w.setCell ⟨x,0,none⟩ u0).setCell ⟨x,1,none⟩ u1).setCell ⟨x,2,none⟩ u2).setCell ⟨x,3,none⟩ u3).setCell ⟨x,4,none⟩ u4).setCell ⟨x,5,none⟩ u5).setCell ⟨x,6,none⟩ u6).setCell ⟨x,7,none⟩ u7).setCell ⟨x,8,none⟩ u8).setCell ⟨x,9,none⟩ u9).heap[y]?=w.heap[y]?:=(zO _ _ _ _ h).trans ((zO _ _ _ _ h).trans ((zO _ _ _ _ h).trans ((zO _ _ _ _ h).trans ((zO _ _ _ _ h).trans ((zO _ _ _ _ h).trans ((zO _ _ _ _ h).trans ((zO _ _ _ _ h).trans ((zO _ _ _ _ h).trans (zO _ _ _ _ h)))))))))
theorem bH7 {B:Nat} {a w:World} {x:Nat} (u0 u1 u2 u3 u4 u5 u6 u7 u8 u9:Value) (h:Below B a w) (hx:B<=x):Below B a ((((((((((w.setCell ⟨x,0,none⟩ u0).setCell ⟨x,1,none⟩ u1).setCell ⟨x,2,none⟩ u2).setCell ⟨x,3,none⟩ u3).setCell ⟨x,4,none⟩ u4).setCell ⟨x,5,none⟩ u5).setCell ⟨x,6,none⟩ u6).setCell ⟨x,7,none⟩ u7).setCell ⟨x,8,none⟩ u8).setCell ⟨x,9,none⟩ u9):=(((((((((h.setCell hx _).setCell hx _).setCell hx _).setCell hx _).setCell hx _).setCell hx _).setCell hx _).setCell hx _).setCell hx _).setCell hx _
theorem aN4 {w:World} {x:Nat} {v0 v1 v2 v3 v4 v5:Value} {T:TypeId} (h:w.heap[x]?=some (.cells #[v0,v1,v2,v3,v4,v5] T (0,0))):w.cell? ⟨x,0,none⟩=some v0/\w.cell? ⟨x,1,none⟩=some v1/\w.cell? ⟨x,2,none⟩=some v2/\w.cell? ⟨x,3,none⟩=some v3/\w.cell? ⟨x,4,none⟩=some v4/\w.cell? ⟨x,5,none⟩=some v5/\x<w.heap.size :=
 ⟨(zR w x 0 _ _ _ h).trans rfl,(zR w x 1 _ _ _ h).trans rfl,(zR w x 2 _ _ _ h).trans rfl,(zR w x 3 _ _ _ h).trans rfl,(zR w x 4 _ _ _ h).trans rfl,(zR w x 5 _ _ _ h).trans rfl,lt_of_block h⟩
theorem cells4 {w:World} {x:Nat} {v0 v1 v2 v3:Value} {T:TypeId} (h:w.heap[x]?=some (.cells #[v0,v1,v2,v3] T (0,0))):w.cell? ⟨x,0,none⟩=some v0/\w.cell? ⟨x,1,none⟩=some v1/\w.cell? ⟨x,2,none⟩=some v2/\w.cell? ⟨x,3,none⟩=some v3/\x<w.heap.size :=
 ⟨(zR w x 0 _ _ _ h).trans rfl,(zR w x 1 _ _ _ h).trans rfl,(zR w x 2 _ _ _ h).trans rfl,(zR w x 3 _ _ _ h).trans rfl,lt_of_block h⟩
theorem aC9 {w:World} {x:Nat} {v0 v1:Value} {T:TypeId} (h:w.heap[x]?=some (.cells #[v0,v1] T (0,0))):w.cell? ⟨x,0,none⟩=some v0/\w.cell? ⟨x,1,none⟩=some v1/\x<w.heap.size :=
 ⟨(zR w x 0 _ _ _ h).trans rfl,(zR w x 1 _ _ _ h).trans rfl,lt_of_block h⟩
section
variable {w:World} {a b c e t:Int} {ao:Option Addr} {cs:List Ins} {n cap:Nat} {po:Option Addr} {l:List Nat} {k co:Nat}
theorem aX4 (hc:Md.cfgB a b c e=true) (hn:cs.length=n) (hk:l.length=k) (hk8:k<=8) (hT:Shaped5 w) (hC:a35 w ao cs) (hL:FlAt w po l) (hnl:n<=9223372036854775807):Calls Tryz.prog 133 #[cfgV a b c e,.agg #[.int .i64 t,.slice ao n cap],.slice po k co] w fun r w'=>∃ bm K pa,r=.returned (.tuple #[.agg (trC a b (some ⟨bm,0,none⟩) 0 t (some ⟨pa,0,none⟩) k k),.bool true])/\∃ F,Mc w' bm F K (newM a c e t cs l)/\Abv w.heap.size F/\Abv w.heap.size K/\pa∉F/\pa∉K/\w.heap.size<=pa/\RowAt 71 w' (some ⟨pa,0,none⟩) k (fls (l.map fixB))/\Bl w w':=by
 have HN:Hid (∀ u,Bl w u->Calls Tryz.prog 129 #[cfgV a b c e,.agg #[.int .i64 t,.slice ao n cap],.slice po k co] u fun r w'=>∃ bm K,r=.returned (.pointer (some ⟨bm,0,none⟩))/\Gm u [] bm K w' (newM a c e t cs l)/\Abv u.heap.size K):=fun u hb=>aP0 hn hk (hT.on hb) (hC.on hb) (hL.on hb) hnl hc hk8
 have HX:Hid (∀ u,Below (begW w a b c e t ao n cap).heap.size (begW w a b c e t ao n cap) u->u.heap[w.heap.size]?=some (cfgO a b c e)/\u.heap[w.heap.size+1]?=some (prgO t ao n cap)/\u.heap[w.heap.size+1+1]?=some (trO trZ)/\Bl w u):=fun u hb=>aR5 hb
 have HP:=zH (fun u=>Md.place_any a b c e u);simp only[hc]at HP;have HFX:Hid (∀ u,Bl w u->Calls Tryz.prog 166 #[.slice po k co] u fun e w'=>e=.returned (.slice (some ⟨u.heap.size,0,none⟩) k k)/\RowAt 71 w' (some ⟨u.heap.size,0,none⟩) k (fls (l.map fixB))/\Bl u w'):=fun u hb=>as6 hk (hL.on hb) hk8
 clear hT hC hL hnl hn hk hc
 generalize newM a c e t cs l=m0 at *
 generalize h4:3+b=p4 at *
 generalize h5:p4+3*a=p5 at *
 go_enter Tryz.func133,Tryz.ntmps133
 go_wp2_with (first
  | (go_at_call 129;refine(HN.out _ ((HX.out _ (H1.out.alloc H1.out.size _)).2.2.2)).mono ?_;rintro e u2 ⟨bm,K,rfl,q1,q2⟩;have G2:=zH (And.intro q1 q2);have H2:=zH (a06 (H1.out.alloc H1.out.size _) q1.fresh);clear q1 q2)
  | (go_at_call 64;refine(HP.out _).mono ?_;rintro e u1 ⟨rfl,q⟩;have H1:=zH q;obtain⟨b0,b1,b2,b3⟩:=HX.out _ q;obtain⟨c0,c1,c2,c3,c4⟩:=cells4 b0;obtain⟨d0,d1,d2⟩:=aC9 b1;clear b0 b1 b2 b3 q))
 have Hb0:Hid (u2.heap[u1.heap.size]?=some (.cells #[.int .i64 0,.int .i64 1,.int .i64 2,.int .i64 3,.int .i64 p4,.int .i64 p5] 45)):=(G2.out.1.fresh.block _ (by simp)).trans (zN _ _);obtain⟨m0',m1,m2,m3⟩:=HX.out _ H2.out;have HB2:Hid (Bl w u2):=m3;obtain⟨d20,d21,d22⟩:=aC9 m1;obtain⟨e0,e1,e2,e3,e4,e5,e6⟩:=aN4 Hb0.out;have HTZ:Hid (u2.heap[w.heap.size+1+1]?=some (trO trZ)):=m2;have HNE:=zH (show u1.heap.size≠w.heap.size+1+1/\w.heap.size+1+1<u1.heap.size by have:=H1.out.size;simp at this;omega);clear m0' m1 m2 m3;refine a05 (fun u=>(u.cell? ⟨u1.heap.size,0,none⟩=some (.int .i64 0)/\u.cell? ⟨u1.heap.size,1,none⟩=some (.int .i64 1)/\u.cell? ⟨u1.heap.size,2,none⟩=some (.int .i64 2)/\u.cell? ⟨u1.heap.size,3,none⟩=some (.int .i64 3)/\u.cell? ⟨u1.heap.size,4,none⟩=some (.int .i64 p4)/\u.cell? ⟨u1.heap.size,5,none⟩=some (.int .i64 p5))/\u.cell? ⟨w.heap.size+1,0,none⟩=some (.int .i64 t) )  ((0,true)::(1,true)::(2,true)::(3,true)::(4,true)::(5,false)::(6,true)::(7,false)::(8,true)::[])  Md.Cv.follows13 (by kernel_rfl) (fun _ _ _ _ _ h=>h)  ⟨⟨e0,e1,e2,e3,e4,e5⟩,d20⟩ ?_
 (repeat ((first | (refine a02 (v:=?_) rfl (by rfl) (fun wq hSq=>?_) ?_;rotate_left;(focus ((try dsimp only at hSq);go_simp;try with_reducible rfl))) | refine a03 rfl (by rfl) ?_);simp only[Act.put,zA,zB,zC]))
 (refine a04 rfl (by rfl) (fun KK hK=>?_);go_simp)
 refine(HFX.out _ (HB2.out.trans ((Same.drew u2).below _))).mono ?_;rintro e u3 ⟨rfl,q1,q2⟩;have HR:=zH (And.intro q1 q2);have HB3:Hid (Bl w u3/\Bl u2 u3):=⟨(HB2.out.trans ((Same.drew u2).below _)).trans (q2.mono HB2.out.size),((Same.drew u2).below _).trans q2⟩;have HT3:Hid (u3.heap[w.heap.size+1+1]?=some (trO trZ)):=(HB3.out.2.block _ (lt_of_block HTZ.out)).trans HTZ.out;obtain⟨e30,e31,e32,e33,e34,e35,e36⟩:=aN4 ((HB3.out.2.block _ (lt_of_block Hb0.out)).trans Hb0.out);have d30:u3.cell? ⟨w.heap.size+1,0,none⟩=some (.int .i64 t):=(HB3.out.2.cell (p:=⟨w.heap.size+1,0,none⟩) d22).trans d20;obtain⟨⟨s0,s1,s2,s3,s4,s5,s6,s7,s8,s9,s10⟩,f⟩:=aX9 HT3.out;have f0:=f 0;have f1:=f 1;have f2:=f 2;have f3:=f 3;have f4:=f 4;have f5:=f 5;have f6:=f 6;have f7:=f 7;have f8:=f 8;have f9:=f 9;clear q1 q2 f;refine hK.out _ _ ⟨⟨e30,e31,e32,e33,e34,e35⟩,d30⟩ ?_
 (clear hK KK;try simp only[Act.put,zA,zB,zC])
 (repeat ((first | (refine a02 (v:=?_) rfl (by rfl) (fun wq hSq=>?_) ?_;rotate_left;(focus ((try dsimp only at hSq);go_simp;try with_reducible rfl))) | refine a03 rfl (by rfl) ?_);simp only[Act.put,zA,zB,zC]))
 (refine a04 rfl (by rfl) (fun KK hK=>?_);go_simp)
 have O:∀ j y,y≠w.heap.size+1+1->_:=fun j y hy=>Md.Cv.cell_kept (w:=u3) (bw0 (.int .i64 0) (.int .i64 1) (.int .i64 2) (.int .i64 3) (.int .i64 p4) (.int .i64 p5) (.pointer (some ⟨bm,0,none⟩)) (.int .i64 0) (.int .i64 t) (.slice (some ⟨u2.heap.size,0,none⟩) k k) hy) j
 refine hK.out _ _ ⟨⟨(O 0 _ HNE.out.1).trans e30,(O 1 _ HNE.out.1).trans e31,(O 2 _ HNE.out.1).trans e32,(O 3 _ HNE.out.1).trans e33,(O 4 _ HNE.out.1).trans e34,(O 5 _ HNE.out.1).trans e35⟩,(O 0 _ (by omega)).trans d30⟩ ?_;clear O
 (clear hK KK;try simp only[Act.put,zA,zB,zC])
 (repeat ((first | (refine a02 (v:=?_) rfl (by rfl) (fun wq hSq=>?_) ?_;rotate_left;(focus ((try dsimp only at hSq);go_simp;try with_reducible rfl))) | refine a03 rfl (by rfl) ?_);simp only[Act.put,zA,zB,zC]))
 refine a07 ?_;go_wp2_with fail;subst h4 h5;refine bz1 rfl (w.heap.size+1+1) true rfl rfl (bM2 HT3.out) rfl ⟨bm,K,u2.heap.size,rfl,?_⟩;obtain⟨F,hM,tF⟩:=G2.out.1.mc;have lo:Abv (u1.alloc (.cells #[.int .i64 0,.int .i64 1,.int .i64 2,.int .i64 3,.int .i64 (3+b),.int .i64 (3+b+3*a)] 45)).heap.size F:=fun i hi=>(tF.own i hi).elim (fun q=>by simp at q) id
 have lo2:=G2.out.2;have sz:(u1.alloc (.cells #[.int .i64 0,.int .i64 1,.int .i64 2,.int .i64 3,.int .i64 (3+b),.int .i64 (3+b+3*a)] 45)).heap.size=u1.heap.size+1:=by simp
 rw[sz]at lo lo2;have hne:=HNE.out.2;have hs2:=tF.size;rw[sz]at hs2;have kk:∀ L:List Nat,Blw u2 L->Abv (u1.heap.size+1) L->Kept L u2 (((((((((((u3.setCell ⟨w.heap.size+1+1,0,none⟩ (.int .i64 0)).setCell ⟨w.heap.size+1+1,1,none⟩ (.int .i64 1)).setCell ⟨w.heap.size+1+1,2,none⟩ (.int .i64 2)).setCell ⟨w.heap.size+1+1,3,none⟩ (.int .i64 3)).setCell ⟨w.heap.size+1+1,4,none⟩ (.int .i64 (3+b))).setCell ⟨w.heap.size+1+1,5,none⟩ (.int .i64 (3+b+3*a))).setCell ⟨w.heap.size+1+1,6,none⟩ (.pointer (some ⟨bm,0,none⟩))).setCell ⟨w.heap.size+1+1,7,none⟩ (.int .i64 0)).setCell ⟨w.heap.size+1+1,8,none⟩ (.int .i64 t)).setCell ⟨w.heap.size+1+1,9,none⟩ (.slice (some ⟨u2.heap.size,0,none⟩) k k))):=fun L hb ha=>⟨by have:=HB3.out.2.size;simpa using this,fun i hi=>(bw0 _ _ _ _ _ _ _ _ _ _ (by have:=ha i hi;omega)).trans (HB3.out.2.block i (hb i hi))⟩
 refine⟨F,hM.keep (kk F hM.blw lo) (kk K hM.blwK lo2),fun i hi=>by have:=lo i hi;omega,fun i hi=>by have:=lo2 i hi;omega,fun q=>absurd (hM.blw _ q) (Nat.lt_irrefl _),fun q=>absurd (hM.blwK _ q) (Nat.lt_irrefl _),by omega,HR.out.1.keep ⟨by simp,fun i hi=>bw0 _ _ _ _ _ _ _ _ _ _ ?_⟩,bH7 _ _ _ _ _ _ _ _ _ _ HB3.out.1 (by omega)⟩
 simp[fpR]at hi
 omega
end
attribute [local go_sem] a00
def newX (a b c e t:Int) (cs:List Ins) (l:List Nat) (th:Int):Rx:=⟨a,b,th,t,l.map fixB,newM a c e t cs l,0,1,0,0,0,-1,0,0⟩
theorem a30 {a b c e t:Int} {cs:List Ins} {l:List Nat} {th:Int} (hc:Md.cfgB a b c e=true) (hx:∀ k,k<cs.length->(ci cs k).x<18446744073709551616) (hl:∀ x∈l,x<18446744073709551616) (hk:l.length<=8) (ht:0<=th/\th<b):InX (newX a b c e t cs l th):=by
 obtain⟨h1,h2,h3,h4⟩:=Md.cfgB_iff.1 hc;have z:u64B 0:=⟨by decide,by decide⟩;exact⟨⟨h1,h2,rfl,ht,b32 hc hx hl,by show (l.map fixB).length<=8;simpa using hk,⟨by show 1<=1;omega,by show 1<=4;omega⟩,fun _=>⟨by show 0<=2;omega,rfl,rfl,fun _=>rfl,rfl,by show ¬ (0:Int)<=-1;omega⟩,(fun q=>by cases q),(fun q=>by rcases q with q | q <;> cases q),z,z,z,z⟩,by show (0:Int)<=0;omega,fun _=>rfl,(fun q=>by cases q),(fun q=>by cases q),(fun q=>by cases q)⟩
section
variable {w:World} {a b c e t th:Int} {ao:Option Addr} {cs:List Ins} {n cap:Nat} {po:Option Addr} {l:List Nat} {k co:Nat}
def ar5 (w w':World) (bm pa:Nat) (K:List Nat) (k:Nat) (l:List Nat) (m:Mac):Prop:=∃ F,Mc w' bm F K m/\Abv w.heap.size F/\Abv w.heap.size K/\pa∉F/\pa∉K/\w.heap.size<=pa/\RowAt 71 w' (some ⟨pa,0,none⟩) k (fls (l.map fixB))/\Bl w w'
theorem ar5.on {w w' w2:World} {bm pa:Nat} {K:List Nat} {k:Nat} {l:List Nat} {m:Mac} (h:ar5 w w' bm pa K k l m) (q:Bl w' w2):ar5 w w2 bm pa K k l m:=by
 obtain⟨F,h1,h2,h3,h4,h5,h6,h7,h8⟩:=h;exact⟨F,h1.on q,h2,h3,h4,h5,h6,h7.on q,h8.trans (q.mono h8.size)⟩
theorem ar5.below {w w':World} {bm pa:Nat} {K:List Nat} {k:Nat} {l:List Nat} {m:Mac} (h:ar5 w w' bm pa K k l m):Bl w w':=by
 obtain⟨F,_,_,_,_,_,_,_,h8⟩:=h;exact h8
theorem ar5.from {w0 w w':World} {bm pa:Nat} {K:List Nat} {k:Nat} {l:List Nat} {m:Mac} (h:ar5 w w' bm pa K k l m) (q:Bl w0 w):ar5 w0 w' bm pa K k l m:=by
 obtain⟨F,h1,h2,h3,h4,h5,h6,h7,h8⟩:=h;exact⟨F,h1,h2.mono q.size,h3.mono q.size,h4,h5,zQ q.size h6,h7,q.trans (h8.mono q.size)⟩
structure Made (w w':World) (bx:Nat) (x:Rx):Prop where
 at_:∃ z F r,RawAt w' bx x z none F (comC x) r/\Abv w.heap.size (gX bx z none F)/\Abv w.heap.size z.KK
 bl:Bl w w'
theorem aK9 {w u1 u3:World} {bm pa xc:Nat} {K:List Nat} (hk:l.length=k) (h:ar5 w u1 bm pa K k l (newM a c e t cs l)) (hb:Bl u1 u3) (hx:u1.heap.size<=xc) (hc:Md.Cv.CmAt u3 xc ⟨2,3,th,0,0,0⟩) {v:World} (hv:Same (u3.alloc (.cells #[.int .i64 0,.int .i64 1,.int .i64 2,.int .i64 3,.int .i64 (3+b),.int .i64 (3+b+3*a),.pointer (some ⟨bm,0,none⟩),.int .i64 0,.int .i64 t,.slice (some ⟨pa,0,none⟩) k k,.int .i64 th,.int .i64 1,.pointer (some ⟨xc,0,none⟩),.pointer none] 219)) v):Made w v u3.heap.size (newX a b c e t cs l th):=by
 obtain⟨F,h1,h2,h3,h4,h5,h6,h7,h8⟩:=h;have ha:Bl u3 v:=(below_alloc _ _).trans (hv.below _);have hb2:Bl u1 v:=hb.trans (ha.mono hb.size);have l1:∀ i∈F,i<u1.heap.size:=h1.blw
 have l2:∀ i∈K,i<u1.heap.size:=h1.blwK
 have l3:pa<u1.heap.size:=h7.blw pa (by simp[fpR]);have hs:=hb.size;have hs8:=h8.size;refine⟨⟨⟨bm,K,xc,some ⟨pa,0,none⟩,k⟩,F,⟨0,0,0,0,0,0,0,0,false⟩,⟨?_,h1.on hb2,hc.on ha,(fun n hn=>by cases hn),h7.on hb2,?_,?_,?_⟩,?_,?_⟩,h8.trans (hb2.mono hs8)⟩
 ·rw[hv.heap]
  refine(zN _ _).trans ?_;unfold aj2 newX ptrV;dsimp only;rw[List.length_map,hk]
  rfl
 ·intro i hi q
  have:=l1 i q
  simp at hi
  omega
 ·intro i hi q
  have q':i∈K∨i=pa:=by simpa[Rz.KK,fpR]using q
  have:=fun z=>l2 i z
  simp at hi
  rcases q' with q' | q'
  ·have:=l2 i q';omega
  ·omega
 ·intro i hi q
  simp[fpR]at hi
  subst hi;exact h4 q
 ·intro i hi
  simp only[gX,List.mem_cons,Option.toList_none,List.nil_append]at hi
  rcases hi with hi | hi | hi
  ·omega
  ·have hi':i=xc:=hi
   omega
  ·exact h2 i hi
 ·intro i hi
  have q':i∈K∨i=pa:=by simpa[Rz.KK,fpR]using hi
  rcases q' with q' | q'
  ·exact h3 i q'
  ·omega
theorem new_yes (hc:Md.cfgB a b c e=true) (hn:cs.length=n) (hk:l.length=k) (hk8:k<=8) (hT:Shaped5 w) (hC:a35 w ao cs) (hL:FlAt w po l) (hnl:n<=9223372036854775807) (h0:0<=th) (h1:th<b):Calls Tryz.prog 114 #[cfgV a b c e,.int .i64 th,.agg #[.int .i64 t,.slice ao n cap],.slice po k co] w fun r w'=>∃ bx,r=.returned (.pointer (some ⟨bx,0,none⟩))/\Made w w' bx (newX a b c e t cs l th):=by
 have HN:Hid (∀ u,Bl w u->Calls Tryz.prog 133 #[cfgV a b c e,.agg #[.int .i64 t,.slice ao n cap],.slice po k co] u fun r w'=>∃ bm K pa,r=.returned (.tuple #[.agg (trC a b (some ⟨bm,0,none⟩) 0 t (some ⟨pa,0,none⟩) k k),.bool true])/\ar5 u w' bm pa K k l (newM a c e t cs l)):=fun u hb=>aX4 hc hn hk hk8 (hT.on hb) (hC.on hb) (hL.on hb) hnl
 have HW:Hid (Bl w ((w.alloc (cfgO a b c e)).alloc (prgO t ao n cap))):=(below_alloc w _).trans ((below_alloc _ _).mono (by simp));have HMD:Hid (∀ u1 u3 bm pa xc K v,ar5 w u1 bm pa K k l (newM a c e t cs l)->Bl u1 u3->u1.heap.size<=xc->Md.Cv.CmAt u3 xc ⟨2,3,th,0,0,0⟩->Same (u3.alloc (.cells #[.int .i64 0,.int .i64 1,.int .i64 2,.int .i64 3,.int .i64 (3+b),.int .i64 (3+b+3*a),.pointer (some ⟨bm,0,none⟩),.int .i64 0,.int .i64 t,.slice (some ⟨pa,0,none⟩) k k,.int .i64 th,.int .i64 1,.pointer (some ⟨xc,0,none⟩),.pointer none] 219)) v->Made w v u3.heap.size (newX a b c e t cs l th)):=fun u1 u3 bm pa xc K v q1 q2 q3 q4 q5=>aK9 hk q1 q2 q3 q4 q5
 have HCO:Hid (∀ u,Calls Tryz.prog 134 #[.agg #[.int .i64 0,.int .i64 1,.int .i64 2,.int .i64 3,.int .i64 (3+b),.int .i64 (3+b+3*a)],.int .i64 th] u fun e w'=>∃ x,e=.returned (.pointer (some ⟨x,0,none⟩))/\u.heap.size<=x/\Md.Cv.CmAt w' x ⟨2,3,th,0,0,0⟩/\Bl u w'):=fun u=>Md.Cv.come_any 0 1 2 3 (3+b) (3+b+3*a) th u
 clear hc hn hk hk8 hT hC hL hnl
 generalize newX a b c e t cs l th=X at *
 generalize newM a c e t cs l=m0 at *
 have h4:Hid (∃ p4,p4=3+b):=⟨_,rfl⟩;obtain⟨p5,h5⟩:∃ p5,3+b+3*a=p5:=⟨_,rfl⟩
 obtain⟨p4,h4⟩:∃ p4,3+b=p4:=⟨_,rfl⟩
 rw[h5,h4]at HMD HCO;unfold trC at HN;rw[h5,h4]at HN;clear h4 h5;go_enter Tryz.func114,Tryz.ntmps114
 go_wp2_with (go_at_call 133;refine(HN.out _ HW.out).mono ?_;rintro e u1 ⟨bm,K,pa,rfl,q⟩;have H1:=zH (q.from HW.out);have e1:u1.cell? ⟨w.heap.size,1,none⟩=some (.int .i64 b):=(au2 q.below).2.1;have l1:w.heap.size<u1.heap.size:=(au2 q.below).2.2.2.2;clear q HN)
 obtain⟨u2,hu2⟩:∃ u2,u2=u1.alloc (.cells #[.int .i64 0,.int .i64 1,.int .i64 2,.int .i64 3,.int .i64 p4,.int .i64 p5,.pointer (some ⟨bm,0,none⟩),.int .i64 0,.int .i64 t,.slice (some ⟨pa,0,none⟩) k k] 212):=⟨_,rfl⟩
 rw[<- hu2];have H2:=zH (H1.out.on (below_alloc u1 (.cells #[.int .i64 0,.int .i64 1,.int .i64 2,.int .i64 3,.int .i64 p4,.int .i64 p5,.pointer (some ⟨bm,0,none⟩),.int .i64 0,.int .i64 t,.slice (some ⟨pa,0,none⟩) k k] 212)));rw[<- hu2]at H2;obtain⟨⟨s0,s1,s2,s3,s4,s5,s6,s7,s8,s9,s10⟩,_⟩:=aX9 (show u2.heap[u1.heap.size]?=_ by rw[hu2];exact zN _ _);clear hu2;refine a05 (fun u=>u.cell? ⟨u1.heap.size,0,none⟩=some (.int .i64 0)/\u.cell? ⟨u1.heap.size,1,none⟩=some (.int .i64 1)/\u.cell? ⟨u1.heap.size,2,none⟩=some (.int .i64 2)/\u.cell? ⟨u1.heap.size,3,none⟩=some (.int .i64 3)/\u.cell? ⟨u1.heap.size,4,none⟩=some (.int .i64 p4)/\u.cell? ⟨u1.heap.size,5,none⟩=some (.int .i64 p5)/\u.cell? ⟨u1.heap.size,6,none⟩=some (.pointer (some ⟨bm,0,none⟩))/\u.cell? ⟨u1.heap.size,7,none⟩=some (.int .i64 0)/\u.cell? ⟨u1.heap.size,8,none⟩=some (.int .i64 t)/\u.cell? ⟨u1.heap.size,9,none⟩=some (.slice (some ⟨pa,0,none⟩) k k) )  ((0,true)::(1,true)::(2,true)::(3,true)::(4,true)::(5,false)::(6,true)::(7,false)::(8,true)::[])  Md.Cv.follows13 (by kernel_rfl) (fun _ _ _ _ _ h=>h)  ⟨s0,s1,s2,s3,s4,s5,s6,s7,s8,s9⟩ ?_
 (repeat ((first | (refine a02 (v:=?_) rfl (by rfl) (fun wq hSq=>?_) ?_;rotate_left;(focus ((try dsimp only at hSq);go_simp;try with_reducible rfl))) | refine a03 rfl (by rfl) ?_);simp only[Act.put,zA,zB,zC]))
 (refine a04 rfl (by rfl) (fun KK hK=>?_);go_simp)
 refine(HCO.out _).mono ?_;rintro e u3 ⟨xc,rfl,q1,q2,q3⟩;have H3:Hid (u2.heap.size<=xc/\Md.Cv.CmAt u3 xc ⟨2,3,th,0,0,0⟩/\Bl u2 u3):=⟨q1,q2,((Same.drew u2).below _).trans q3⟩;clear q1 q2 q3;have ck:∀ (j:Nat) (v:Value),u2.cell? ⟨u1.heap.size,j,none⟩=some v->u3.cell? ⟨u1.heap.size,j,none⟩=some v:=fun j v hv=>(H3.out.2.2.cell (p:=⟨u1.heap.size,j,none⟩) s10).trans hv
 refine hK.out _ _ ⟨ck 0 _ s0,ck 1 _ s1,ck 2 _ s2,ck 3 _ s3,ck 4 _ s4,ck 5 _ s5,ck 6 _ s6,ck 7 _ s7,ck 8 _ s8,ck 9 _ s9⟩ ?_
 (clear hK KK;try simp only[Act.put,zA,zB,zC])
 (repeat ((first | (refine a02 (v:=?_) rfl (by rfl) (fun wq hSq=>?_) ?_;rotate_left;(focus ((try dsimp only at hSq);go_simp;try with_reducible rfl))) | refine a03 rfl (by rfl) ?_);simp only[Act.put,zA,zB,zC]))
 (refine a04 rfl (by rfl) (fun KK hK=>?_);go_simp)
 have l3:u1.heap.size<u3.heap.size:=zL s10 H3.out.2.2.size;have ck2:∀ (o:Obj) (j:Nat) (v:Value),u2.cell? ⟨u1.heap.size,j,none⟩=some v->(u3.alloc o).cell? ⟨u1.heap.size,j,none⟩=some v:=fun o j v hv=>(World.cell?_alloc_old _ _ _ (Nat.ne_of_lt l3)).trans (ck j v hv)
 refine hK.out _ _ ⟨ck2 _ 0 _ s0,ck2 _ 1 _ s1,ck2 _ 2 _ s2,ck2 _ 3 _ s3,ck2 _ 4 _ s4,ck2 _ 5 _ s5,ck2 _ 6 _ s6,ck2 _ 7 _ s7,ck2 _ 8 _ s8,ck2 _ 9 _ s9⟩ ?_;clear ck ck2
 (clear hK KK;try simp only[Act.put,zA,zB,zC])
 (repeat ((first | (refine a02 (v:=?_) rfl (by rfl) (fun wq hSq=>?_) ?_;rotate_left;(focus ((try dsimp only at hSq);go_simp;try with_reducible rfl))) | refine a03 rfl (by rfl) ?_);simp only[Act.put,zA,zB,zC]))
 refine a07 ?_;go_wp2_with fail;go_ret;exact⟨_,rfl,HMD.out _ _ _ _ _ _ _ H2.out H3.out.2.2 H3.out.1 H3.out.2.1 (Same.refl _)⟩
end
end Go.Proofs.YtlkldgopliablaaGreatDoor.Rr
namespace Go.Proofs.YtlkldgopliablaaGreatDoor.Ww
open Go.ChangeShapes Go.WideShapes Go.ChangeAt Go.RowKit Num Rr
structure Wz where
 bm:Nat
 K:List Nat
 pa:Option Addr
 ca:Nat
def Wz.KK (z:Wz):List Nat:=z.K ++ fpR z.pa
def ptrV (q:Option Nat):Value:=.pointer (q.map fun n=>⟨n,0,none⟩)
structure Wv where
 ph:Option Addr
 ch:Nat
 qs:Option Nat
 s:Md.Cv.Ss
 qw:Option Nat
 t:Md.Ce.Wt
 bg:Int
 nb:Int
 nx:Value
 F:List Nat
def partF (p:Nat):FuncId:=if p=1 then 132 else if p=2 then 165 else if p=3 then 189 else if p=4 then 209 else if p=5 then 230 else if p=6 then 269 else if p=7 then 266 else 228
def fnV (f:FuncId):Value:=.func (.func f) #[] #[]
def aj9 (p:Nat):Value:=if p=9 then .nilFunc else fnV (partF p)
def boxY (x:Wx) (z:Wz) (v:Wv):Array Value:=#[.int .i64 0,.int .i64 1,.int .i64 2,.int .i64 3,.int .i64 (3+x.b),.int .i64 (3+x.b+3*x.a),.int .i64 x.b,.int .i64 x.tag,.slice z.pa x.args.length z.ca,.pointer (some ⟨z.bm,0,none⟩),.int .i64 x.steps,.int .i64 (x.part:Int),v.nx,.int .u64 x.tick,.int .u64 x.stamp,.slice v.ph x.was.length v.ch,ptrV v.qs,.int .i64 v.bg,ptrV v.qw,.int .u64 v.nb]
def ownY (b:Nat) (v:Wv):List (List Nat):=[[b],fpR v.ph,v.qs.toList,v.qw.toList,v.F]
def LY (b:Nat) (z:Wz) (v:Wv):List (List Nat):=[[b],fpR v.ph,v.qs.toList,v.qw.toList,v.F,z.KK]
def gY (b:Nat) (v:Wv):List Nat:=(ownY b v).flatten
structure RawAt (w:World) (b:Nat) (x:Wx) (z:Wz) (v:Wv):Prop where
 box:w.heap[b]?=some (.cells (boxY x z v) 209 (0,0))
 mac:Mc w z.bm v.F z.K x.m
 had:RowAt 71 w v.ph v.ch (fls x.was)
 sc:∀ n,v.qs=some n->Md.Cv.ScAt w n v.s
 wr:∀ n,v.qw=some n->Md.Ce.WtAt w n v.t
 arg:RowAt 71 w z.pa z.ca (fls x.args)
 apart:aC3 (LY b z v)
theorem af9 {L F:List Nat} {w w':World} (o1:w'.os=w.os) (o2:w'.tape=w.tape) (o3:w'.output=w.output) (hs:w.heap.size<=w'.heap.size) (hL:∀ k,k∈L->k∈F) (hb:∀ k,k<w.heap.size->k∉L->w'.heap[k]?=w.heap[k]?):Turn F F w w' :=
 ⟨o1,o2,o3,hs,fun k hk hn=>hb k hk (fun q=>hn (hL k q)),fun _ h=>.inl h⟩
theorem ae1 {F:List Nat} {w:World} {b j:Nat} {v:Value} (h:b∉F):Kept F w (w.setCell ⟨b,j,none⟩ v):=⟨by simp,fun i hi=>zO _ _ _ _ (fun (e:i=b)=>h (e ▸ hi))⟩
section
variable {w w':World} {b:Nat} {x:Wx} {z:Wz} {v:Wv}
theorem mem_gY {k:Nat}:k∈gY b v ↔ k=b∨k∈fpR v.ph∨v.qs=some k∨v.qw=some k∨k∈v.F:=by
 simp only[gY,ownY,List.flatten_cons,List.flatten_nil,List.append_nil,List.mem_append,List.mem_cons,List.not_mem_nil,or_false,Option.mem_toList]
theorem in_b:b∈gY b v:=mem_gY.2 (.inl rfl)
theorem in_h {k:Nat} (h:k∈fpR v.ph):k∈gY b v:=mem_gY.2 (.inr (.inl h))
theorem in_s {k:Nat} (h:v.qs=some k):k∈gY b v:=mem_gY.2 (.inr (.inr (.inl h)))
theorem in_w {k:Nat} (h:v.qw=some k):k∈gY b v:=mem_gY.2 (.inr (.inr (.inr (.inl h))))
theorem in_F {k:Nat} (h:k∈v.F):k∈gY b v:=mem_gY.2 (.inr (.inr (.inr (.inr h))))
theorem aB0 {j k:Nat} (hj:j<5) (h:k∈(LY b z v).getD j []):k∈gY b v:=by
 match j,hj with
 | 0,_=>exact mem_gY.2 (.inl (by simpa[LY]using h))
 | 1,_=>exact in_h h
 | 2,_=>exact in_s (by simpa[LY]using h)
 | 3,_=>exact in_w (by simpa[LY]using h)
 | 4,_=>exact in_F h
theorem b28 {k:Nat} (h:k∈gY b v):∃ j,j<5/\k∈(LY b z v).getD j []:=by
 rcases mem_gY.1 h with h | h | h | h | h
 ·exact⟨0,by omega,by simp[LY,h]⟩
 ·exact⟨1,by omega,h⟩
 ·exact⟨2,by omega,by simp[LY,h]⟩
 ·exact⟨3,by omega,by simp[LY,h]⟩
 ·exact⟨4,by omega,h⟩
theorem RawAt.ltB (h:RawAt w b x z v):b<w.heap.size:=lt_of_block h.box
theorem RawAt.blwK (h:RawAt w b x z v):Blw w z.KK:=fun k hk=>by
 rcases List.mem_append.1 hk with hk | hk
 ·exact h.mac.blwK k hk
 ·exact h.arg.blw k hk
theorem RawAt.blws (h:RawAt w b x z v):∀ j,Blw w ((LY b z v).getD j []):=fun j=>by
 match j with
 | 0=>exact fun k hk=>by rw[show k=b by simpa[LY]using hk];exact h.ltB
 | 1=>exact h.had.blw
 | 2=>intro k hk;exact(h.sc k (by simpa[LY]using hk)).lt
 | 3=>intro k hk;exact(h.wr k (by simpa[LY]using hk)).lt
 | 4=>exact h.mac.blw
 | 5=>exact h.blwK
 | n+6=>intro k hk;simp[LY]at hk
theorem RawAt.blw (h:RawAt w b x z v):Blw w (gY b v):=fun k hk=>by
 obtain⟨j,_,hj⟩:=b28 (z:=z) hk;exact h.blws j k hj
theorem RawAt.sep (h:RawAt w b x z v):Sep z.KK (gY b v):=fun k hk q=>by
 obtain⟨j,hj,hq⟩:=b28 (z:=z) q;exact h.apart 5 j (by omega) k hk hq
theorem RawAt.all (h:RawAt w b x z v) (hs:w.heap.size<=w'.heap.size) (k:∀ j,Kept ((LY b z v).getD j []) w w'):RawAt w' b x z v :=
 ⟨((k 0).2 b (by simp[LY])).trans h.box,h.mac.keep (k 4) ⟨hs,fun i hi=>(k 5).2 i (List.mem_append.2 (.inl hi))⟩,h.had.keep (k 1),fun n hn=>(h.sc n hn).keep ((k 2).2 n (by simp[LY,hn])),fun n hn=>(h.wr n hn).keep ((k 3).2 n (by simp[LY,hn])),h.arg.keep ⟨hs,fun i hi=>(k 5).2 i (List.mem_append.2 (.inr hi))⟩,h.apart⟩
theorem RawAt.keep (h:RawAt w b x z v) (k:Kept (gY b v) w w') (k2:Kept z.KK w w'):RawAt w' b x z v :=
 h.all k.1 fun j=>by
  by_cases hj:j<5
  ·exact⟨k.1,fun i hi=>k.2 i (aB0 hj hi)⟩
  ·by_cases h5:j=5
   ·subst h5;exact k2
   ·exact⟨k.1,fun i hi=>by
     match j,hj,h5,hi with
     | n+6,_,_,hi=>simp[LY]at hi⟩
theorem RawAt.on (h:RawAt w b x z v) (k:Bl w w'):RawAt w' b x z v:=h.keep (a27 k h.blw) (a27 k h.blwK)
theorem RawAt.cell (h:RawAt w b x z v) (j:Nat):w.cell? ⟨b,j,none⟩=(boxY x z v)[j]?:=zR w b j _ _ _ h.box
theorem RawAt.free (h:RawAt w b x z v) (j:Nat):w.frozen? ⟨b,j,none⟩=false:=zZ w b j _ _ h.box
theorem RawAt.others (h:RawAt w b x z v) {i:Nat} {F':List Nat} (t:Turn ((LY b z v).getD i []) F' w w'):∀ j,j≠i->Kept ((LY b z v).getD j []) w w':=fun j hj=>t.kept (h.apart j i hj) (h.blws j)
theorem RawAt.put (h:RawAt w b x z v) (j:Nat) (u:Value) (x':Wx) (v':Wv) (e:(boxY x z v).setIfInBounds j u=boxY x' z v') (hm:x'.m=x.m/\x'.args=x.args/\x'.was=x.was) (hv:v'.ph=v.ph/\v'.ch=v.ch/\v'.qs=v.qs/\v'.s=v.s/\v'.qw=v.qw/\v'.t=v.t/\v'.F=v.F):RawAt (w.setCell ⟨b,j,none⟩ u) b x' z v':=by
 obtain⟨m1,m2,m3⟩:=hm;obtain⟨v1,v2,v3,v4,v5,v6,v7⟩:=hv;have kk:=h.others (i:=0) (a24 w b j u);have eL:LY b z v'=LY b z v:=by unfold LY;rw[v1,v3,v5,v7]
 refine⟨?_,by rw[m1,v7];exact h.mac.keep (kk 4 (by omega)) ⟨by simp,fun i hi=>(kk 5 (by omega)).2 i (List.mem_append.2 (.inl hi))⟩,by rw[m3,v1,v2];exact h.had.keep (kk 1 (by omega)),fun n hn=>by rw[v3]at hn;rw[v4];exact(h.sc n hn).keep ((kk 2 (by omega)).2 n (by simp[LY,hn])),fun n hn=>by rw[v5]at hn;rw[v6];exact(h.wr n hn).keep ((kk 3 (by omega)).2 n (by simp[LY,hn])),by rw[m2];exact h.arg.keep ⟨by simp,fun i hi=>(kk 5 (by omega)).2 i (List.mem_append.2 (.inr hi))⟩,by rw[eL];exact h.apart⟩;rw[<- e];exact zS w b j _ _ u h.box
theorem RawAt.putS (h:RawAt w b x z v) {n:Nat} {s:Md.Cv.Ss} (hs:Md.Cv.ScAt w n s) (hg:n∉gY b v) (hK:n∉z.KK):RawAt (w.setCell ⟨b,16,none⟩ (.pointer (some ⟨n,0,none⟩))) b x z { v with qs:=some n,s:=s }:=by
 have kk:=h.others (i:=0) (a24 w b 16 (.pointer (some ⟨n,0,none⟩)));have nb:n≠b:=fun e=>hg (e ▸ in_b)
 refine⟨zS w b 16 _ _ _ h.box,h.mac.keep (kk 4 (by omega)) ⟨by simp,fun i hi=>(kk 5 (by omega)).2 i (List.mem_append.2 (.inl hi))⟩,h.had.keep (kk 1 (by omega)),fun m hm=>?_,fun m hm=>(h.wr m hm).keep ((kk 3 (by omega)).2 m (by simp only[LY];simpa using hm)),h.arg.keep ⟨by simp,fun i hi=>(kk 5 (by omega)).2 i (List.mem_append.2 (.inr hi))⟩,fun i j hij=>?_⟩
 ·obtain rfl:n=m:=Option.some.inj hm
  exact hs.keep (zO _ _ _ _ nb)
 ·have P:∀ j,j≠2->(LY b z { v with qs:=some n,s:=s }).getD j []=(LY b z v).getD j []:=fun j hj=>by
   match j,hj with
   | 0,_=>rfl
   | 1,_=>rfl
   | 3,_=>rfl
   | 4,_=>rfl
   | 5,_=>rfl
   | j+6,_=>rfl
  have N:∀ j,j≠2->n∉(LY b z v).getD j []:=fun j hj y=>by
   by_cases h5:j<5
   ·exact hg (aB0 h5 y)
   ·match j,h5,y with
    | 5,_,y=>exact hK y
    | j+6,_,y=>simp[LY]at y
  by_cases i2:i=2
  ·subst i2
   rw[P j (by omega)];intro k hk y;have:k=n:=by simpa[LY,eq_comm]using hk
   exact N j (by omega) (this ▸ y)
  ·rw[P i i2]
   by_cases j2:j=2
   ·subst j2
    intro k hk y;have:k=n:=by simpa[LY,eq_comm]using y
    exact N i i2 (this ▸ hk)
   ·rw[P j j2]
    exact h.apart i j hij
theorem RawAt.putW (h:RawAt w b x z v) {n:Nat} {t:Md.Ce.Wt} (hs:Md.Ce.WtAt w n t) (hg:n∉gY b v) (hK:n∉z.KK):RawAt (w.setCell ⟨b,18,none⟩ (.pointer (some ⟨n,0,none⟩))) b x z { v with qw:=some n,t:=t }:=by
 have kk:=h.others (i:=0) (a24 w b 18 (.pointer (some ⟨n,0,none⟩)));have nb:n≠b:=fun e=>hg (e ▸ in_b)
 refine⟨zS w b 18 _ _ _ h.box,h.mac.keep (kk 4 (by omega)) ⟨by simp,fun i hi=>(kk 5 (by omega)).2 i (List.mem_append.2 (.inl hi))⟩,h.had.keep (kk 1 (by omega)),fun m hm=>(h.sc m hm).keep ((kk 2 (by omega)).2 m (by simp only[LY];simpa using hm)),fun m hm=>?_,h.arg.keep ⟨by simp,fun i hi=>(kk 5 (by omega)).2 i (List.mem_append.2 (.inr hi))⟩,fun i j hij=>?_⟩
 ·obtain rfl:n=m:=Option.some.inj hm
  exact hs.keep (zO _ _ _ _ nb)
 ·have P:∀ j,j≠3->(LY b z { v with qw:=some n,t:=t }).getD j []=(LY b z v).getD j []:=fun j hj=>by
   match j,hj with
   | 0,_=>rfl
   | 1,_=>rfl
   | 2,_=>rfl
   | 4,_=>rfl
   | 5,_=>rfl
   | j+6,_=>rfl
  have N:∀ j,j≠3->n∉(LY b z v).getD j []:=fun j hj y=>by
   by_cases h5:j<5
   ·exact hg (aB0 h5 y)
   ·match j,h5,y with
    | 5,_,y=>exact hK y
    | j+6,_,y=>simp[LY]at y
  by_cases i2:i=3
  ·subst i2
   rw[P j (by omega)];intro k hk y;have:k=n:=by simpa[LY,eq_comm]using hk
   exact N j (by omega) (this ▸ y)
  ·rw[P i i2]
   by_cases j2:j=3
   ·subst j2
    intro k hk y;have:k=n:=by simpa[LY,eq_comm]using y
    exact N i i2 (this ▸ hk)
   ·rw[P j j2]
    exact h.apart i j hij
theorem RawAt.scans (h:RawAt w b x z v) {n:Nat} {s:Md.Cv.Ss} (hn:v.qs=some n) (hs:w.heap.size<=w'.heap.size) (k:∀ j,j≠2->Kept ((LY b z v).getD j []) w w') (h2:Md.Cv.ScAt w' n s):RawAt w' b x z { v with s:=s } :=
 ⟨((k 0 (by omega)).2 b (by simp[LY])).trans h.box,h.mac.keep (k 4 (by omega)) ⟨hs,fun i hi=>(k 5 (by omega)).2 i (List.mem_append.2 (.inl hi))⟩,h.had.keep (k 1 (by omega)),fun m hm=>by have e:=hn.symm.trans hm;cases e;exact h2,fun m hm=>(h.wr m hm).keep ((k 3 (by omega)).2 m (by simp only[LY];simpa using hm)),h.arg.keep ⟨hs,fun i hi=>(k 5 (by omega)).2 i (List.mem_append.2 (.inr hi))⟩,h.apart⟩
theorem RawAt.writes (h:RawAt w b x z v) {n:Nat} {t:Md.Ce.Wt} (hn:v.qw=some n) (hs:w.heap.size<=w'.heap.size) (k:∀ j,j≠3->Kept ((LY b z v).getD j []) w w') (h2:Md.Ce.WtAt w' n t):RawAt w' b x z { v with t:=t } :=
 ⟨((k 0 (by omega)).2 b (by simp[LY])).trans h.box,h.mac.keep (k 4 (by omega)) ⟨hs,fun i hi=>(k 5 (by omega)).2 i (List.mem_append.2 (.inl hi))⟩,h.had.keep (k 1 (by omega)),fun m hm=>(h.sc m hm).keep ((k 2 (by omega)).2 m (by simp only[LY];simpa using hm)),fun m hm=>by have e:=hn.symm.trans hm;cases e;exact h2,h.arg.keep ⟨hs,fun i hi=>(k 5 (by omega)).2 i (List.mem_append.2 (.inr hi))⟩,h.apart⟩
theorem RawAt.mach (h:RawAt w b x z v) {m':Mac} (g:Gm w v.F z.bm z.K w' m'):∃ F',RawAt w' b { x with m:=m' } z { v with F:=F' }/\Turn v.F F' w w':=by
 obtain⟨F',hM,t⟩:=g.mc;have kk:=h.others (i:=4) t;exact⟨F',⟨((kk 0 (by omega)).2 b (by simp[LY])).trans h.box,hM,h.had.keep (kk 1 (by omega)),fun n hn=>(h.sc n hn).keep ((kk 2 (by omega)).2 n (by simp only[LY];simpa using hn)),fun n hn=>(h.wr n hn).keep ((kk 3 (by omega)).2 n (by simp only[LY];simpa using hn)),h.arg.keep ⟨t.size,fun i hi=>(kk 5 (by omega)).2 i (List.mem_append.2 (.inr hi))⟩,h.apart.turn (i:=4) h.blws (by simp[LY]) t⟩,t⟩
theorem RawAt.hads (h:RawAt w b x z v) {w3:World} {u:Value} {y:Nat} (hown:w3.ownsRow 0 71 1 u (x.was.length+1) (fls x.was ++ [.float .f64 y])) (hg:w.grownBy w3 (Value.slice v.ph x.was.length v.ch).ownBlock) (hat:u.ownBlock=(Value.slice v.ph x.was.length v.ch).ownBlock∨∃ s,u.ownBlock=some s/\w.heap.size<=s) :
  ∃ p' c',u=.slice p' (x.was.length+1) c'/\Turn (fpR v.ph) (fpR p') w w3/\RawAt (w3.setCell ⟨b,15,none⟩ u) b { x with was:=x.was ++ [y] } z { v with ph:=p',ch:=c' }:=by
 obtain⟨p',c',rfl,hr⟩:=a84 hown;have hl:(fls x.was ++ [Value.float .f64 y]).length=x.was.length+1:=by simp[a26]
 rw[hl]at hat ⊢;have ho:∀ k,k∈fpR p'->k∈fpR v.ph∨w.heap.size<=k:=by
  rcases hat with q | ⟨s,q,hs⟩
  ·exact aj3 (s:=w.heap.size) (.inl q) (zE _)
  ·exact aj3 (n:=x.was.length) (c:=v.ch) (.inr q) hs
 have t:Turn (fpR v.ph) (fpR p') w w3:=⟨hg.os,hg.tape,hg.output,hg.size,fun k hk hn=>hg.block k hk (fun q=>hn (a40.2 q.symm)),ho⟩;have kk:=h.others (i:=1) t;have hbox:w3.heap[b]?=_:=((kk 0 (by omega)).2 b (by simp[LY])).trans h.box;have ap:aC3 (LY b z { v with ph:=p',ch:=c' }):=h.apart.turn (i:=1) h.blws (by simp[LY]) t;have k2:∀ j,j≠0->∀ F,F=(LY b z { v with ph:=p',ch:=c' }).getD j []->Kept F w3 (w3.setCell ⟨b,15,none⟩ (.slice p' (x.was.length+1) c')):=fun j hj F hF=>ae1 (fun y=>ap j 0 hj b (hF ▸ y) (by simp[LY]))
 have tr:∀ {F},Kept F w w3->Kept F w3 (w3.setCell ⟨b,15,none⟩ (.slice p' (x.was.length+1) c'))->Kept F w (w3.setCell ⟨b,15,none⟩ (.slice p' (x.was.length+1) c')):=fun a c=>⟨zQ a.1 c.1,fun i hi=>(c.2 i hi).trans (a.2 i hi)⟩
 have k4:=tr (kk 4 (by omega)) (k2 4 (by omega) _ rfl);have k5:=tr (kk 5 (by omega)) (k2 5 (by omega) _ rfl);refine⟨p',c',rfl,t,⟨?_,h.mac.keep k4 ⟨k5.1,fun i hi=>k5.2 i (List.mem_append.2 (.inl hi))⟩,?_,fun n hn=>(h.sc n hn).keep ((tr (kk 2 (by omega)) (k2 2 (by omega) _ rfl)).2 n (by simp only[LY];simpa using hn)),fun n hn=>(h.wr n hn).keep ((tr (kk 3 (by omega)) (k2 3 (by omega) _ rfl)).2 n (by simp only[LY];simpa using hn)),h.arg.keep ⟨k5.1,fun i hi=>k5.2 i (List.mem_append.2 (.inr hi))⟩,ap⟩⟩
 ·refine(zS w3 b 15 _ _ _ hbox).trans ?_
  have:(x.was ++ [y]).length=x.was.length+1:=by simp
  unfold boxY;rw[this]
  rfl
 ·rw[aq9]
  exact hr.keep (k2 1 (by omega) _ rfl)
end
def Mid (W:World) (G0:List Nat) (b:Nat) (z:Wz) (mb mg:Nat) (w:World) (x:Wx) (v:Wv) (ws:List Int) (o:Bool) (n:Int):Prop :=
 RawAt w b x z v/\MemAt 145 w mb mg ws o n/\Sep [mb,mg] (gY b v)/\Sep [mb,mg] z.KK/\Turn G0 (mb::mg::gY b v) W w
section
variable {W w w':World} {G0:List Nat} {b mb mg:Nat} {x:Wx} {z:Wz} {v:Wv} {ws:List Int} {o:Bool} {n:Int}
theorem Mid.raw (h:Mid W G0 b z mb mg w x v ws o n):RawAt w b x z v:=h.1
theorem Mid.mem (h:Mid W G0 b z mb mg w x v ws o n):MemAt 145 w mb mg ws o n:=h.2.1
theorem Mid.cell (h:Mid W G0 b z mb mg w x v ws o n) (j:Nat):w.cell? ⟨b,j,none⟩=(boxY x z v)[j]?:=h.1.cell j
theorem Mid.free (h:Mid W G0 b z mb mg w x v ws o n) (j:Nat):w.frozen? ⟨b,j,none⟩=false:=h.1.free j
theorem Mid.ltB (h:Mid W G0 b z mb mg w x v ws o n):b<w.heap.size:=h.1.ltB
theorem Mid.size (h:Mid W G0 b z mb mg w x v ws o n):W.heap.size<=w.heap.size:=h.2.2.2.2.size
theorem Mid.on (h:Mid W G0 b z mb mg w x v ws o n) (k:Bl w w'):Mid W G0 b z mb mg w' x v ws o n:=by
 obtain⟨h1,h2,h3,h4,t⟩:=h;exact⟨h1.on k,h2.on k,h3,h4,t.trans (Below.turn k _)⟩
theorem Mid.alloc (h:Mid W G0 b z mb mg w x v ws o n) (y:Obj):Mid W G0 b z mb mg (w.alloc y) x v ws o n:=h.on (below_alloc _ y)
theorem Mid.same (h:Mid W G0 b z mb mg w x v ws o n) (k:Same w w'):Mid W G0 b z mb mg w' x v ws o n:=h.on (k.below _)
theorem Mid.drew (h:Mid W G0 b z mb mg w x v ws o n):Mid W G0 b z mb mg w.drew x v ws o n:=h.same (Same.drew w)
theorem Mid.put (h:Mid W G0 b z mb mg w x v ws o n) (j:Nat) (u:Value) (x':Wx) (v':Wv) (e:(boxY x z v).setIfInBounds j u=boxY x' z v') (hm:x'.m=x.m/\x'.args=x.args/\x'.was=x.was) (hv:v'.ph=v.ph/\v'.ch=v.ch/\v'.qs=v.qs/\v'.s=v.s/\v'.qw=v.qw/\v'.t=v.t/\v'.F=v.F):Mid W G0 b z mb mg (w.setCell ⟨b,j,none⟩ u) x' v' ws o n:=by
 obtain⟨h1,h2,h3,h4,t⟩:=h;have eg:gY b v'=gY b v:=by obtain⟨v1,_,v3,_,v5,_,v7⟩:=hv;unfold gY ownY;rw[v1,v3,v5,v7]
 have tb:Turn (mb::mg::gY b v) (mb::mg::gY b v) w (w.setCell ⟨b,j,none⟩ u):=af9 (L:=[b]) rfl rfl rfl (by simp) (fun k hk=>by
  simp only[List.mem_cons,List.not_mem_nil,or_false]at hk;subst hk;exact List.mem_cons_of_mem _ (List.mem_cons_of_mem _ in_b)) fun k _ hn=>zO _ _ _ _ (by simpa using hn)
 refine⟨h1.put j u x' v' e hm hv,h2.other (fun e=>h3 mb (by simp) (e ▸ in_b)) (fun e=>h3 mg (by simp) (e ▸ in_b)) j u,by rw[eg];exact h3,h4,?_⟩;rw[eg];exact t.trans tb
theorem Mid.memb {ws':List Int} {o':Bool} {n':Int} (h:Mid W G0 b z mb mg w x v ws o n) (k:Chg mb mg w w') (hm:MemAt 145 w' mb mg ws' o' n'):Mid W G0 b z mb mg w' x v ws' o' n':=by
 obtain⟨h1,h2,h3,h4,t⟩:=h;refine⟨h1.keep ⟨k.size,fun i hi=>k.block i (h1.blw i hi) (fun e=>h3 mb (by simp) (e ▸ hi)) (fun e=>h3 mg (by simp) (e ▸ hi))⟩ ⟨k.size,fun i hi=>k.block i (h1.blwK i hi) (fun e=>h4 mb (by simp) (e ▸ hi)) (fun e=>h4 mg (by simp) (e ▸ hi))⟩,hm,h3,h4,t.trans (af9 (L:=[mb,mg]) k.os k.tape k.output k.size (fun i hi=>?_) fun i hi hn=>k.block i hi (fun e=>hn (by simp[e])) (fun e=>hn (by simp[e])))⟩;simp only[List.mem_cons,List.not_mem_nil,or_false]at hi
 rcases hi with rfl | rfl <;> simp
theorem Mid.rest (h:Mid W G0 b z mb mg w x v ws o n) {i0 i:Nat} (hs:w.heap.size<=w'.heap.size) (k:∀ i,i<w.heap.size->i∉[mb,mg,i0]->w'.heap[i]?=w.heap[i]?) (hi:i0∈(LY b z v).getD i []):∀ j,j≠i->Kept ((LY b z v).getD j []) w w':=fun j hj=>by
 obtain⟨h1,h2,h3,h4,t⟩:=h;refine⟨hs,fun q hq=>k q (h1.blws j q hq) (fun e=>?_)⟩;have M:∀ m,m∈[mb,mg]->m≠q:=fun m hm e=>by
  by_cases h5:j<5
  ·exact h3 m hm (e ▸ aB0 h5 hq)
  ·match j,h5,hq with
   | 5,_,hq=>exact h4 m hm (e ▸ hq)
   | j+6,_,hq=>simp[LY]at hq
 simp only[List.mem_cons,List.not_mem_nil,or_false]at e
 rcases e with e | e | e
 ·exact M mb (by simp) e.symm
 ·exact M mg (by simp) e.symm
 ·exact h1.apart j i hj q hq (e ▸ hi)
theorem Mid.scans {ws':List Int} {o':Bool} {n':Int} {i0:Nat} {s:Md.Cv.Ss} (h:Mid W G0 b z mb mg w x v ws o n) (hq:v.qs=some i0) (k:Md.Cv.Ch3 mb mg i0 w w') (hm:MemAt 145 w' mb mg ws' o' n') (hr:Md.Cv.ScAt w' i0 s):Mid W G0 b z mb mg w' x { v with s:=s } ws' o' n':=by
 have K:∀ i,i<w.heap.size->i∉[mb,mg,i0]->w'.heap[i]?=w.heap[i]?:=fun i hi hn=>k.block i hi (fun e=>hn (by simp[e])) (fun e=>hn (by simp[e])) (fun e=>hn (by simp[e]))
 have R:=h.rest (i0:=i0) (i:=2) k.size K (by simp[LY,hq]);obtain⟨h1,h2,h3,h4,t⟩:=h;refine⟨h1.scans hq k.size R hr,hm,h3,h4,t.trans (af9 (L:=[mb,mg,i0]) k.os k.tape k.output k.size (fun i hi=>?_) K)⟩;simp only[List.mem_cons,List.not_mem_nil,or_false]at hi
 rcases hi with rfl | rfl | rfl
 ·simp
 ·simp
 ·exact List.mem_cons_of_mem _ (List.mem_cons_of_mem _ (in_s hq))
theorem Mid.writes {ws':List Int} {o':Bool} {n':Int} {i0:Nat} {s:Md.Ce.Wt} (h:Mid W G0 b z mb mg w x v ws o n) (hq:v.qw=some i0) (k:Md.Ce.Ch [mb,mg,i0] w w') (hm:MemAt 145 w' mb mg ws' o' n') (hr:Md.Ce.WtAt w' i0 s):Mid W G0 b z mb mg w' x { v with t:=s } ws' o' n':=by
 have R:=h.rest (i0:=i0) (i:=3) k.size k.block (by simp[LY,hq]);obtain⟨h1,h2,h3,h4,t⟩:=h;refine⟨h1.writes hq k.size R hr,hm,h3,h4,t.trans (af9 (L:=[mb,mg,i0]) k.os k.tape k.output k.size (fun i hi=>?_) k.block)⟩;simp only[List.mem_cons,List.not_mem_nil,or_false]at hi
 rcases hi with rfl | rfl | rfl
 ·simp
 ·simp
 ·exact List.mem_cons_of_mem _ (List.mem_cons_of_mem _ (in_w hq))
theorem Mid.new (h:Mid W G0 b z mb mg w x v ws o n) {i0:Nat} (hi:w.heap.size<=i0):i0∉gY b v/\i0∉z.KK/\i0≠mb/\i0≠mg:=by
 obtain⟨h1,h2,h3,h4,t⟩:=h;exact⟨fun y=>absurd (h1.blw i0 y) (Nat.not_lt.2 hi),fun y=>absurd (h1.blwK i0 y) (Nat.not_lt.2 hi),fun e=>by have:=h2.ltB;omega,fun e=>by have:=h2.ltG;omega⟩
theorem Mid.scanNew {w1:World} {s:Md.Cv.Ss} {i0:Nat} (h:Mid W G0 b z mb mg w x v ws o n) (k:Bl w w1) (hi:w.heap.size<=i0) (hr:Md.Cv.ScAt w1 i0 s):Mid W G0 b z mb mg (w1.setCell ⟨b,16,none⟩ (.pointer (some ⟨i0,0,none⟩))) x { v with qs:=some i0,s:=s } ws o n:=by
 obtain⟨n1,n2,n3,n4⟩:=h.new hi;have hs:=h.size;obtain⟨h1,h2,h3,h4,t⟩:=h;have tt:Turn (mb::mg::gY b v) (mb::mg::gY b v) w1 (w1.setCell ⟨b,16,none⟩ (.pointer (some ⟨i0,0,none⟩))):=⟨rfl,rfl,rfl,by simp,fun i _ hn=>zO _ _ _ _ (fun (e:i=b)=>hn (e ▸ List.mem_cons_of_mem _ (List.mem_cons_of_mem _ in_b))),fun i hy=>.inl hy⟩;have G:∀ i,i∈gY b { v with qs:=some i0,s:=s }->i=i0∨i∈gY b v:=fun i hy=>by
  rcases mem_gY.1 hy with y | y | y | y | y
  ·exact .inr (mem_gY.2 (.inl y))
  ·exact .inr (in_h y)
  ·exact .inl (Option.some.inj y).symm
  ·exact .inr (in_w y)
  ·exact .inr (in_F y)
 refine⟨(h1.on k).putS hr n1 n2,(h2.on k).other (fun e=>h3 mb (by simp) (e ▸ in_b)) (fun e=>h3 mg (by simp) (e ▸ in_b)) 16 _,fun i hi2 hy=>?_,h4,((t.trans (Below.turn k _)).trans tt).mono fun i hy=>?_⟩
 ·rcases G i hy with e | y
  ·subst e
   simp only[List.mem_cons,List.not_mem_nil,or_false]at hi2;omega
  ·exact h3 i hi2 y
 ·simp only[List.mem_cons]at hy
  rcases hy with y | y | y
  ·exact t.own i (by simp[y])
  ·exact t.own i (by simp[y])
  ·rcases G i y with e | y
   ·exact .inr (by omega)
   ·exact t.own i (by simp[y])
theorem Mid.writeNew {w1:World} {s:Md.Ce.Wt} {i0:Nat} (h:Mid W G0 b z mb mg w x v ws o n) (k:Bl w w1) (hi:w.heap.size<=i0) (hr:Md.Ce.WtAt w1 i0 s):Mid W G0 b z mb mg (w1.setCell ⟨b,18,none⟩ (.pointer (some ⟨i0,0,none⟩))) x { v with qw:=some i0,t:=s } ws o n:=by
 obtain⟨n1,n2,n3,n4⟩:=h.new hi;have hs:=h.size;obtain⟨h1,h2,h3,h4,t⟩:=h;have tt:Turn (mb::mg::gY b v) (mb::mg::gY b v) w1 (w1.setCell ⟨b,18,none⟩ (.pointer (some ⟨i0,0,none⟩))):=⟨rfl,rfl,rfl,by simp,fun i _ hn=>zO _ _ _ _ (fun (e:i=b)=>hn (e ▸ List.mem_cons_of_mem _ (List.mem_cons_of_mem _ in_b))),fun i hy=>.inl hy⟩;have G:∀ i,i∈gY b { v with qw:=some i0,t:=s }->i=i0∨i∈gY b v:=fun i hy=>by
  rcases mem_gY.1 hy with y | y | y | y | y
  ·exact .inr (mem_gY.2 (.inl y))
  ·exact .inr (in_h y)
  ·exact .inr (in_s y)
  ·exact .inl (Option.some.inj y).symm
  ·exact .inr (in_F y)
 refine⟨(h1.on k).putW hr n1 n2,(h2.on k).other (fun e=>h3 mb (by simp) (e ▸ in_b)) (fun e=>h3 mg (by simp) (e ▸ in_b)) 18 _,fun i hi2 hy=>?_,h4,((t.trans (Below.turn k _)).trans tt).mono fun i hy=>?_⟩
 ·rcases G i hy with e | y
  ·subst e
   simp only[List.mem_cons,List.not_mem_nil,or_false]at hi2;omega
  ·exact h3 i hi2 y
 ·simp only[List.mem_cons]at hy
  rcases hy with y | y | y
  ·exact t.own i (by simp[y])
  ·exact t.own i (by simp[y])
  ·rcases G i y with e | y
   ·exact .inr (by omega)
   ·exact t.own i (by simp[y])
theorem Mid.mach (h:Mid W G0 b z mb mg w x v ws o n):Gm w v.F z.bm z.K w x.m/\(a78 W G0->a78 w v.F)/\∀ w' m',Gm w v.F z.bm z.K w' m'->∃ F',Mid W G0 b z mb mg w' { x with m:=m' } { v with F:=F' } ws o n:=by
 obtain⟨h1,h2,h3,h4,t⟩:=h;refine⟨h1.mac.gm,fun hT=>?_,fun w' m' g=>?_⟩
 ·have:=hT.turn t
  exact⟨this.1,fun y=>this.2 (List.mem_cons_of_mem _ (List.mem_cons_of_mem _ (in_F y)))⟩
 ·obtain⟨F',g1,tF⟩:=h1.mach g
  have nm:∀ i,i∈[mb,mg]->i∉v.F:=fun i hi y=>h3 i hi (in_F y)
  have lM:Blw w [mb,mg]:=fun k hk=>by
   simp only[List.mem_cons,List.not_mem_nil,or_false]at hk
   rcases hk with rfl | rfl
   ·exact h2.ltB
   ·exact h2.ltG
  have sp:Sep [mb,mg] F':=Sep.turn (fun i hi y=>nm i hi y) lM tF;have G:∀ i,i∈gY b { v with F:=F' }->i∈F'∨i∈gY b v:=fun i hy=>by
   rcases mem_gY.1 hy with y | y | y | y | y
   ·exact .inr (mem_gY.2 (.inl y))
   ·exact .inr (in_h y)
   ·exact .inr (in_s y)
   ·exact .inr (in_w y)
   ·exact .inl y
  refine⟨F',g1,h2.keep (tF.block mb h2.ltB (nm mb (by simp))) (tF.block mg h2.ltG (nm mg (by simp))),fun i hi hy=>?_,h4,t.trans ⟨tF.os,tF.tape,tF.output,tF.size,fun k hk hn=>tF.block k hk (fun y=>hn (List.mem_cons_of_mem _ (List.mem_cons_of_mem _ (in_F y)))),fun i hy=>?_⟩⟩
  ·rcases G i hy with y | y
   ·exact sp i hi y
   ·exact h3 i hi y
  ·simp only[List.mem_cons]at hy
   rcases hy with y | y | y
   ·exact .inl (by simp[y])
   ·exact .inl (by simp[y])
   ·rcases G i y with y | y
    ·rcases tF.own i y with y | y
     ·exact .inl (List.mem_cons_of_mem _ (List.mem_cons_of_mem _ (in_F y)))
     ·exact .inr y
    ·exact .inl (by simp[y])
theorem Mid.hads (h:Mid W G0 b z mb mg w x v ws o n) {w3:World} {u:Value} {y:Nat} (hown:w3.ownsRow 0 71 1 u (x.was.length+1) (fls x.was ++ [.float .f64 y])) (hg:w.grownBy w3 (Value.slice v.ph x.was.length v.ch).ownBlock) (hat:u.ownBlock=(Value.slice v.ph x.was.length v.ch).ownBlock∨∃ s,u.ownBlock=some s/\w.heap.size<=s) :
  ∃ p' c',u=.slice p' (x.was.length+1) c'/\w3.heap[b]?=some (.cells (boxY x z v) 209 (0,0))/\Mid W G0 b z mb mg (w3.setCell ⟨b,15,none⟩ u) { x with was:=x.was ++ [y] } { v with ph:=p',ch:=c' } ws o n:=by
 obtain⟨h1,h2,h3,h4,t⟩:=h;obtain⟨p',c',e,tH,g1⟩:=h1.hads hown hg hat;have hbox:w3.heap[b]?=_:=((h1.others (i:=1) tH 0 (by omega)).2 b (by simp[LY])).trans h1.box;have nm:∀ i,i∈[mb,mg]->i∉fpR v.ph:=fun i hi y=>h3 i hi (in_h y)
 have lM:Blw w [mb,mg]:=fun k hk=>by
  simp only[List.mem_cons,List.not_mem_nil,or_false]at hk
  rcases hk with rfl | rfl
  ·exact h2.ltB
  ·exact h2.ltG
 have sp:Sep [mb,mg] (fpR p'):=Sep.turn (fun i hi y=>nm i hi y) lM tH;have G:∀ i,i∈gY b { v with ph:=p',ch:=c' }->i∈fpR p'∨i∈gY b v:=fun i hy=>by
  rcases mem_gY.1 hy with y | y | y | y | y
  ·exact .inr (mem_gY.2 (.inl y))
  ·exact .inl y
  ·exact .inr (in_s y)
  ·exact .inr (in_w y)
  ·exact .inr (in_F y)
 have m3:MemAt 145 w3 mb mg ws o n:=h2.keep (tH.block mb h2.ltB (nm mb (by simp))) (tH.block mg h2.ltG (nm mg (by simp)));refine⟨p',c',e,hbox,g1,m3.other (fun e=>h3 mb (by simp) (e ▸ in_b)) (fun e=>h3 mg (by simp) (e ▸ in_b)) 15 _,fun i hi hy=>?_,h4,t.trans ⟨tH.os,tH.tape,tH.output,by simpa using tH.size,fun k hk hn=>?_,fun i hy=>?_⟩⟩
 ·rcases G i hy with y | y
  ·exact sp i hi y
  ·exact h3 i hi y
 ·have nb:k≠b:=fun e=>hn (e ▸ List.mem_cons_of_mem _ (List.mem_cons_of_mem _ in_b))
  exact(zO _ _ _ _ nb).trans (tH.block k hk (fun y=>hn (List.mem_cons_of_mem _ (List.mem_cons_of_mem _ (in_h y)))))
 ·simp only[List.mem_cons]at hy
  rcases hy with y | y | y
  ·exact .inl (by simp[y])
  ·exact .inl (by simp[y])
  ·rcases G i y with y | y
   ·rcases tH.own i y with y | y
    ·exact .inl (List.mem_cons_of_mem _ (List.mem_cons_of_mem _ (in_h y)))
    ·exact .inr y
   ·exact .inl (by simp[y])
end
end Go.Proofs.YtlkldgopliablaaGreatDoor.Ww
namespace Go.Proofs.YtlkldgopliablaaGreatDoor.Md.Ct
open Go.ChangeShapes Go.WideShapes Go.ChangeAt Go.RowKit
def plnV (a b c d e f:Int):Value:=.agg #[.int .i64 a,.int .i64 b,.int .i64 c,.int .i64 d,.int .i64 e,.int .i64 f]
theorem aO6 {f:FuncId} {cap:Array Value} {w:World} {Q:World->Prop} (x y:Int) (z:Int) (hz:(if y=0 then x else 0)=z) (hcall:∀ (args:Array Value) (w:World),(callFunc f args).run Tryz.prog w=.ok (.enter f args) w)
  (hf:Calls Tryz.prog f cap w fun e w'=>e=.returned (.tuple #[.int .u64 x,.int .i64 y])/\Q w'):Calls Tryz.prog 185 #[.func (.func f) #[] cap] w fun e w'=>e=.returned (.tuple #[.int .u64 z,.int .i64 y])/\Q w':=by
 subst hz;have HF:=zH hf;clear hf
 by_cases hy:y=0
 ·subst hy
  go_enter Tryz.func185,Tryz.ntmps185
  go_wp2_with (refine HF.out.mono ?_;rintro e w' ⟨rfl,hq⟩)
  go_ret2;exact⟨rfl,hq⟩
 ·rw[if_neg hy]
  go_enter Tryz.func185,Tryz.ntmps185
  go_wp2_with (refine HF.out.mono ?_;rintro e w' ⟨rfl,hq⟩)
  go_ret2;exact⟨rfl,hq⟩
theorem be7 {f:FuncId} {cap:Array Value} {w:World} {Q:World->Prop} (x:Bool) (y:Int) (z:Bool) (hz:(if y=0 then x else false)=z) (hcall:∀ (args:Array Value) (w:World),(callFunc f args).run Tryz.prog w=.ok (.enter f args) w)
  (hf:Calls Tryz.prog f cap w fun e w'=>e=.returned (.tuple #[.bool x,.int .i64 y])/\Q w'):Calls Tryz.prog 205 #[.func (.func f) #[] cap] w fun e w'=>e=.returned (.tuple #[.bool z,.int .i64 y])/\Q w':=by
 subst hz;have HF:=zH hf;clear hf
 by_cases hy:y=0
 ·subst hy
  go_enter Tryz.func205,Tryz.ntmps205
  go_wp2_with (refine HF.out.mono ?_;rintro e w' ⟨rfl,hq⟩)
  go_ret2;exact⟨rfl,hq⟩
 ·rw[if_neg hy]
  go_enter Tryz.func205,Tryz.ntmps205
  go_wp2_with (refine HF.out.mono ?_;rintro e w' ⟨rfl,hq⟩)
  go_ret2;exact⟨rfl,hq⟩
theorem be8 {f:FuncId} {cap:Array Value} {w:World} {Q:World->Prop} (x y:Int) (z:Int) (hz:(if y=0 then x else 0)=z) (hcall:∀ (args:Array Value) (w:World),(callFunc f args).run Tryz.prog w=.ok (.enter f args) w)
  (hf:Calls Tryz.prog f cap w fun e w'=>e=.returned (.tuple #[.int .i64 x,.int .i64 y])/\Q w'):Calls Tryz.prog 135 #[.func (.func f) #[] cap] w fun e w'=>e=.returned (.tuple #[.int .i64 z,.int .i64 y])/\Q w':=by
 subst hz;have HF:=zH hf;clear hf
 by_cases hy:y=0
 ·subst hy
  go_enter Tryz.func135,Tryz.ntmps135
  go_wp2_with (refine HF.out.mono ?_;rintro e w' ⟨rfl,hq⟩)
  go_ret2;exact⟨rfl,hq⟩
 ·rw[if_neg hy]
  go_enter Tryz.func135,Tryz.ntmps135
  go_wp2_with (refine HF.out.mono ?_;rintro e w' ⟨rfl,hq⟩)
  go_ret2;exact⟨rfl,hq⟩
def betw (x t:Int):Int:=if t<=x then 0 else (if 2147483647<IntKind.u64.wrap (t - x) then 2147483647 else IntKind.u64.wrap (t - x))
theorem ba2 (n:Int):0<=IntKind.u64.wrap n:=by simp[IntKind.wrap,IntKind.bits,IntKind.signed];omega
theorem cell_kept {w w':World} {b:Nat} (e:w'.heap[b]?=w.heap[b]?) (o:Nat):w'.cell? ⟨b,o,none⟩=w.cell? ⟨b,o,none⟩:=by simp[World.cell?,e]
theorem aX7 {x t:Int} (h:¬ t<=x) (q:¬ 2147483647<IntKind.u64.wrap (t - x)):betw x t=wrap64 (IntKind.u64.wrap (t - x)):=by
 have h0:=ba2 (t - x);unfold betw;rw[if_neg h,if_neg q,Go.IntWalk.wrap64_in _ ⟨by omega,by omega⟩]
theorem aX6 {x t:Int} (h:¬ t<=x) (q:2147483647<IntKind.u64.wrap (t - x)):betw x t=2147483647:=by
 unfold betw;rw[if_neg h,if_pos q]
theorem aJ0 (x t:Int) (w:World):Calls Tryz.prog 137 #[.int .u64 x,.int .u64 t] w fun e w'=>e=.returned (.int .i64 (betw x t))/\w'=w:=by
 by_cases h1:t<=x
 ·rw[show betw x t=0 by simp[betw,h1]]
  go_enter Tryz.func137,Tryz.ntmps137
  go_wp2
  go_ret;exact⟨rfl,rfl⟩
 ·by_cases h2:2147483647<IntKind.u64.wrap (t - x)
  ·rw[aX6 h1 h2]
   go_enter Tryz.func137,Tryz.ntmps137
   go_wp2
   go_ret;exact⟨rfl,rfl⟩
  ·rw[aX7 h1 h2]
   go_enter Tryz.func137,Tryz.ntmps137
   go_wp2
   go_ret;exact⟨rfl,rfl⟩
section
variable {w:World} {b g:Nat} {ws:List Int} {o:Bool} {c:Int}
def lookB (ws:List Int) (o:Bool) (i t:Int):Bool:=(hasB ws i && o) && decide (wordAt ws i=t)
def passV (t:Int):Int:=IntKind.u64.wrap (t+1)
def aheadI (ws:List Int) (i t:Int):Int:=if hasB ws i then betw (wordAt ws i) t else 0
theorem bm1 (ws:List Int) (o:Bool) (i:Int):(if errA ws o i=0 then toldW ws o i else 0)=toldW ws o i:=by
 unfold errA toldW
 cases q:hasB ws i <;> cases o <;> simp
theorem bf1 (ws:List Int) (o:Bool) (i t:Int):(if errA ws o i=0 then decide (toldW ws o i=t) else false)=lookB ws o i t:=by
 unfold errA toldW lookB
 cases q:hasB ws i <;> cases o <;> simp
theorem aW4 (ws:List Int) (i t:Int):(if errP ws i=0 then betw (if hasB ws i then wordAt ws i else 0) t else 0)=aheadI ws i t:=by
 unfold errP aheadI
 cases q:hasB ws i <;> simp
theorem aJ4 (h:MemAt 145 w b g ws o c) (pm pp:Nat) (a:Int) (h0:w.cell? ⟨pm,0,none⟩=some (.pointer (some ⟨b,0,none⟩))) (h1:w.cell? ⟨pp,0,none⟩=some (.int .i64 a)) :
  Calls Tryz.prog 186 #[.pointer (some ⟨pm,0,none⟩),.pointer (some ⟨pp,0,none⟩)] w fun e w'=>e=.returned (.tuple #[.int .u64 (toldW ws o a),.int .i64 (errA ws o a)])/\MemAt 145 w' b g (stored ws o a (addV (wordAt ws a) 1)) (a49 ws o a) (a48 ws o a c)/\Chg b g w w':=by
 have HA:=zH (bp7 h a 1);clear h;go_enter Tryz.func186,Tryz.ntmps186
 go_wp2_with (go_at_call 187;refine HA.out.mono ?_;rintro e w' ⟨rfl,hq⟩)
 go_ret2;exact⟨rfl,hq⟩
theorem draw_any (h:MemAt 145 w b g ws o c) (a0 a1 a2 a3 a4 a5:Int) :
  Calls Tryz.prog 164 #[.pointer (some ⟨b,0,none⟩),plnV a0 a1 a2 a3 a4 a5] w fun e w'=>e=.returned (.tuple #[.int .u64 (toldW ws o a0),.int .i64 (errA ws o a0)])/\MemAt 145 w' b g (stored ws o a0 (addV (wordAt ws a0) 1)) (a49 ws o a0) (a48 ws o a0 c)/\Chg b g w w':=by
 unfold plnV;have HM:=zH h;clear h;go_enter Tryz.func164,Tryz.ntmps164
 go_wp2_with (go_at_call 185;refine(aO6 _ _ _ (bm1 ..) (enter_run Tryz.func186 (by kernel_rfl) (by kernel_rfl)) (aJ4 ((HM.out.alloc _).alloc _) _ _ a0 (by simp[go_sem]) (by simp[go_sem]))).mono ?_;rintro e w' ⟨rfl,hm,hc⟩;have HX:=zH (And.intro hm (((Chg.refl b g w).alloc _).alloc _ |>.trans hc));clear hm hc)
 go_ret2;exact⟨rfl,HX.out⟩
theorem aK8 (h:MemAt 145 w b g ws o c) (pm pp pt:Nat) (a t:Int) (nb:pt≠b) (ng:pt≠g) (h0:w.cell? ⟨pm,0,none⟩=some (.pointer (some ⟨b,0,none⟩))) (h1:w.cell? ⟨pp,1,none⟩=some (.int .i64 a)) (h2:w.cell? ⟨pt,0,none⟩=some (.int .u64 t)) :
  Calls Tryz.prog 206 #[.pointer (some ⟨pm,0,none⟩),.pointer (some ⟨pp,0,none⟩),.pointer (some ⟨pt,0,none⟩)] w fun e w'=>e=.returned (.tuple #[.bool (decide (toldW ws o a=t)),.int .i64 (errA ws o a)])/\MemAt 145 w' b g ws (a49 ws o a) (a48 ws o a c)/\Chg b g w w':=by
 have HA:=zH (a92 h a);have hlt:=zK w _ h2;have HN:=zH (And.intro nb ng);clear h nb ng
 generalize toldW ws o a=x at *
 by_cases hx:x=t
 ·go_enter Tryz.func206,Tryz.ntmps206
  go_wp2_with (go_at_call 207;refine HA.out.mono ?_;rintro e w' ⟨rfl,hm,hc⟩;have q2:w'.cell? ⟨pt,0,none⟩=some (.int .u64 t):=((cell_kept (hc.block pt hlt HN.out.1 HN.out.2) 0).trans h2);have HX:=zH (And.intro hm hc);clear hm hc)
  go_ret2;exact⟨by simp[hx],HX.out⟩
 ·go_enter Tryz.func206,Tryz.ntmps206
  go_wp2_with (go_at_call 207;refine HA.out.mono ?_;rintro e w' ⟨rfl,hm,hc⟩;have q2:w'.cell? ⟨pt,0,none⟩=some (.int .u64 t):=((cell_kept (hc.block pt hlt HN.out.1 HN.out.2) 0).trans h2);have HX:=zH (And.intro hm hc);clear hm hc)
  go_ret2;exact⟨by simp[hx],HX.out⟩
theorem look_any (h:MemAt 145 w b g ws o c) (a0 a1 a2 a3 a4 a5 t:Int) :
  Calls Tryz.prog 188 #[.pointer (some ⟨b,0,none⟩),plnV a0 a1 a2 a3 a4 a5,.int .u64 t] w fun e w'=>e=.returned (.tuple #[.bool (lookB ws o a1 t),.int .i64 (errA ws o a1)])/\MemAt 145 w' b g ws (a49 ws o a1) (a48 ws o a1 c)/\Chg b g w w':=by
 unfold plnV;have HM:=zH h;have HLT:Hid (b<w.heap.size/\g<w.heap.size):=⟨h.ltB,h.ltG⟩;clear h;go_enter Tryz.func188,Tryz.ntmps188
 go_wp2_with (go_at_call 205;refine(be7 _ _ _ (bf1 ..) (enter_run Tryz.func206 (by kernel_rfl) (by kernel_rfl)) (aK8 (((HM.out.alloc _).alloc _).alloc _) _ _ _ a1 t (by have:=HLT.out;omega) (by have:=HLT.out;omega) (by simp[go_sem]) (by simp[go_sem]) (by simp[go_sem]))).mono ?_;rintro e w' ⟨rfl,hm,hc⟩;have HX:=zH (And.intro hm ((((Chg.refl b g w).alloc _).alloc _).alloc _ |>.trans hc));clear hm hc)
 go_ret2;exact⟨rfl,HX.out⟩
theorem aL4 (h:MemAt 145 w b g ws o c) (pm pp pt:Nat) (a t:Int) (h0:w.cell? ⟨pm,0,none⟩=some (.pointer (some ⟨b,0,none⟩))) (h1:w.cell? ⟨pp,1,none⟩=some (.int .i64 a)) (h2:w.cell? ⟨pt,0,none⟩=some (.int .u64 t)) :
  Calls Tryz.prog 261 #[.pointer (some ⟨pt,0,none⟩),.pointer (some ⟨pm,0,none⟩),.pointer (some ⟨pp,0,none⟩)] w fun e w'=>e=.returned (.tuple #[.int .u64 (passV t),.int .i64 (errA ws o a)])/\MemAt 145 w' b g (stored ws o a (passV t)) (a49 ws o a) (a48 ws o a c)/\Chg b g w w':=by
 have HA:=zH (ae6 h a (passV t));unfold passV at *;clear h;go_enter Tryz.func261,Tryz.ntmps261
 go_wp2_with (go_at_call 262;refine HA.out.mono ?_;rintro e w' ⟨rfl,hm,hc⟩;have HX:=zH (And.intro hm hc);clear hm hc)
 go_ret2;exact⟨rfl,HX.out⟩
theorem pass_any (h:MemAt 145 w b g ws o c) (a0 a1 a2 a3 a4 a5 t:Int) :
  Calls Tryz.prog 242 #[.pointer (some ⟨b,0,none⟩),plnV a0 a1 a2 a3 a4 a5,.int .u64 t] w fun e w'=>e=.returned (.int .i64 (errA ws o a1))/\MemAt 145 w' b g (stored ws o a1 (passV t)) (a49 ws o a1) (a48 ws o a1 c)/\Chg b g w w':=by
 unfold plnV;have HM:=zH h;obtain⟨z,hz⟩:∃ z,(if errA ws o a1=0 then passV t else 0)=z:=⟨_,rfl⟩
 have HZ:=zH hz;clear hz;clear h;go_enter Tryz.func242,Tryz.ntmps242
 go_wp2_with (go_at_call 185;refine(aO6 _ _ z HZ.out (enter_run Tryz.func261 (by kernel_rfl) (by kernel_rfl)) (aL4 (((HM.out.alloc _).alloc _).alloc _) _ _ _ a1 t (by simp[go_sem]) (by simp[go_sem]) (by simp[go_sem]))).mono ?_;rintro e w' ⟨rfl,hm,hc⟩;have HX:=zH (And.intro hm ((((Chg.refl b g w).alloc _).alloc _).alloc _ |>.trans hc));clear hm hc)
 go_ret;exact⟨rfl,HX.out⟩
theorem aC5 (h:MemAt 145 w b g ws o c) (pm pp pt:Nat) (a t:Int) (h0:w.cell? ⟨pm,0,none⟩=some (.pointer (some ⟨b,0,none⟩))) (h1:w.cell? ⟨pp,1,none⟩=some (.int .i64 a)) (h2:w.cell? ⟨pt,0,none⟩=some (.int .u64 t)) :
  Calls Tryz.prog 136 #[.pointer (some ⟨pm,0,none⟩),.pointer (some ⟨pp,0,none⟩),.pointer (some ⟨pt,0,none⟩)] w fun e w'=>e=.returned (.tuple #[.int .i64 (betw (if hasB ws a then wordAt ws a else 0) t),.int .i64 (errP ws a)])/\w'=w:=by
 have HA:=zH (peek_any h a)
 generalize (if hasB ws a then wordAt ws a else 0)=x at *
 clear h;go_enter Tryz.func136,Tryz.ntmps136
 go_wp2_with (first
  | (go_at_call 60;refine HA.out.mono ?_;rintro e w' ⟨rfl,hw⟩;subst w')
  | (go_at_call 137;refine(aJ0 _ _ _).mono ?_;rintro e w' ⟨rfl,hw⟩;subst w'))
 go_ret2;exact⟨rfl,rfl⟩
theorem ahead_any (h:MemAt 145 w b g ws o c) (a0 a1 a2 a3 a4 a5 t:Int) :
  Calls Tryz.prog 115 #[.pointer (some ⟨b,0,none⟩),plnV a0 a1 a2 a3 a4 a5,.int .u64 t] w fun e w'=>e=.returned (.tuple #[.int .i64 (aheadI ws a1 t),.int .i64 (errP ws a1)])/\MemAt 145 w' b g ws o c/\Bl w w':=by
 unfold plnV;have HM:=zH h;clear h;go_enter Tryz.func115,Tryz.ntmps115
 go_wp2_with (go_at_call 135;refine(be8 _ _ _ (aW4 ..) (enter_run Tryz.func136 (by kernel_rfl) (by kernel_rfl)) (aC5 (((HM.out.alloc _).alloc _).alloc _) _ _ _ a1 t (by simp[go_sem]) (by simp[go_sem]) (by simp[go_sem]))).mono ?_;rintro e w' ⟨rfl,hw⟩;have HX:Hid (MemAt 145 w' b g ws o c/\Bl w w'):=(by rw[hw];exact⟨((HM.out.alloc _).alloc _).alloc _,(((zF _ _).alloc (zE _) _).alloc (by simp) _).alloc (by simp;omega) _⟩);clear hw)
 go_ret2;exact⟨rfl,HX.out⟩
end
end Go.Proofs.YtlkldgopliablaaGreatDoor.Md.Ct
namespace Go.Proofs.YtlkldgopliablaaGreatDoor.Ww
open Go.ChangeShapes Go.WideShapes Go.ChangeAt Go.RowKit Num Rr
theorem aK1 {ws:List Int} {i:Int} (h:0<=i) (k:i<(ws.length:Int)):hasB ws i=true:=zT ⟨h,k⟩
theorem a88 {ws:List Int} {i:Int} (h:0<=i) (k:i<(ws.length:Int)):errA ws true i=0:=by unfold errA;rw[aK1 h k];rfl
def bufC (x:Wx) (k:Nat):Int:=(x.m.buf.getD k (0,0)).1
def bufX (x:Wx) (k:Nat):Nat:=(x.m.buf.getD k (0,0)).2
def wtK (x:Wx) (k d:Nat):Md.Ce.Wt:=⟨3+x.b,bufC x k,((x.was.getD k 0:Nat):Int),Md.Cv.passV x.stamp,((bufX x k:Nat):Int),d⟩
structure VOk (x:Wx) (v:Wv):Prop where
 nx:v.nx=aj9 x.part
 s5:x.part=5->(∃ n,v.qs=some n)/\v.s.B=3/\v.s.H=x.b/\v.s.D=x.stamp/\v.s.P=(x.at_:Int)
 b5:x.part<=5->v.bg=0
 w6:x.part=6->(∃ n,v.qw=some n)/\v.bg=((x.at_ / 3+1:Nat):Int)/\v.t=wtK x (x.at_ / 3) (x.at_ % 3)
 nb:wrap64 v.nb=x.num
theorem bh1 {p:Nat} (h:p≠9):aj9 p=fnV (partF p):=by unfold aj9;rw[if_neg h]
theorem VOk.tick {x:Wx} {v:Wv} (h:VOk x v):VOk (aB9 x) v:=⟨h.nx,h.s5,h.b5,h.w6,h.nb⟩
section
variable {x:Wx} {ws:List Int}
def letsY (x:Wx) (ws:List Int):Bool:=decide (wordAt ws (3+(x.at_:Int))=0∨x.stamp<wordAt ws (3+(x.at_:Int)))
theorem bk5 (hI:InY x) (hp:x.part=5) (hl:plY x<=(ws.length:Int)) {s:Md.Cv.Ss} (hB:s.B=3) (hH:s.H=x.b) (hD:s.D=x.stamp) (hP:s.P=(x.at_:Int)) (n:Int) :
  Md.Cv.sE s ws true=0/\Md.Cv.sP s ws true=false/\Md.Cv.sQ s ws true n=up n/\Md.Cv.SOk s/\Md.Cv.sO s ws true=(letsY x ws && decide (((x.at_+1:Nat):Int)=x.b))/\(letsY x ws=true->Md.Cv.sC s ws true=⟨3,x.b,x.stamp,((x.at_+1:Nat):Int),s.Q⟩)/\(letsY x ws=false->Md.Cv.sC s ws true=⟨3,x.b,x.stamp,(x.at_:Int),up s.Q⟩):=by
 obtain⟨B,H,D,P,Q⟩:=s;dsimp only at hB hH hD hP;subst hB hH hD hP;have h5:=hI.at5 hp;have hb:=hI.cb;have ha:=hI.ca;unfold plY at hl;have hpl:Md.Cv.plc 3 (x.at_:Int)=3+(x.at_:Int):=by unfold Md.Cv.plc;rw[if_pos (by omega)]
 have hm:Md.Cv.mayH x.b=true:=zT ⟨hb.1,hb.2⟩;have hE:Md.Cv.sE ⟨3,x.b,x.stamp,(x.at_:Int),Q⟩ ws true=0:=by
  unfold Md.Cv.sE;dsimp only;rw[hm,if_pos rfl,if_neg (by omega),hpl];exact a88 (by omega) (by omega)
 have hC:Md.Cv.sC ⟨3,x.b,x.stamp,(x.at_:Int),Q⟩ ws true=Md.Cv.sN ⟨3,x.b,x.stamp,(x.at_:Int),Q⟩ (wordAt ws (3+(x.at_:Int))):=by
  unfold Md.Cv.sC;rw[if_pos hE];dsimp only;rw[hpl]
 have hL:Md.Cv.letB x.stamp (wordAt ws (3+(x.at_:Int)))=letsY x ws:=by
  unfold Md.Cv.letB letsY;rw[Bool.eq_iff_iff]
  simp
 have hN:Md.Cv.sN ⟨3,x.b,x.stamp,(x.at_:Int),Q⟩ (wordAt ws (3+(x.at_:Int)))=if letsY x ws then ⟨3,x.b,x.stamp,(x.at_:Int)+1,Q⟩ else ⟨3,x.b,x.stamp,(x.at_:Int),up Q⟩:=by
  unfold Md.Cv.sN;dsimp only;rw[hL]
 refine⟨hE,?_,?_,⟨by dsimp only;omega,fun _=>by dsimp only;omega⟩,?_,fun q=>?_,fun q=>?_⟩
 ·unfold Md.Cv.sP;rw[if_pos hE]
 ·unfold Md.Cv.sQ;rw[if_pos hE]
 ·unfold Md.Cv.sO
  rw[hE,hC,hN,zT rfl,Bool.true_and]
  cases letsY x ws
  ·rw[Bool.false_and]
   exact zU (by simp;omega)
  ·rw[Bool.true_and]
   simp
 ·rw[hC,hN,q]
  simp
 ·rw[hC,hN,q]
  simp
theorem bk2 (h:letsY x ws=false):aq2 x ws=x:=by
 have:=zM h;unfold aq2;rw[if_neg this]
theorem bk3 (h:letsY x ws=true) (hb:¬ ((x.at_+1:Nat):Int)=x.b):aq2 x ws={ x with at_:=x.at_+1 }:=by
 have:=zP h;unfold aq2;rw[if_pos this,if_neg hb]
theorem b73 (h:letsY x ws=true) (hb:((x.at_+1:Nat):Int)=x.b):aq2 x ws={ x with at_:=0,part:=if x.m.buf.length=0 then 7 else 6 }:=by
 have:=zP h;unfold aq2;rw[if_pos this,if_pos hb]
theorem aP1 {v:Nat} (h:okN v):fixB v=v:=h.1
theorem bn8 (hI:InY x) {k:Nat} (hk:k<x.m.buf.length):0<=bufC x k/\bufC x k<x.a/\okN (bufX x k):=by
 have e:x.m.buf.getD k (0,0)=x.m.buf[k]:=by simp[hk]
 unfold bufC bufX;rw[e,<- hI.cel];exact⟨(hI.rest.cel _ (List.getElem_mem hk)).1,(hI.rest.cel _ (List.getElem_mem hk)).2,hI.rest.inv.buf _ (List.getElem_mem hk)⟩
theorem bG3 (hI:InY x) (k:Nat):okN (x.was.getD k 0):=ad5 0 a83 x.was hI.wok k
theorem bu7 (hI:InY x) {k:Nat} (hk:k<x.m.buf.length):Md.Ce.newW (3+x.b) (bufC x k) (Md.Cv.passV x.stamp) (x.was.getD k 0) (bufX x k)=wtK x k 0:=by
 unfold Md.Ce.newW wtK;rw[aP1 (bG3 hI k),aP1 (bn8 hI hk).2.2]
theorem ba3 (hI:InY x) (hp:x.part=6) (hl:plY x<=(ws.length:Int)) (n:Int):Md.Ce.errW (wtK x (x.at_ / 3) (x.at_ % 3)) ws true=0/\Md.Ce.laidW (wtK x (x.at_ / 3) (x.at_ % 3)) ws true=aC8 x ws/\Md.Ce.stepW (wtK x (x.at_ / 3) (x.at_ % 3)) ws true=wtK x (x.at_ / 3) (x.at_ % 3+1)/\Md.Ce.endW (wtK x (x.at_ / 3) (x.at_ % 3)) ws true=decide (x.at_ % 3=2)/\Md.Ce.aftO (Md.Ce.errW (wtK x (x.at_ / 3) (x.at_ % 3)) ws true) true=false/\Md.Ce.aftN (Md.Ce.errW (wtK x (x.at_ / 3) (x.at_ % 3)) ws true) n=up n:=by
 have h6:=hI.at6 hp;have hk:x.at_ / 3<x.m.buf.length:=by omega
 obtain⟨c1,c2,c3⟩:=bn8 hI hk;have hb:=hI.cb;have ha:=hI.ca;unfold plY at hl;have hd:x.at_ % 3<3:=Nat.mod_lt _ (by omega);have P:∀ j:Int,Md.Ce.placeI (3+x.b) (bufC x (x.at_ / 3)) j=3+x.b+3*bufC x (x.at_ / 3)+j:=fun j=>by unfold Md.Ce.placeI;rw[if_pos (by omega)]
 have hw:=Md.Ce.wordW_in (x.at_ % 3);have hE:Md.Ce.errW (wtK x (x.at_ / 3) (x.at_ % 3)) ws true=0:=by
  unfold Md.Ce.errW Md.Ce.errC wtK;dsimp only;rw[if_pos hd,show Md.Ce.mayC (bufC x (x.at_ / 3))=true from zT ⟨c1,by omega⟩,if_pos rfl,P];exact a88 (by omega) (by omega)
 refine⟨hE,?_,?_,?_,?_,?_⟩
 ·unfold Md.Ce.laidW
  rw[if_pos hE];unfold Md.Ce.storeC Md.Ce.bitsW Md.Ce.wordW wtK aC8 atC;dsimp only;rw[P]
  rcases(by omega:x.at_ % 3=0∨x.at_ % 3=1∨x.at_ % 3=2) with d | d | d
  ·simp only[d,if_true]
   rfl
  ·simp only[d,if_true,if_neg (show ¬ (1:Nat)=0 by omega)]
   rfl
  ·simp only[d,if_neg (show ¬ (2:Nat)=0 by omega),if_neg (show ¬ (2:Nat)=1 by omega)]
   rfl
 ·unfold Md.Ce.stepW
  rw[if_pos hE]
  rfl
 ·unfold Md.Ce.endW
  rw[hE,zT rfl,Bool.true_and]
  rfl
 ·unfold Md.Ce.aftO;rw[if_pos hE]
 ·unfold Md.Ce.aftN;rw[if_pos hE]
theorem bv5 (ha:1<=x.a/\x.a<=256) (hb:1<=x.b/\x.b<=8) (hl:plY x<=(ws.length:Int)) {c:Int} (h0:0<=c) (h1:c<x.a) (n:Int):Md.Ce.errC ws true (3+x.b) c 1=0/\Md.Ce.nowV ws true (3+x.b) c=nowN x ws c/\Md.Ce.aftO (Md.Ce.errC ws true (3+x.b) c 1) true=false/\Md.Ce.aftN (Md.Ce.errC ws true (3+x.b) c 1) n=up n:=by
 unfold plY at hl;have P:Md.Ce.placeI (3+x.b) c 1=3+x.b+3*c+1:=by unfold Md.Ce.placeI;rw[if_pos (by omega)]
 have hE:Md.Ce.errC ws true (3+x.b) c 1=0:=by
  unfold Md.Ce.errC;rw[show Md.Ce.mayC c=true from zT ⟨h0,by omega⟩,if_pos rfl,P];exact a88 (by omega) (by omega)
 refine⟨hE,?_,?_,?_⟩
 ·unfold Md.Ce.nowV Md.Ce.wordC nowN atC
  rw[if_pos hE,P]
 ·unfold Md.Ce.aftO;rw[if_pos hE]
 ·unfold Md.Ce.aftN;rw[if_pos hE]
end
section
variable {W w w':World} {G0:List Nat} {b mb mg:Nat} {x:Wx} {z:Wz} {v:Wv} {ws:List Int} {o:Bool} {n:Int}
theorem RawAt.like (h:RawAt w b x z v) {x':Wx} (e:boxY x' z v=boxY x z v) (hm:x'.m=x.m) (ha:x'.args=x.args) (hw:x'.was=x.was):RawAt w b x' z v:=⟨by rw[e];exact h.box,by rw[hm];exact h.mac,by rw[hw];exact h.had,h.sc,h.wr,by rw[ha];exact h.arg,h.apart⟩
theorem Mid.like (h:Mid W G0 b z mb mg w x v ws o n) {x':Wx} (e:boxY x' z v=boxY x z v) (hm:x'.m=x.m) (ha:x'.args=x.args) (hw:x'.was=x.was):Mid W G0 b z mb mg w x' v ws o n:=⟨h.1.like e hm ha hw,h.2⟩
theorem Mid.plan (h:Mid W G0 b z mb mg w x v ws o n) {p4 p5:Int} (h4:3+x.b=p4) (h5:3+x.b+3*x.a=p5):w.cell? ⟨b,0,none⟩=some (.int .i64 0)/\w.cell? ⟨b,1,none⟩=some (.int .i64 1)/\w.cell? ⟨b,2,none⟩=some (.int .i64 2)/\w.cell? ⟨b,3,none⟩=some (.int .i64 3)/\w.cell? ⟨b,4,none⟩=some (.int .i64 p4)/\w.cell? ⟨b,5,none⟩=some (.int .i64 p5):=by
 subst h4 h5;exact⟨(h.cell 0).trans rfl,(h.cell 1).trans rfl,(h.cell 2).trans rfl,(h.cell 3).trans rfl,(h.cell 4).trans rfl,(h.cell 5).trans rfl⟩
theorem Mid.step (h:Mid W G0 b z mb mg w x v ws o n) (hT:a78 W G0) (hI:Inv x.m) {M:Mac} {A:Ask} (hM:(a08 x.m).1=M) (hA:(a08 x.m).2=A):Calls Tryz.prog 214 #[.pointer (some ⟨z.bm,0,none⟩)] w fun e w'=>e=.returned (.agg #[.int .i64 A.kind,.int .i64 A.cell,.float .f64 A.x,.bool A.first])/\Hid (∃ F,Mid W G0 b z mb mg w' { x with m:=M } { v with F:=F } ws o n):=by
 obtain⟨g,tb,go⟩:=h.mach;subst hM hA;refine(step_any g (tb hT) hI).mono ?_;rintro e w' ⟨rfl,k⟩;exact⟨rfl,go _ _ k⟩
theorem Mid.give (h:Mid W G0 b z mb mg w x v ws o n) (hI:Inv x.m) (y:Nat) {M:Mac} (hM:a71 x.m y=M):Calls Tryz.prog 215 #[.pointer (some ⟨z.bm,0,none⟩),.float .f64 y] w fun e w'=>e=.returned (.int .i64 (giveE x.m))/\Hid (∃ F,Mid W G0 b z mb mg w' { x with m:=M } { v with F:=F } ws o n):=by
 obtain⟨g,tb,go⟩:=h.mach;subst hM;refine(aO2 g hI y).mono ?_;rintro e w' ⟨rfl,k⟩;exact⟨rfl,go _ _ k⟩
end
attribute [local go_sem] a00 Md.Ce.run_store_func Md.Ce.run_store_nilFunc
theorem b20:∃ ps rs v,Tryz.prog.underlying 205=some (.func ps rs v):=⟨#[190,86],#[],false,by kernel_rfl⟩
theorem ah9 (f:Fn) (x y:Array Value) (w:World):(binOp .eql 205 (.func f x y) .nilFunc).run Tryz.prog w=.ok (.bool false) w:=by
 obtain⟨ps,rs,v,h⟩:=b20;simp only[binOp]
 simp[Md.Ce.run_equal_func _ f x y w h]
theorem ac8 (w:World):(binOp .eql 205 .nilFunc .nilFunc).run Tryz.prog w=.ok (.bool true) w:=by
 obtain⟨ps,rs,v,h⟩:=b20;simp only[binOp]
 simp[Md.Ce.run_equal_nil _ w h]
attribute [local go_sem] ah9 ac8
theorem aT9 (p:Nat) (args:Array Value) (w:World):(callFunc (partF p) args).run Tryz.prog w=.ok (.enter (partF p) args) w:=by
 unfold partF
 split
 ·exact Md.enter_run Tryz.func132 (by kernel_rfl) (by kernel_rfl) args w
 split
 ·exact Md.enter_run Tryz.func165 (by kernel_rfl) (by kernel_rfl) args w
 split
 ·exact Md.enter_run Tryz.func189 (by kernel_rfl) (by kernel_rfl) args w
 split
 ·exact Md.enter_run Tryz.func209 (by kernel_rfl) (by kernel_rfl) args w
 split
 ·exact Md.enter_run Tryz.func230 (by kernel_rfl) (by kernel_rfl) args w
 split
 ·exact Md.enter_run Tryz.func269 (by kernel_rfl) (by kernel_rfl) args w
 split
 ·exact Md.enter_run Tryz.func266 (by kernel_rfl) (by kernel_rfl) args w
 ·exact Md.enter_run Tryz.func228 (by kernel_rfl) (by kernel_rfl) args w
section
variable {W w:World} {G0:List Nat} {b mb mg:Nat} {x:Wx} {z:Wz} {v:Wv} {ws:List Int} {o:Bool} {n:Int}
theorem am3 (h:RawAt w b x z v) (hv:v.nx=aj9 x.part):Calls Tryz.prog 141 #[.pointer (some ⟨b,0,none⟩)] w fun e w'=>e=.returned (.bool (decide ((x.part:Int)=9)))/\w'=w:=by
 have h12:w.cell? ⟨b,12,none⟩=some v.nx:=(h.cell 12).trans rfl;have hb:=h.ltB;rw[hv]at h12;unfold aj9 at h12;clear h hv
 by_cases e:x.part=9
 ·rw[if_pos e]at h12
  rw[zT (by omega)];clear e;go_enter Tryz.func141,Tryz.ntmps141
  go_wp2
  go_ret;exact⟨rfl,rfl⟩
 ·rw[if_neg e]at h12
  unfold fnV at h12;rw[zU (by omega)]
  generalize partF x.part=ff at h12
  clear e;go_enter Tryz.func141,Tryz.ntmps141
  go_wp2
  go_ret;exact⟨rfl,rfl⟩
theorem aa0 (h:Mid W G0 b z mb mg w x v ws o n) (p:Nat) {P:Int} (hP:(p:Int)=P) (f:FuncId):Calls Tryz.prog 131 #[.pointer (some ⟨b,0,none⟩),.int .i64 P,.func (.func f) #[] #[]] w fun e w'=>e=.returned (.tuple #[])/\Mid W G0 b z mb mg w' { x with part:=p } { v with nx:=fnV f } ws o n:=by
 subst hP;have h11:w.cell? ⟨b,11,none⟩=some (.int .i64 (x.part:Int)):=(h.cell 11).trans rfl;have f11:=h.free 11;have H1:=h.put 11 (.int .i64 (p:Int)) { x with part:=p } v rfl ⟨rfl,rfl,rfl⟩ ⟨rfl,rfl,rfl,rfl,rfl,rfl,rfl⟩;have h12:(w.setCell ⟨b,11,none⟩ (.int .i64 (p:Int))).cell? ⟨b,12,none⟩=some v.nx:=(H1.cell 12).trans rfl;have f12:=H1.free 12;have H2:=zH (H1.put 12 (.func (.func f) #[] #[]) { x with part:=p } { v with nx:=fnV f } rfl ⟨rfl,rfl,rfl⟩ ⟨rfl,rfl,rfl,rfl,rfl,rfl,rfl⟩);have hb:=h.ltB;clear h H1;go_enter Tryz.func131,Tryz.ntmps131
 go_wp2
 go_end0
 exact⟨rfl,H2.out⟩
theorem aV2 (h:Mid W G0 b z mb mg w x v ws o n) (p:Nat) {P:Int} (hP:(p:Int)=P):Calls Tryz.prog 131 #[.pointer (some ⟨b,0,none⟩),.int .i64 P,.nilFunc] w fun e w'=>e=.returned (.tuple #[])/\Mid W G0 b z mb mg w' { x with part:=p } { v with nx:=.nilFunc } ws o n:=by
 subst hP;have h11:w.cell? ⟨b,11,none⟩=some (.int .i64 (x.part:Int)):=(h.cell 11).trans rfl;have f11:=h.free 11;have H1:=h.put 11 (.int .i64 (p:Int)) { x with part:=p } v rfl ⟨rfl,rfl,rfl⟩ ⟨rfl,rfl,rfl,rfl,rfl,rfl,rfl⟩;have h12:(w.setCell ⟨b,11,none⟩ (.int .i64 (p:Int))).cell? ⟨b,12,none⟩=some v.nx:=(H1.cell 12).trans rfl;have f12:=H1.free 12;have H2:=zH (H1.put 12 .nilFunc { x with part:=p } { v with nx:=.nilFunc } rfl ⟨rfl,rfl,rfl⟩ ⟨rfl,rfl,rfl,rfl,rfl,rfl,rfl⟩);have hb:=h.ltB;clear h H1;go_enter Tryz.func131,Tryz.ntmps131
 go_wp2
 go_end0
 exact⟨rfl,H2.out⟩
theorem am0 (h:Mid W G0 b z mb mg w x v ws o n):Calls Tryz.prog 268 #[.pointer (some ⟨b,0,none⟩)] w fun e w'=>e=.returned (.int .u64 (Md.Cv.passV x.stamp))/\w'=w:=by
 have h14:w.cell? ⟨b,14,none⟩=some (.int .u64 x.stamp):=(h.cell 14).trans rfl;have hb:=h.ltB;clear h;unfold Md.Cv.passV;go_enter Tryz.func268,Tryz.ntmps268
 go_wp2
 go_ret;exact⟨rfl,rfl⟩
theorem draw_any (h:Mid W G0 b z mb mg w x v ws true n) (hl:0<(ws.length:Int)):Calls Tryz.prog 132 #[.pointer (some ⟨b,0,none⟩),.pointer (some ⟨mb,0,none⟩)] w fun e w'=>e=.returned (.tuple #[])/\Mid W G0 b z mb mg w' { x with tick:=wordAt ws 0,part:=2 } { v with nx:=fnV 165 } (ws.set 0 (Md.Cv.passV (wordAt ws 0))) false (up n):=by
 have hE:errA ws true 0=0:=a88 (by omega) hl;obtain⟨f1,f2,f3,f4,_⟩:=Md.Cv.ok_facts hE;obtain⟨y,hy⟩:∃ y,wordAt ws 0=y:=⟨_,rfl⟩
 obtain⟨ws',hws⟩:∃ ws',ws.set 0 (Md.Cv.passV (wordAt ws 0))=ws':=⟨_,rfl⟩
 have HD:=zH (Md.Ct.draw_any h.mem 0 1 2 3 (3+x.b) (3+x.b+3*x.a));unfold Md.Ct.plnV at HD;rw[hE,f1,f2,f3,f4,show ws.set (Int.toNat 0) (addV (wordAt ws 0) 1)=ws' from hws,hy]at HD;rw[hws,hy];have HM:Hid (∀ w',MemAt 145 w' mb mg ws' false (up n)->Chg mb mg w w'->Mid W G0 b z mb mg w' x v ws' false (up n)):=fun w' k1 k2=>h.memb k2 k1
 have HP:Hid (∀ w',Mid W G0 b z mb mg w' x v ws' false (up n)->Mid W G0 b z mb mg (w'.setCell ⟨b,13,none⟩ (.int .u64 y)) { x with tick:=y } v ws' false (up n)):=fun w' k=>k.put 13 _ { x with tick:=y } v rfl ⟨rfl,rfl,rfl⟩ ⟨rfl,rfl,rfl,rfl,rfl,rfl,rfl⟩
 have HT:Hid (∀ w',Mid W G0 b z mb mg w' { x with tick:=y } v ws' false (up n)->Calls Tryz.prog 131 #[.pointer (some ⟨b,0,none⟩),.int .i64 2,.func (.func 165) #[] #[]] w' fun e w'=>e=.returned (.tuple #[])/\Mid W G0 b z mb mg w' { x with tick:=y,part:=2 } { v with nx:=fnV 165 } ws' false (up n)):=fun w' k=>aa0 k 2 rfl 165
 obtain⟨h0,h1,h2,h3,h4,h5⟩:=h.plan rfl rfl;have hb:=h.ltB;clear h f1 f2 f3 f4 hE hl hy hws
 generalize 3+x.b+3*x.a=p5 at *
 generalize 3+x.b=p4 at *
 go_enter Tryz.func132,Tryz.ntmps132
 go_wp2_with (first
  | (go_at_call 131;refine(HT.out _ (HP.out _ HQ.out)).mono ?_;rintro e w2 ⟨rfl,k⟩;have HR:=zH k;clear k HT)
  | (go_at_call 164;refine HD.out.mono ?_;rintro e w1 ⟨rfl,k1,k2⟩;have HQ:=zH (HM.out _ k1 k2);have e13:w1.cell? ⟨b,13,none⟩=some (.int .u64 x.tick):=(HQ.out.cell 13).trans rfl;have f13:=HQ.out.free 13;have lb:=HQ.out.ltB;clear k1 k2 HD HM))
 go_end0
 exact⟨rfl,HR.out⟩
theorem aR0 (h:Mid W G0 b z mb mg w x v ws true n) (hl:1<(ws.length:Int)) {is:Bool} (his:decide (wordAt ws 1=x.tick)=is):Calls Tryz.prog 165 #[.pointer (some ⟨b,0,none⟩),.pointer (some ⟨mb,0,none⟩)] w fun e w'=>e=.returned (.tuple #[])/\Mid W G0 b z mb mg w' (if is then { x with part:=3 } else x) (if is then { v with nx:=fnV 189 } else v) ws false (up n):=by
 have hE:errA ws true 1=0:=a88 (by omega) hl;obtain⟨f1,f2,f3,f4,f5,_⟩:=Md.Cv.ok_facts hE;have HD:=zH (Md.Ct.look_any h.drew.mem 0 1 2 3 (3+x.b) (3+x.b+3*x.a) x.tick);unfold Md.Ct.plnV Md.Ct.lookB at HD;rw[hE,f2,f3,f5,Bool.true_and,Bool.true_and,his]at HD;have HM:Hid (∀ w',MemAt 145 w' mb mg ws false (up n)->Chg mb mg w.drew w'->Mid W G0 b z mb mg w' x v ws false (up n)):=fun w' k1 k2=>h.drew.memb k2 k1
 have HT:Hid (∀ w',Mid W G0 b z mb mg w' x v ws false (up n)->Calls Tryz.prog 131 #[.pointer (some ⟨b,0,none⟩),.int .i64 3,.func (.func 189) #[] #[]] w' fun e w'=>e=.returned (.tuple #[])/\Mid W G0 b z mb mg w' { x with part:=3 } { v with nx:=fnV 189 } ws false (up n)):=fun w' k=>aa0 k 3 rfl 189
 obtain⟨h0,h1,h2,h3,h4,h5⟩:=h.plan rfl rfl;have h13:w.cell? ⟨b,13,none⟩=some (.int .u64 x.tick):=(h.cell 13).trans rfl;have hb:=h.ltB;have HPL:Hid (∀ w',Mid W G0 b z mb mg w' x v ws false (up n)->(w'.cell? ⟨b,0,none⟩=some (.int .i64 0)/\w'.cell? ⟨b,1,none⟩=some (.int .i64 1)/\w'.cell? ⟨b,2,none⟩=some (.int .i64 2)/\w'.cell? ⟨b,3,none⟩=some (.int .i64 3)/\w'.cell? ⟨b,4,none⟩=some (.int .i64 (3+x.b))/\w'.cell? ⟨b,5,none⟩=some (.int .i64 (3+x.b+3*x.a)))/\w'.cell? ⟨b,13,none⟩=some (.int .u64 x.tick)):=fun w' k=>⟨k.plan rfl rfl,(k.cell 13).trans rfl⟩
 clear h f1 f2 f3 f4 f5 hE hl his
 generalize 3+x.b+3*x.a=p5 at *
 generalize 3+x.b=p4 at *
 go_enter Tryz.func165,Tryz.ntmps165;go_wp2_with fail;refine a05 (fun u=>(u.cell? ⟨b,0,none⟩=some (.int .i64 0)/\u.cell? ⟨b,1,none⟩=some (.int .i64 1)/\u.cell? ⟨b,2,none⟩=some (.int .i64 2)/\u.cell? ⟨b,3,none⟩=some (.int .i64 3)/\u.cell? ⟨b,4,none⟩=some (.int .i64 p4)/\u.cell? ⟨b,5,none⟩=some (.int .i64 p5))/\u.cell? ⟨b,13,none⟩=some (.int .u64 x.tick) )  ((0,true)::(1,true)::(2,true)::(3,true)::(4,true)::(5,true)::(6,true)::(7,true)::(8,true)::(9,false)::(10,true)::(11,true)::(12,true)::(13,true)::(14,true)::[])  Md.Cv.follows13 (by kernel_rfl) (fun _ _ _ _ _ h=>h)  ⟨⟨h0,h1,h2,h3,h4,h5⟩,h13⟩ ?_
 (repeat ((first | (refine a02 (v:=?_) rfl (by rfl) (fun wq hSq=>?_) ?_;rotate_left;(focus ((try dsimp only at hSq);go_simp;try with_reducible rfl))) | refine a03 rfl (by rfl) ?_);simp only[Act.put,zA,zB,zC]))
 (refine a04 rfl (by rfl) (fun KK hK=>?_);go_simp)
 refine HD.out.mono ?_;rintro e w1 ⟨rfl,k1,k2⟩;have HQ:=zH (HM.out _ k1 k2);have lb:=HQ.out.ltB;clear k1 k2 HD HM;refine hK.out _ _ (HPL.out _ HQ.out) ?_
 (clear hK KK;try simp only[Act.put,zA,zB,zC])
 (repeat ((first | (refine a02 (v:=?_) rfl (by rfl) (fun wq hSq=>?_) ?_;rotate_left;(focus ((try dsimp only at hSq);go_simp;try with_reducible rfl))) | refine a03 rfl (by rfl) ?_);simp only[Act.put,zA,zB,zC]))
 refine a07 ?_
 cases is
 ·go_wp2_with fail
  go_end0
  exact⟨rfl,HQ.out⟩
 ·go_wp2_with (go_at_call 131;refine(HT.out _ HQ.out).mono ?_;rintro e w2 ⟨rfl,k⟩;have HR:=zH k;clear k HT)
  go_end0
  exact⟨rfl,HR.out⟩
theorem aA4 (h:Mid W G0 b z mb mg w x v ws true n) (hl:2<(ws.length:Int)):Calls Tryz.prog 189 #[.pointer (some ⟨b,0,none⟩),.pointer (some ⟨mb,0,none⟩)] w fun e w'=>e=.returned (.tuple #[])/\Mid W G0 b z mb mg w' { x with stamp:=wordAt ws 2,part:=4 } { v with nx:=fnV 209 } ws false (up n):=by
 have hE:errA ws true 2=0:=a88 (by omega) hl;obtain⟨f1,f2,f3,f4,_⟩:=Md.Cv.ok_facts hE;obtain⟨y,hy⟩:∃ y,wordAt ws 2=y:=⟨_,rfl⟩
 have HD:=zH (Md.Cv.stampM_any h.mem 0 1 2 3 (3+x.b) (3+x.b+3*x.a));unfold Md.Cv.plnV at HD;rw[hE,f2,f3,f4,hy]at HD;rw[hy];have HM:Hid (∀ w',MemAt 145 w' mb mg ws false (up n)->Chg mb mg w w'->Mid W G0 b z mb mg w' x v ws false (up n)):=fun w' k1 k2=>h.memb k2 k1
 have HP:Hid (∀ w',Mid W G0 b z mb mg w' x v ws false (up n)->Mid W G0 b z mb mg (w'.setCell ⟨b,14,none⟩ (.int .u64 y)) { x with stamp:=y } v ws false (up n)):=fun w' k=>k.put 14 _ { x with stamp:=y } v rfl ⟨rfl,rfl,rfl⟩ ⟨rfl,rfl,rfl,rfl,rfl,rfl,rfl⟩
 have HT:Hid (∀ w',Mid W G0 b z mb mg w' { x with stamp:=y } v ws false (up n)->Calls Tryz.prog 131 #[.pointer (some ⟨b,0,none⟩),.int .i64 4,.func (.func 209) #[] #[]] w' fun e w'=>e=.returned (.tuple #[])/\Mid W G0 b z mb mg w' { x with stamp:=y,part:=4 } { v with nx:=fnV 209 } ws false (up n)):=fun w' k=>aa0 k 4 rfl 209
 obtain⟨h0,h1,h2,h3,h4,h5⟩:=h.plan rfl rfl;have hb:=h.ltB;clear h f1 f2 f3 f4 hE hl hy
 generalize 3+x.b+3*x.a=p5 at *
 generalize 3+x.b=p4 at *
 go_enter Tryz.func189,Tryz.ntmps189
 go_wp2_with (first
  | (go_at_call 131;refine(HT.out _ (HP.out _ HQ.out)).mono ?_;rintro e w2 ⟨rfl,k⟩;have HR:=zH k;clear k HT)
  | (go_at_call 208;refine HD.out.mono ?_;rintro e w1 ⟨rfl,k1,k2⟩;have HQ:=zH (HM.out _ k1 k2);have e14:w1.cell? ⟨b,14,none⟩=some (.int .u64 x.stamp):=(HQ.out.cell 14).trans rfl;have f14:=HQ.out.free 14;have lb:=HQ.out.ltB;clear k1 k2 HD HM))
 go_end0
 exact⟨rfl,HR.out⟩
theorem publish_any (h:Mid W G0 b z mb mg w x v ws true n) (hl:2<(ws.length:Int)):Calls Tryz.prog 266 #[.pointer (some ⟨b,0,none⟩),.pointer (some ⟨mb,0,none⟩)] w fun e w'=>e=.returned (.tuple #[])/\Mid W G0 b z mb mg w' { x with part:=8 } { v with nx:=fnV 228,nb:=Md.Cv.passV x.stamp } (ws.set 2 (Md.Cv.passV x.stamp)) false (up n):=by
 have hE:errA ws true 2=0:=a88 (by omega) hl;obtain⟨f1,f2,f3,f4,_⟩:=Md.Cv.ok_facts hE;have HN:Hid (Calls Tryz.prog 268 #[.pointer (some ⟨b,0,none⟩)] w fun e w'=>e=.returned (.int .u64 (Md.Cv.passV x.stamp))/\w'=w):=am0 h;obtain⟨y,hy⟩:∃ y,Md.Cv.passV x.stamp=y:=⟨_,rfl⟩
 rw[hy]at HN ⊢;clear hy;have H1:=h.put 19 (.int .u64 y) x { v with nb:=y } rfl ⟨rfl,rfl,rfl⟩ ⟨rfl,rfl,rfl,rfl,rfl,rfl,rfl⟩;have h19:w.cell? ⟨b,19,none⟩=some (.int .u64 v.nb):=(h.cell 19).trans rfl;have f19:=h.free 19;have hb:=h.ltB;obtain⟨w1,hw1⟩:∃ w1,w1=w.setCell ⟨b,19,none⟩ (.int .u64 y):=⟨_,rfl⟩
 rw[<- hw1]at H1;have HD:=zH (Md.Cv.publish_any H1.drew.mem 0 1 2 3 (3+x.b) (3+x.b+3*x.a) y);unfold Md.Cv.plnV at HD;obtain⟨ws',hws⟩:∃ ws',ws.set 2 y=ws':=⟨_,rfl⟩
 rw[hE,f1,f2,f3,show ws.set (Int.toNat 2) y=ws' from hws]at HD;rw[hws];have HM:Hid (∀ w',MemAt 145 w' mb mg ws' false (up n)->Chg mb mg w1.drew w'->Mid W G0 b z mb mg w' x { v with nb:=y } ws' false (up n)):=fun w' k1 k2=>H1.drew.memb k2 k1
 have HT:Hid (∀ w',Mid W G0 b z mb mg w' x { v with nb:=y } ws' false (up n)->Calls Tryz.prog 131 #[.pointer (some ⟨b,0,none⟩),.int .i64 8,.func (.func 228) #[] #[]] w' fun e w'=>e=.returned (.tuple #[])/\Mid W G0 b z mb mg w' { x with part:=8 } { v with nx:=fnV 228,nb:=y } ws' false (up n)):=fun w' k=>aa0 k 8 rfl 228
 obtain⟨h0,h1,h2,h3,h4,h5⟩:=H1.plan rfl rfl;have e19:w1.cell? ⟨b,19,none⟩=some (.int .u64 y):=(H1.cell 19).trans rfl;have hb1:=H1.ltB;have HPL:Hid (∀ w',Mid W G0 b z mb mg w' x { v with nb:=y } ws' false (up n)->(w'.cell? ⟨b,0,none⟩=some (.int .i64 0)/\w'.cell? ⟨b,1,none⟩=some (.int .i64 1)/\w'.cell? ⟨b,2,none⟩=some (.int .i64 2)/\w'.cell? ⟨b,3,none⟩=some (.int .i64 3)/\w'.cell? ⟨b,4,none⟩=some (.int .i64 (3+x.b))/\w'.cell? ⟨b,5,none⟩=some (.int .i64 (3+x.b+3*x.a)))/\w'.cell? ⟨b,19,none⟩=some (.int .u64 y)):=fun w' k=>⟨k.plan rfl rfl,(k.cell 19).trans rfl⟩
 have HW1:=zH hw1;clear h H1 f1 f2 f3 f4 hE hl hws hw1
 generalize 3+x.b+3*x.a=p5 at *
 generalize 3+x.b=p4 at *
 go_enter Tryz.func266,Tryz.ntmps266
 go_wp2_with (go_at_call 268;refine HN.out.mono ?_;rintro e u1 ⟨rfl,hw⟩;subst u1;clear HN)
 rw[<- HW1.out];clear HW1;refine a05 (fun u=>(u.cell? ⟨b,0,none⟩=some (.int .i64 0)/\u.cell? ⟨b,1,none⟩=some (.int .i64 1)/\u.cell? ⟨b,2,none⟩=some (.int .i64 2)/\u.cell? ⟨b,3,none⟩=some (.int .i64 3)/\u.cell? ⟨b,4,none⟩=some (.int .i64 p4)/\u.cell? ⟨b,5,none⟩=some (.int .i64 p5))/\u.cell? ⟨b,19,none⟩=some (.int .u64 y) )  ((0,true)::(1,true)::(2,true)::(3,true)::(4,true)::(5,true)::(6,true)::(7,true)::(8,true)::(9,false)::[])  Md.Cv.follows13 (by kernel_rfl) (fun _ _ _ _ _ h=>h)  ⟨⟨h0,h1,h2,h3,h4,h5⟩,e19⟩ ?_
 (repeat ((first | (refine a02 (v:=?_) rfl (by rfl) (fun wq hSq=>?_) ?_;rotate_left;(focus ((try dsimp only at hSq);go_simp;try with_reducible rfl))) | refine a03 rfl (by rfl) ?_);simp only[Act.put,zA,zB,zC]))
 (refine a04 rfl (by rfl) (fun KK hK=>?_);go_simp)
 refine HD.out.mono ?_;rintro e w2 ⟨rfl,k1,k2⟩;have HQ:=zH (HM.out _ k1 k2);have lb:=HQ.out.ltB;clear k1 k2 HD HM;refine hK.out _ _ (HPL.out _ HQ.out) ?_
 (clear hK KK;try simp only[Act.put,zA,zB,zC])
 refine a07 ?_
 go_wp2_with (go_at_call 131;refine(HT.out _ HQ.out).mono ?_;rintro e w3 ⟨rfl,k⟩;have HR:=zH k;clear k HT)
 go_end0
 exact⟨rfl,HR.out⟩
theorem pass_any (h:Mid W G0 b z mb mg w x v ws true n) (hl:1<(ws.length:Int)):Calls Tryz.prog 228 #[.pointer (some ⟨b,0,none⟩),.pointer (some ⟨mb,0,none⟩)] w fun e w'=>e=.returned (.tuple #[])/\Mid W G0 b z mb mg w' { x with part:=9 } { v with nx:=.nilFunc } (ws.set 1 (Md.Cv.passV x.tick)) false (up n):=by
 have hE:errA ws true 1=0:=a88 (by omega) hl;obtain⟨f1,f2,f3,f4,_⟩:=Md.Cv.ok_facts hE;have HD:=zH (Md.Ct.pass_any h.drew.mem 0 1 2 3 (3+x.b) (3+x.b+3*x.a) x.tick);unfold Md.Ct.plnV at HD;obtain⟨ws',hws⟩:∃ ws',ws.set 1 (Md.Cv.passV x.tick)=ws':=⟨_,rfl⟩
 rw[hE,f1,f2,f3,show ws.set (Int.toNat 1) (Md.Ct.passV x.tick)=ws' from hws]at HD;rw[hws];have HM:Hid (∀ w',MemAt 145 w' mb mg ws' false (up n)->Chg mb mg w.drew w'->Mid W G0 b z mb mg w' x v ws' false (up n)):=fun w' k1 k2=>h.drew.memb k2 k1
 have HT:Hid (∀ w',Mid W G0 b z mb mg w' x v ws' false (up n)->Calls Tryz.prog 131 #[.pointer (some ⟨b,0,none⟩),.int .i64 9,.nilFunc] w' fun e w'=>e=.returned (.tuple #[])/\Mid W G0 b z mb mg w' { x with part:=9 } { v with nx:=.nilFunc } ws' false (up n)):=fun w' k=>aV2 k 9 rfl
 obtain⟨h0,h1,h2,h3,h4,h5⟩:=h.plan rfl rfl;have h13:w.cell? ⟨b,13,none⟩=some (.int .u64 x.tick):=(h.cell 13).trans rfl;have hb:=h.ltB;have HPL:Hid (∀ w',Mid W G0 b z mb mg w' x v ws' false (up n)->(w'.cell? ⟨b,0,none⟩=some (.int .i64 0)/\w'.cell? ⟨b,1,none⟩=some (.int .i64 1)/\w'.cell? ⟨b,2,none⟩=some (.int .i64 2)/\w'.cell? ⟨b,3,none⟩=some (.int .i64 3)/\w'.cell? ⟨b,4,none⟩=some (.int .i64 (3+x.b))/\w'.cell? ⟨b,5,none⟩=some (.int .i64 (3+x.b+3*x.a)))/\w'.cell? ⟨b,13,none⟩=some (.int .u64 x.tick)):=fun w' k=>⟨k.plan rfl rfl,(k.cell 13).trans rfl⟩
 clear h f1 f2 f3 f4 hE hl hws
 generalize 3+x.b+3*x.a=p5 at *
 generalize 3+x.b=p4 at *
 go_enter Tryz.func228,Tryz.ntmps228;go_wp2_with fail;refine a05 (fun u=>(u.cell? ⟨b,0,none⟩=some (.int .i64 0)/\u.cell? ⟨b,1,none⟩=some (.int .i64 1)/\u.cell? ⟨b,2,none⟩=some (.int .i64 2)/\u.cell? ⟨b,3,none⟩=some (.int .i64 3)/\u.cell? ⟨b,4,none⟩=some (.int .i64 p4)/\u.cell? ⟨b,5,none⟩=some (.int .i64 p5))/\u.cell? ⟨b,13,none⟩=some (.int .u64 x.tick) )  ((0,true)::(1,true)::(2,true)::(3,true)::(4,true)::(5,true)::(6,true)::(7,true)::(8,true)::(9,false)::[])  Md.Cv.follows13 (by kernel_rfl) (fun _ _ _ _ _ h=>h)  ⟨⟨h0,h1,h2,h3,h4,h5⟩,h13⟩ ?_
 (repeat ((first | (refine a02 (v:=?_) rfl (by rfl) (fun wq hSq=>?_) ?_;rotate_left;(focus ((try dsimp only at hSq);go_simp;try with_reducible rfl))) | refine a03 rfl (by rfl) ?_);simp only[Act.put,zA,zB,zC]))
 (refine a04 rfl (by rfl) (fun KK hK=>?_);go_simp)
 refine HD.out.mono ?_;rintro e w1 ⟨rfl,k1,k2⟩;have HQ:=zH (HM.out _ k1 k2);have lb:=HQ.out.ltB;clear k1 k2 HD HM;refine hK.out _ _ (HPL.out _ HQ.out) ?_
 (clear hK KK;try simp only[Act.put,zA,zB,zC])
 refine a07 ?_
 go_wp2_with (go_at_call 131;refine(HT.out _ HQ.out).mono ?_;rintro e w2 ⟨rfl,k⟩;have HR:=zH k;clear k HT)
 go_end0
 exact⟨rfl,HR.out⟩
end
attribute [local go_sem] a00 Md.Ce.run_store_func Md.Ce.run_store_nilFunc
theorem bs0 (a b c:Int) (w:World):(Instr.field 63 (.agg #[.int .i64 a,.int .i64 b,.int .i64 c]) 0).run Tryz.prog w=.ok (.int .i64 a) w:=by kernel_rfl
attribute [local go_sem] bs0
section
variable {W w:World} {G0:List Nat} {b mb mg:Nat} {x:Wx} {z:Wz} {v:Wv} {ws:List Int} {o:Bool} {n:Int}
theorem a92 (h:Mid W G0 b z mb mg w x v ws true n) (ha:1<=x.a/\x.a<=256) (hb8:1<=x.b/\x.b<=8) (hl:plY x<=(ws.length:Int)) {c:Int} (h0:0<=c) (h1:c<x.a) {y:Nat} (hy:nowN x ws c=y):Calls Tryz.prog 216 #[.pointer (some ⟨b,0,none⟩),.pointer (some ⟨mb,0,none⟩),.int .i64 c] w fun e w'=>e=.returned (.float .f64 y)/\Mid W G0 b z mb mg w' x v ws false (up n)/\Chg mb mg w w':=by
 obtain⟨f1,f2,f3,f4⟩:=bv5 ha hb8 hl h0 h1 n;have HD:=zH (Md.Ce.cnow_any h.mem 0 1 2 3 (3+x.b) (3+x.b+3*x.a) c);unfold Md.Ce.planV at HD;rw[f2,f3,f4,f1,hy]at HD;have HM:Hid (∀ w',MemAt 145 w' mb mg ws false (up n)->Chg mb mg w w'->Mid W G0 b z mb mg w' x v ws false (up n)/\Chg mb mg w w'):=fun w' k1 k2=>⟨h.memb k2 k1,k2⟩
 obtain⟨h0,h1,h2,h3,h4,h5⟩:=h.plan rfl rfl;have hb:=h.ltB;clear h f1 f2 f3 f4 hl ha hb8 hy
 generalize 3+x.b+3*x.a=p5 at *
 generalize 3+x.b=p4 at *
 go_enter Tryz.func216,Tryz.ntmps216
 go_wp2_with (go_at_call 227;refine HD.out.mono ?_;rintro e w1 ⟨rfl,k1,k2⟩;have HQ:=zH (HM.out _ k1 k2);clear k1 k2 HD HM)
 go_ret;exact⟨rfl,HQ.out⟩
theorem bA0 (h:Mid W G0 b z mb mg w x v ws o n) (hh:(x.m.how != 1)=true):Calls Tryz.prog 217 #[.pointer (some ⟨b,0,none⟩)] w fun e w'=>e=.returned (.tuple #[])/\Mid W G0 b z mb mg w' { x with part:=8 } { v with nx:=fnV 228 } ws o n:=by
 have HE:Hid (Calls Tryz.prog 142 #[.pointer (some ⟨z.bm,0,none⟩)] w fun e w'=>e=.returned (.agg #[.int .i64 x.m.how,.int .i64 x.m.cod,.int .i64 x.m.err])/\Bl w w'):=Go.Proofs.YtlkldgopliablaaGreatDoor.end_any h.raw.mac.gm;have HT:Hid (∀ w',Bl w w'->Calls Tryz.prog 131 #[.pointer (some ⟨b,0,none⟩),.int .i64 8,.func (.func 228) #[] #[]] w' fun e w'=>e=.returned (.tuple #[])/\Mid W G0 b z mb mg w' { x with part:=8 } { v with nx:=fnV 228 } ws o n):=fun w' k=>aa0 (h.on k) 8 rfl 228
 have h9:w.cell? ⟨b,9,none⟩=some (.pointer (some ⟨z.bm,0,none⟩)):=(h.cell 9).trans rfl;have hb:=h.ltB;clear h
 generalize x.m.how=hw at HE hh
 generalize x.m.cod=cd at HE
 generalize x.m.err=er at HE
 go_enter Tryz.func217,Tryz.ntmps217
 go_wp2_with (first
  | (go_at_call 131;refine(HT.out _ HQ.out).mono ?_;rintro e w2 ⟨rfl,k⟩;have HR:=zH k;clear k HT)
  | (go_at_call 142;refine HE.out.mono ?_;rintro e w1 ⟨rfl,k⟩;have HQ:=zH k;clear k HE))
 refine bodyPost_ret (results_none rfl _ _ _) rfl ?_;exact⟨rfl,HR.out⟩
theorem bm5 (h:Mid W G0 b z mb mg w x v ws o n) (hh:(x.m.how != 1)=false):Calls Tryz.prog 217 #[.pointer (some ⟨b,0,none⟩)] w fun e w'=>e=.returned (.tuple #[])/\Hid (∃ i,Mid W G0 b z mb mg w' { x with part:=5 } { v with nx:=fnV 230,qs:=some i,s:=⟨3,x.b,x.stamp,0,0⟩ } ws o n):=by
 have HE:Hid (Calls Tryz.prog 142 #[.pointer (some ⟨z.bm,0,none⟩)] w fun e w'=>e=.returned (.agg #[.int .i64 x.m.how,.int .i64 x.m.cod,.int .i64 x.m.err])/\Bl w w'):=Go.Proofs.YtlkldgopliablaaGreatDoor.end_any h.raw.mac.gm;have HM:=zH h;have HL:Hid (∀ u,Calls Tryz.prog 229 #[.agg #[.int .i64 0,.int .i64 1,.int .i64 2,.int .i64 3,.int .i64 (3+x.b),.int .i64 (3+x.b+3*x.a)],.int .i64 x.b,.int .u64 x.stamp] u fun e w'=>∃ i,e=.returned (.pointer (some ⟨i,0,none⟩))/\u.heap.size<=i/\Md.Cv.ScAt w' i ⟨3,x.b,x.stamp,0,0⟩/\Bl u w'):=fun u=>Md.Cv.look_any 0 1 2 3 (3+x.b) (3+x.b+3*x.a) x.b x.stamp u
 have HT:Hid (∀ i w',Mid W G0 b z mb mg w' x { v with qs:=some i,s:=⟨3,x.b,x.stamp,0,0⟩ } ws o n->Calls Tryz.prog 131 #[.pointer (some ⟨b,0,none⟩),.int .i64 5,.func (.func 230) #[] #[]] w' fun e w'=>e=.returned (.tuple #[])/\Mid W G0 b z mb mg w' { x with part:=5 } { v with nx:=fnV 230,qs:=some i,s:=⟨3,x.b,x.stamp,0,0⟩ } ws o n):=fun i w' k=>aa0 k 5 rfl 230
 have h9:w.cell? ⟨b,9,none⟩=some (.pointer (some ⟨z.bm,0,none⟩)):=(h.cell 9).trans rfl;have hb:=h.ltB;have HPL:Hid (∀ w' v',Mid W G0 b z mb mg w' x v' ws o n->(w'.cell? ⟨b,0,none⟩=some (.int .i64 0)/\w'.cell? ⟨b,1,none⟩=some (.int .i64 1)/\w'.cell? ⟨b,2,none⟩=some (.int .i64 2)/\w'.cell? ⟨b,3,none⟩=some (.int .i64 3)/\w'.cell? ⟨b,4,none⟩=some (.int .i64 (3+x.b))/\w'.cell? ⟨b,5,none⟩=some (.int .i64 (3+x.b+3*x.a)))/\w'.cell? ⟨b,6,none⟩=some (.int .i64 x.b)/\w'.cell? ⟨b,14,none⟩=some (.int .u64 x.stamp)):=fun w' v' k=>⟨k.plan rfl rfl,(k.cell 6).trans rfl,(k.cell 14).trans rfl⟩
 clear h
 generalize x.m.how=hw at HE hh
 generalize x.m.cod=cd at HE
 generalize x.m.err=er at HE
 generalize 3+x.b+3*x.a=p5 at *
 generalize 3+x.b=p4 at *
 go_enter Tryz.func217,Tryz.ntmps217
 go_wp2_with (go_at_call 142;refine HE.out.mono ?_;rintro e w1 ⟨rfl,k⟩;have HQ:=zH (HM.out.on k);clear k HE)
 clear h9 hb HM;obtain⟨⟨h0,h1,h2,h3,h4,h5⟩,h6,h14⟩:=HPL.out _ _ HQ.out;have hb:=HQ.out.ltB;refine a05 (fun u=>(u.cell? ⟨b,0,none⟩=some (.int .i64 0)/\u.cell? ⟨b,1,none⟩=some (.int .i64 1)/\u.cell? ⟨b,2,none⟩=some (.int .i64 2)/\u.cell? ⟨b,3,none⟩=some (.int .i64 3)/\u.cell? ⟨b,4,none⟩=some (.int .i64 p4)/\u.cell? ⟨b,5,none⟩=some (.int .i64 p5))/\u.cell? ⟨b,6,none⟩=some (.int .i64 x.b)/\u.cell? ⟨b,14,none⟩=some (.int .u64 x.stamp) )  ((0,true)::(1,true)::(2,true)::(3,true)::(4,true)::(5,true)::(6,true)::(7,true)::(8,true)::(9,true)::(10,true)::(11,true)::(12,true)::(13,false)::(14,true)::(15,true)::(16,false)::[])  Md.Cv.follows13 (by kernel_rfl) (fun _ _ _ _ _ h=>h)  ⟨⟨h0,h1,h2,h3,h4,h5⟩,h6,h14⟩ ?_
 (repeat ((first | (refine a02 (v:=?_) rfl (by rfl) (fun wq hSq=>?_) ?_;rotate_left;(focus ((try dsimp only at hSq);go_simp;try with_reducible rfl))) | refine a03 rfl (by rfl) ?_);simp only[Act.put,zA,zB,zC]))
 (refine a04 rfl (by rfl) (fun KK hK=>?_);go_simp)
 refine(HL.out _).mono ?_;rintro e w2 ⟨i0,rfl,k1,k2,k3⟩;have HV:=zH (HQ.out.drew.on k3);have HN:=zH (HQ.out.drew.scanNew k3 k1 k2);have e16:w2.cell? ⟨b,16,none⟩=some (ptrV v.qs):=(HV.out.cell 16).trans rfl;have f16:=HV.out.free 16;have lb:=HV.out.ltB;clear k1 k2 k3;refine hK.out _ _ (HPL.out _ _ HV.out) ?_
 (clear hK KK;try simp only[Act.put,zA,zB,zC])
 (repeat ((first | (refine a02 (v:=?_) rfl (by rfl) (fun wq hSq=>?_) ?_;rotate_left;(focus ((try dsimp only at hSq);go_simp;try with_reducible rfl))) | refine a03 rfl (by rfl) ?_);simp only[Act.put,zA,zB,zC]))
 (refine a04 rfl (by rfl) (fun KK hK=>?_);go_simp)
 refine hK.out _ _ (HPL.out _ _ HN.out) ?_
 (clear hK KK;try simp only[Act.put,zA,zB,zC])
 refine a07 ?_
 go_wp2_with (go_at_call 131;refine(HT.out _ _ HN.out).mono ?_;rintro e w3 ⟨rfl,k⟩;have HR:=zH k;clear k HT)
 go_end0
 exact⟨rfl,i0,HR.out⟩
theorem bx3 (h:Mid W G0 b z mb mg w x v ws o n) (hT:a78 W G0) (hI:Inv x.m) {M:Mac} {A:Ask} (hM:(a08 x.m).1=M) (hA:(a08 x.m).2=A) (hk:A.kind=4) {Q:World->Prop} (HE:Hid (∀ u F,Mid W G0 b z mb mg u { x with m:=M } { v with F:=F } ws o n->Calls Tryz.prog 217 #[.pointer (some ⟨b,0,none⟩)] u fun e w'=>e=.returned (.tuple #[])/\Q w')):Calls Tryz.prog 209 #[.pointer (some ⟨b,0,none⟩),.pointer (some ⟨mb,0,none⟩)] w fun e w'=>e=.returned (.tuple #[])/\Q w':=by
 have HS:=zH (h.step hT hI hM hA);rw[hk]at HS;have h9:w.cell? ⟨b,9,none⟩=some (.pointer (some ⟨z.bm,0,none⟩)):=(h.cell 9).trans rfl;have hb:=h.ltB;clear h hM hA hT hI hk;go_enter Tryz.func209,Tryz.ntmps209
 go_wp2_with (first
  | (go_at_call 217;refine(HE.out _ _ HU.out).mono ?_;rintro e w3 ⟨rfl,k⟩;have HR:=zH k;clear k)
  | (go_at_call 214;refine HS.out.mono ?_;rintro e w1 ⟨rfl,k⟩;obtain⟨F,k⟩:=k.out;have HU:=zH (k.alloc (.cells #[.int .i64 4,.int .i64 A.cell,.float .f64 A.x,.bool A.first] 165));have lb:=k.ltB;clear k HS))
 go_end0
 exact⟨rfl,HR.out⟩
theorem bE5 (h:Mid W G0 b z mb mg w x v ws o n) (hT:a78 W G0) (hI:Inv x.m) {M:Mac} {A:Ask} (hM:(a08 x.m).1=M) (hA:(a08 x.m).2=A) (h1:(A.kind == 1)=false) (h3:(A.kind == 3)=false∨((A.kind == 3)=true/\A.first=false)) (h4:(A.kind == 4)=false):Calls Tryz.prog 209 #[.pointer (some ⟨b,0,none⟩),.pointer (some ⟨mb,0,none⟩)] w fun e w'=>e=.returned (.tuple #[])/\Hid (∃ F,Mid W G0 b z mb mg w' { x with m:=M } { v with F:=F } ws o n):=by
 have HS:=zH (h.step hT hI hM hA);have h9:w.cell? ⟨b,9,none⟩=some (.pointer (some ⟨z.bm,0,none⟩)):=(h.cell 9).trans rfl;have hb:=h.ltB;clear h hM hA hT hI;obtain⟨ak,ac,ax,af⟩:=A;dsimp only at *
 rcases h3 with h3 | ⟨h3,rfl⟩
 ·go_enter Tryz.func209,Tryz.ntmps209
  go_wp2_with (go_at_call 214;refine HS.out.mono ?_;rintro e w1 ⟨rfl,k⟩;obtain⟨F,k⟩:=k.out;have HU:=zH (k.alloc (.cells #[.int .i64 ak,.int .i64 ac,.float .f64 ax,.bool af] 165));have lb:=k.ltB;clear k HS)
  go_end0
  exact⟨rfl,F,HU.out⟩
 ·go_enter Tryz.func209,Tryz.ntmps209
  go_wp2_with (go_at_call 214;refine HS.out.mono ?_;rintro e w1 ⟨rfl,k⟩;obtain⟨F,k⟩:=k.out;have HU:=zH (k.alloc (.cells #[.int .i64 ak,.int .i64 ac,.float .f64 ax,.bool false] 165));have lb:=k.ltB;clear k HS)
  go_end0
  exact⟨rfl,F,HU.out⟩
theorem bj9 (h:Mid W G0 b z mb mg w x v ws true n) (hT:a78 W G0) (hI:Inv x.m) (hI2:Inv (a08 x.m).1) (ha:1<=x.a/\x.a<=256) (hb8:1<=x.b/\x.b<=8) (hl:plY x<=(ws.length:Int)) {M:Mac} {A:Ask} (hM:(a08 x.m).1=M) (hA:(a08 x.m).2=A) (hk:A.kind=1) (h0:0<=A.cell) (h1:A.cell<x.a) {y:Nat} (hy:nowN x ws A.cell=y):Calls Tryz.prog 209 #[.pointer (some ⟨b,0,none⟩),.pointer (some ⟨mb,0,none⟩)] w fun e w'=>e=.returned (.tuple #[])/\Hid (∃ F,Mid W G0 b z mb mg w' { x with m:=a71 M y } { v with F:=F } ws false (up n)):=by
 have HS:=zH (h.step hT hI hM hA);rw[hk]at HS;have h9:w.cell? ⟨b,9,none⟩=some (.pointer (some ⟨z.bm,0,none⟩)):=(h.cell 9).trans rfl;have hb:=h.ltB;have HLD:Hid (∀ u F,Mid W G0 b z mb mg u { x with m:=M } { v with F:=F } ws true n->Calls Tryz.prog 216 #[.pointer (some ⟨b,0,none⟩),.pointer (some ⟨mb,0,none⟩),.int .i64 A.cell] u fun e w'=>e=.returned (.float .f64 y)/\Mid W G0 b z mb mg w' { x with m:=M } { v with F:=F } ws false (up n)/\Chg mb mg u w'):=fun u F k=>a92 k ha hb8 hl h0 h1 hy
 have HGV:Hid (∀ u F,Mid W G0 b z mb mg u { x with m:=M } { v with F:=F } ws false (up n)->Calls Tryz.prog 215 #[.pointer (some ⟨z.bm,0,none⟩),.float .f64 y] u fun e w'=>e=.returned (.int .i64 (giveE M))/\Hid (∃ F,Mid W G0 b z mb mg w' { x with m:=a71 M y } { v with F:=F } ws false (up n))):=fun u F k=>k.give (hM ▸ hI2) y rfl
 generalize giveE M=gE at HGV
 clear h hM hA hT hI hk hl ha hb8 h0 h1 hy hI2;go_enter Tryz.func209,Tryz.ntmps209
 go_wp2_with (go_at_call 214;refine HS.out.mono ?_;rintro e w1 ⟨rfl,k⟩;obtain⟨F,k⟩:=k.out;have HQ:=zH k;have lb:=k.ltB;clear k HS)
 obtain⟨w2,hw2⟩:∃ w2,w2=w1.alloc (.cells #[.int .i64 1,.int .i64 A.cell,.float .f64 A.x,.bool A.first] 165):=⟨_,rfl⟩
 rw[<- hw2];have HU:=zH ((HQ.out.alloc (.cells #[.int .i64 1,.int .i64 A.cell,.float .f64 A.x,.bool A.first] 165)).drew);rw[<- hw2]at HU;have eA:w2.cell? ⟨w1.heap.size,1,none⟩=some (.int .i64 A.cell):=by rw[hw2];simp[go_sem]
 have lA:w1.heap.size<w2.heap.size:=by rw[hw2];simp
 have HNE:Hid (w1.heap.size≠mb/\w1.heap.size≠mg):=⟨(HQ.out.new (zE _)).2.2.1,(HQ.out.new (zE _)).2.2.2⟩;clear hw2 HQ;have e9:w2.cell? ⟨b,9,none⟩=some (.pointer (some ⟨z.bm,0,none⟩)):=(HU.out.cell 9).trans rfl;have eb:b<w2.heap.size:=HU.out.ltB;refine a32 (fun u=>u.cell? ⟨b,9,none⟩=some (.pointer (some ⟨z.bm,0,none⟩))/\u.cell? ⟨w1.heap.size,1,none⟩=some (.int .i64 A.cell) )  ((0,true)::(1,true)::(2,true)::(3,true)::(4,true)::(5,true)::(6,true)::(7,true)::(8,false)::(9,false)::[])  Md.Cv.follows13 (by kernel_rfl) (fun _ _ _ _ _ h=>h)  ⟨e9,eA⟩ ?_
 (repeat (refine a23 (v:=?_) rfl (by rfl) (fun wq hSq=>?_) ?_;rotate_left;(focus ((try dsimp only at hSq);go_simp;try with_reducible rfl));simp only[Act.put,zA,zB,zC]))
 (refine a20 rfl (by rfl) (fun KK hK=>?_);go_simp)
 refine(HLD.out _ _ HU.out).mono ?_;rintro e w3 ⟨rfl,k1,k2⟩;have HV:=zH k1;have g9:w3.cell? ⟨b,9,none⟩=some (.pointer (some ⟨z.bm,0,none⟩)):=(k1.cell 9).trans rfl;have gA:w3.cell? ⟨w1.heap.size,1,none⟩=some (.int .i64 A.cell):=(Md.Cv.cell_kept (k2.block _ lA HNE.out.1 HNE.out.2) 1).trans eA;clear k1 k2;refine hK.out _ _ (fun _=>⟨g9,gA⟩) ?_
 (clear hK KK;try simp only[Act.put,zA,zB,zC])
 (refine a20 rfl (by rfl) (fun KK hK=>?_);go_simp)
 refine(HGV.out _ _ HV.out).mono ?_;rintro e w4 ⟨rfl,k⟩;refine hK.out _ _ (fun hn=>absurd rfl hn) ?_
 (clear hK KK;try simp only[Act.put,zA,zB,zC])
 refine a54 ?_;go_wp2_with fail
 go_end0
 exact⟨rfl,k.out⟩
theorem Mid.hads2 (h:Mid W G0 b z mb mg w x v ws o n) {k:Nat} (hk:x.was.length=k) {ob:Obj} {w3:World} {u:Value} {y:Nat} (hown:w3.ownsRow 0 71 1 u (k+1) (fls x.was ++ [.float .f64 y])) (hg:(w.alloc ob).grownBy w3 (Value.slice v.ph k v.ch).ownBlock) (hat:u.ownBlock=(Value.slice v.ph k v.ch).ownBlock∨u.ownBlock=some (w.alloc ob).heap.size) :
  ∃ p' c',u=.slice p' (k+1) c'/\w3.heap[b]?=some (.cells (boxY x z v) 209 (0,0))/\Mid W G0 b z mb mg (w3.setCell ⟨b,15,none⟩ (.slice p' (k+1) c')) { x with was:=x.was ++ [y] } { v with ph:=p',ch:=c' } ws o n:=by
 subst hk;obtain⟨p',c',e,k1,k2⟩:=h.hads hown ((World.grownBy_alloc w ob _).trans hg) (hat.imp id fun q=>⟨_,q,by simp⟩);exact⟨p',c',e,k1,e ▸ k2⟩
theorem b71 (h:Mid W G0 b z mb mg w x v ws true n) (hT:a78 W G0) (hI:Inv x.m) (ha:1<=x.a/\x.a<=256) (hb8:1<=x.b/\x.b<=8) (hl:plY x<=(ws.length:Int)) (hfew:x.was.length<=1000) {M:Mac} {A:Ask} (hM:(a08 x.m).1=M) (hA:(a08 x.m).2=A) (hk:A.kind=3) (hf:A.first=true) (h0:0<=A.cell) (h1:A.cell<x.a) {y:Nat} (hy:nowN x ws A.cell=y):Calls Tryz.prog 209 #[.pointer (some ⟨b,0,none⟩),.pointer (some ⟨mb,0,none⟩)] w fun e w'=>e=.returned (.tuple #[])/\Hid (∃ F p' c',Mid W G0 b z mb mg w' { x with m:=M,was:=x.was ++ [y] } { v with F:=F,ph:=p',ch:=c' } ws false (up n)):=by
 have HS:=zH (h.step hT hI hM hA);rw[hk,hf]at HS;have h9:w.cell? ⟨b,9,none⟩=some (.pointer (some ⟨z.bm,0,none⟩)):=(h.cell 9).trans rfl;have hb:=h.ltB;have HLD:Hid (∀ u F,Mid W G0 b z mb mg u { x with m:=M } { v with F:=F } ws true n->Calls Tryz.prog 216 #[.pointer (some ⟨b,0,none⟩),.pointer (some ⟨mb,0,none⟩),.int .i64 A.cell] u fun e w'=>e=.returned (.float .f64 y)/\Mid W G0 b z mb mg w' { x with m:=M } { v with F:=F } ws false (up n)/\Chg mb mg u w'):=fun u F k=>a92 k ha hb8 hl h0 h1 hy
 obtain⟨j,hj⟩:∃ j,x.was.length=j:=⟨_,rfl⟩
 have HJ:=zH hj;rw[hj]at hfew;have HC15:Hid (∀ u F ws o n,Mid W G0 b z mb mg u { x with m:=M } { v with F:=F } ws o n->u.cell? ⟨b,15,none⟩=some (.slice v.ph j v.ch)/\u.ownsRow 0 71 1 (.slice v.ph j v.ch) j (fls x.was)):=fun u F ws o n k=>⟨(k.cell 15).trans (by show some (Value.slice v.ph x.was.length v.ch)=_;rw[hj]),by
  have:=k.raw.had.own;dsimp only at this;rw[a26,hj]at this;exact this⟩
 obtain⟨i0,hi,hz0,hz1,hz2⟩:=info_parts az2;have HZI:=zH (And.intro hi (And.intro hz0 (And.intro hz1 hz2)));clear h hM hA hT hI hk hl ha hb8 h0 h1 hy hf hi hz0 hz1 hz2 hj;go_enter Tryz.func209,Tryz.ntmps209
 go_wp2_with (go_at_call 214;refine HS.out.mono ?_;rintro e w1 ⟨rfl,k⟩;obtain⟨F,k⟩:=k.out;have HQ:=zH k;have lb:=k.ltB;clear k HS)
 obtain⟨w2,hw2⟩:∃ w2,w2=w1.alloc (.cells #[.int .i64 3,.int .i64 A.cell,.float .f64 A.x,.bool true] 165):=⟨_,rfl⟩
 rw[<- hw2];have HU:=zH ((HQ.out.alloc (.cells #[.int .i64 3,.int .i64 A.cell,.float .f64 A.x,.bool true] 165)).drew);rw[<- hw2]at HU;have eA:w2.cell? ⟨w1.heap.size,1,none⟩=some (.int .i64 A.cell):=by rw[hw2];simp[go_sem]
 have lA:w1.heap.size<w2.heap.size:=by rw[hw2];simp
 have HNE:Hid (w1.heap.size≠mb/\w1.heap.size≠mg):=⟨(HQ.out.new (zE _)).2.2.1,(HQ.out.new (zE _)).2.2.2⟩;have HNF:Hid (w1.heap.size∉fpR v.ph):=fun q=>(HQ.out.new (zE _)).1 (in_h q)
 clear hw2 HQ;have e15:w2.cell? ⟨b,15,none⟩=some (.slice v.ph j v.ch):=(HC15.out _ _ _ _ _ HU.out).1;have eb:b<w2.heap.size:=HU.out.ltB;refine a32 (fun u=>u.cell? ⟨b,15,none⟩=some (.slice v.ph j v.ch)/\u.cell? ⟨w1.heap.size,1,none⟩=some (.int .i64 A.cell) )  ((0,true)::(1,true)::(2,true)::(3,true)::(4,true)::(5,true)::(6,true)::(7,true)::(8,true)::(9,false)::(10,false)::(11,false)::(12,true)::(13,true)::(14,false)::[])  Md.Cv.follows13 (by kernel_rfl) (fun _ _ _ _ _ h=>h)  ⟨e15,eA⟩ ?_
 (repeat (refine a23 (v:=?_) rfl (by rfl) (fun wq hSq=>?_) ?_;rotate_left;(focus ((try dsimp only at hSq);go_simp;try with_reducible rfl));simp only[Act.put,zA,zB,zC]))
 (refine a20 rfl (by rfl) (fun KK hK=>?_);go_simp)
 refine(HLD.out _ _ HU.out).mono ?_;rintro e w3 ⟨rfl,k1,k2⟩;have HV:=zH k1;obtain⟨g15,OD⟩:=HC15.out _ _ _ _ _ k1;have HOD:=zH OD;have gA:w3.cell? ⟨w1.heap.size,1,none⟩=some (.int .i64 A.cell):=(Md.Cv.cell_kept (k2.block _ lA HNE.out.1 HNE.out.2) 1).trans eA;have l3:w1.heap.size<w3.heap.size:=zL lA k2.size;have b3:b<w3.heap.size:=k1.ltB;have HMR:Hid (∀ w4 v4 ob,w4.ownsRow 0 71 1 v4 (j+1) (fls x.was ++ [.float .f64 y])->(w3.alloc ob).grownBy w4 (Value.slice v.ph j v.ch).ownBlock->(v4.ownBlock=(Value.slice v.ph j v.ch).ownBlock∨v4.ownBlock=some (w3.alloc ob).heap.size)->∃ p' c',v4=.slice p' (j+1) c'/\w4.heap[b]?=some (.cells (boxY { x with m:=M } z { v with F:=F }) 209 (0,0))/\Mid W G0 b z mb mg (w4.setCell ⟨b,15,none⟩ (.slice p' (j+1) c')) { x with m:=M,was:=x.was ++ [y] } { v with F:=F,ph:=p',ch:=c' } ws false (up n)):=fun w4 v4 ob q1 q2 q3=>HV.out.hads2 HJ.out q1 q2 q3
 clear k1 k2 OD HC15;refine hK.out _ _ (fun _=>⟨g15,gA⟩) ?_
 (clear hK KK;try simp only[Act.put,zA,zB,zC])
 (refine a20 rfl (by rfl) (fun KK hK=>?_);go_simp)
 have g15a:(w3.alloc (.cells #[.float .f64 y] 71)).cell? ⟨b,15,none⟩=some (.slice v.ph j v.ch):=(World.cell?_alloc_old _ _ _ (Nat.ne_of_lt b3)).trans g15;have gAa:(w3.alloc (.cells #[.float .f64 y] 71)).cell? ⟨w1.heap.size,1,none⟩=some (.int .i64 A.cell):=(World.cell?_alloc_old _ _ _ (Nat.ne_of_lt l3)).trans gA;refine hK.out _ _ (fun _=>⟨g15a,gAa⟩) ?_
 (clear hK KK;try simp only[Act.put,zA,zB,zC])
 refine a20 rfl (by rfl) (fun KK hK=>?_);refine a57 _ _ 24 24 rfl (.slice v.ph j v.ch) (.slice (some ⟨w3.heap.size,0,none⟩) 1 1) rfl rfl (run_append_own_at (P:=Tryz.prog) (w3.alloc (.cells #[.float .f64 y] 71)) 0 24 24 71 i0 (.float .f64 0) 1 8 Tryz.underlying24 HZI.out.1 HZI.out.2.1 HZI.out.2.2.1 HZI.out.2.2.2 rfl (by decide) _ j (fls x.was) (World.ownsRow.alloc (HOD.out) _) ⟨w3.heap.size,0,none⟩ 1 1 [.float .f64 y] rfl (cell_one_new w3 _ _) (fun u hu=>by simp at hu;subst hu;rfl) (by unfold maxLen;omega) (by omega) (zV _)) ?_;rintro v4 w4 ⟨hown4,hgrow4,hnil4,hat4⟩;have gB:w4.cell? ⟨w1.heap.size,1,none⟩=some (.int .i64 A.cell):=(Md.Cv.cell_kept (hgrow4.block _ (by simp;omega) (fun q=>HNF.out (a40.2 q.symm))) 1).trans gAa;obtain⟨p',c',hv4,k1,k2⟩:=HMR.out _ _ _ hown4 hgrow4 hat4;subst hv4;have c15:w4.cell? ⟨b,15,none⟩=some (.slice v.ph j v.ch):=by
  rw[zR w4 _ 15 _ _ _ k1]
  show some (Value.slice v.ph x.was.length v.ch)=_
  rw[HJ.out]
 have f15:=zZ w4 _ 15 _ _ k1;have b4:=lt_of_block k1;have HKK:=zH k2;clear hown4 hgrow4 hnil4 hat4 k1 k2 HMR;refine hK.out _ _ (fun _=>⟨c15,gB⟩) ?_
 (clear hK KK;try simp only[Act.put,zA,zB,zC])
 (repeat (refine a23 (v:=?_) rfl (by rfl) (fun wq hSq=>?_) ?_;rotate_left;(focus ((try dsimp only at hSq);go_simp;try with_reducible rfl));simp only[Act.put,zA,zB,zC]))
 (refine a20 rfl (by rfl) (fun KK hK=>?_);go_simp)
 refine hK.out _ _ (fun hn=>absurd rfl hn) ?_
 (clear hK KK;try simp only[Act.put])
 refine a54 ?_;go_wp2_with fail
 go_end0
 exact⟨rfl,F,p',c',HKK.out⟩
end
end Go.Proofs.YtlkldgopliablaaGreatDoor.Ww
