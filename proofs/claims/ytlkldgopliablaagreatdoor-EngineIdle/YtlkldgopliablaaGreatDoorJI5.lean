import Derived.Test.YtlkldgopliablaaGreatDoorJI4
import Derived.Test.YtlkldgopliablaaGreatDoorJI2
import Derived.Test.YtlkldgopliablaaGreatDoorJI3
set_option maxRecDepth 100000
set_option maxHeartbeats 8000000
namespace Go.Proofs.YtlkldgopliablaaGreatDoor.En
open Go.ChangeShapes Go.WideShapes Go.ChangeAt Go.RowKit Num Ww
open Rr (Rx a25 InX okW u64B Alike step_in newX a30)
theorem bG2 (y:Ty) (ws:List Int):txT (goS y ws)=txT y:=by rcases y with⟨_,_⟩ | ⟨_,_⟩ <;> rfl
theorem ag6 (y:Ty) (ws:List Int) (b:Nat):txV (goS y ws) b=txV y b:=by unfold txV;rw[bG2]
theorem aM1 (m:Sd.Rd) (t:Nat):(Sd.stepN m t).n=m.n:=by
 unfold Sd.stepN
 split
 ·unfold Sd.settleM
  split <;> rfl
 ·rfl
theorem aM2 (m:Sd.Rd) (t:Nat):(Sd.stepN m t).o<=m.o+1:=by
 unfold Sd.stepN
 split
 ·unfold Sd.settleM
  split
  ·exact zE _
  ·exact Nat.le_succ _
 ·exact Nat.le_succ _
theorem bC8 (m:Sd.Rd) (t:Nat):(Sd.finN m t).o<=m.o+1:=by
 unfold Sd.finN
 split
 ·unfold Sd.settleM
  split
  ·exact zE _
  ·exact Nat.le_succ _
 ·exact Nat.le_succ _
structure Way (w:World) (f:Ex) (v:Ev) (s:Su) (d:Ed) (t i g nc qc:Nat) (qa:Option Addr) (bgn:Int) (y:Ty) (th no pr bg ah fr:Int):Prop where
 at_:EnAt w f v s d
 ht:t<s.n
 hT:d.T t=some y
 hi:i<d.dn
 hc:d.cr t=#[.slice qa nc qc,.int .i64 bgn,.int .i64 (i:Int)]
 tr:d.tr i=trU (txV y (v.tb t)) th no pr bg ah fr
 pt:v.pt=some ⟨g,0,none⟩
section
variable {w w':World} {f:Ex} {v:Ev} {s:Su} {d:Ed} {t i g nc qc:Nat} {qa:Option Addr} {bgn:Int} {y:Ty} {th no pr bg ah fr N:Int}
theorem Way.on (h:Way w f v s d t i g nc qc qa bgn y th no pr bg ah fr) (k:Bl w w'):Way w' f v s d t i g nc qc qa bgn y th no pr bg ah fr:=⟨h.at_.on k,h.ht,h.hT,h.hi,h.hc,h.tr,h.pt⟩
theorem Way.up (h:Way w f v s d t i g nc qc qa bgn y th no pr bg ah fr):UpC w g (i*20) (txV y (v.tb t)) th no pr bg ah fr:=h.at_.upC h.hi h.pt h.tr
def goD (d:Ed) (t:Nat) (y:Ty):Ed:={ d with ws:=goW y d.ws,cnt:=(if goA y d.ws then up d.cnt else d.cnt),T:=upT d.T t (some (goS y d.ws)) }
theorem Way.goes (h:Way w f v s d t i g nc qc qa bgn y th no pr bg ah fr) {K:List Nat} (hK:∀ k∈K,k∈v.R) (q:Went w w' (v.tb t) f.mb f.mg (v.G t) K y d.ws d.cnt):∃ L,Way w' f { v with G:=updG v.G t L } s (goD d t y) t i g nc qc qa bgn (goS y d.ws) th no pr bg ah fr/\Ext f v { v with G:=updG v.G t L } w w':=by
 obtain⟨L,k1,k2⟩:=h.at_.goes h.hT hK q;exact⟨L,⟨k1,h.ht,a34 _ _ _,h.hi,h.hc,by rw[ag6];exact h.tr,h.pt⟩,k2⟩
theorem Way.step (h:Way w f v s d t i g nc qc qa bgn y th no pr bg ah fr) (hI:TIn s t N y) (ho:a72 y=false) (hw:okW d.ws) (hl:(d.ws.length:Int)=3+s.b+3*s.a) (hN:N<9223372036854775807):Calls Tryz.prog (bF3 y) #[.pointer (some ⟨v.tb t,0,none⟩),.pointer (some ⟨f.mb,0,none⟩)] w fun e w'=>e=.returned (.tuple #[.bool (a72 (goS y d.ws)),.int .i64 0])/\Hid (∃ L,Way w' f { v with G:=updG v.G t L } s (goD d t y) t i g nc qc qa bgn (goS y d.ws) th no pr bg ah fr/\Ext f v { v with G:=updG v.G t L } w w'):=by
 obtain⟨t8,K,tx,hK⟩:=h.at_.tx t y h.hT;obtain⟨o,hm⟩:=h.at_.mem;have a1:Sep [f.mb,f.mg] (v.G t):=h.at_.apart 1 (t+6) (by omega);have a2:Sep [f.mb,f.mg] K:=fun k hk q=>h.at_.apart 1 5 (by omega) k hk (hK k q)
 have a3:a78 w (f.mb::f.mg::v.G t):=⟨h.at_.fx.tab,fun q=>by
  simp only[List.mem_cons]at q
  rcases q with q | q | q
  ·exact h.at_.apart 5 1 (by omega) _ h.at_.fx.tin (by simp[own,q])
  ·exact h.at_.apart 5 1 (by omega) _ h.at_.fx.tin (by simp[own,q])
  ·exact h.at_.apart 5 (t+6) (by omega) _ h.at_.fx.tin q⟩
 refine(bz6 tx hm a1 a2 a3 hI ho hw hl hN).mono ?_;rintro e w' ⟨rfl,q⟩;exact⟨rfl,h.goes hK q⟩
theorem Way.ahead (h:Way w f v s d t i g nc qc qa bgn y th no pr bg ah fr) (a:Int):EnAt (w.setCell ⟨g,i*20+17,none⟩ (.int .i64 a)) f v s { d with tr:=updA d.tr i (trU (txV y (v.tb t)) th no pr bg a fr) }/\Ext f v v w (w.setCell ⟨g,i*20+17,none⟩ (.int .i64 a)):=by
 obtain⟨g',e',hm,A⟩:=h.at_.arr (by have:=h.hi;omega);obtain rfl:g'=g:=by
  have:=e'.symm.trans h.pt;injection this with this;injection this
 have:=h.at_.turned e' hm (a24 _ _ _ _) (A.put h.hi (j:=17) (by omega) (.int .i64 a));rw[h.tr]at this;exact this
theorem Way.rest (h:Way w f v s d t i g nc qc qa bgn y th no pr bg ah fr):EnAt (w.setCell ⟨f.gc,t*3+2,none⟩ (.int .i64 (-1))) f v s { d with cr:=updA d.cr t #[.slice qa nc qc,.int .i64 bgn,.int .i64 (-1)] }/\Ext f v v w (w.setCell ⟨f.gc,t*3+2,none⟩ (.int .i64 (-1))):=by
 have:=h.at_.setC h.ht (j:=2) (by omega) (by omega) (.int .i64 (-1));rw[h.hc]at this;exact this
theorem bp8 (h:Way w f v s d t i g nc qc qa bgn y th no pr bg ah fr) (hs:SuIn s) (hI:TIn s t N y) (ho:a72 y=false) (hw:okW d.ws) (hl:(d.ws.length:Int)=3+s.b+3*s.a) (hN:N<9223372036854775807) (hdn:d.dn<=512) (hrn:d.rd.n=s.n) (hro:d.rd.o<9223372036854775806) (hov:a72 (goS y d.ws)=false) (hne:(bg == d.N)=false):Calls Tryz.prog 44 #[.pointer (some ⟨f.b,0,none⟩),.int .i64 (t:Int)] w fun r w'=>r=.returned (.tuple #[])/\Hid (∃ v',v'.tb=v.tb/\EnAt w' f v' s { goD d t y with rd:=Sd.stepN d.rd t }/\Ext f v v' w w'):=by
 have h8:(s.n:Int)<=8:=by have:=hs.nb;have:=hs.b8;omega
 have hti:(t:Int)<(s.n:Int):=by have:=h.ht;omega
 have hii:(i:Int)<(d.dn:Int):=by have:=h.hi;omega
 have hdi:(d.dn:Int)<=512:=by omega
 have HH:=zH h;have HST:=zH (fun u (k:Bl w u)=>(h.on k).step hI ho hw hl hN);rw[hov]at HST;have HI1:=zH (hI.goes ho hw).1;obtain⟨c0,c1,c2,lc⟩:=h.at_.course h.ht h.hc;have k13:=(h.at_.cell 13).trans (rfl:_=some (Value.slice (some ⟨f.gc,0,none⟩) s.n s.n));have k14:=(h.at_.cell 14).trans (rfl:_=some (Value.slice v.pt d.dn v.ct));rw[h.pt]at k14;have lb:=h.at_.ltB;clear h hI ho hw hl hN;go_enter Tryz.func44,Tryz.ntmps44
 go_upto_region 1 with fail
 go_cut [5] (fun v5 wc=>v5=.pointer (some ⟨g,i*20,none⟩)/\Hid (wc=w.drew))
 case first =>
  refine a05 (fun u=>u.cell? ⟨f.b,14,none⟩=some (.slice (some ⟨g,0,none⟩) d.dn v.ct)/\u.cell? ⟨f.gc,t*3+2,none⟩=some (.int .i64 (i:Int)) )  ((0,true)::(1,true)::(2,true)::(3,true)::(4,true)::(5,true)::(6,true)::(7,true)::(8,true)::(9,true)::[])  Md.Cv.follows13 (by kernel_rfl) (fun _ _ _ _ _ h=>h)  ⟨k14,c2⟩ ?_
  (repeat ((first | (refine a02 (v:=?_) rfl (by rfl) (fun wq hSq=>?_) ?_;rotate_left;(focus ((try dsimp only at hSq);go_simp;try with_reducible rfl))) | refine a03 rfl (by rfl) ?_);simp only[Act.put,zA,zB,zC]))
  refine a07 ?_;go_wp2_with fail
  go_meet
  exact⟨rfl,rfl⟩
 case rest =>
  obtain⟨rfl,HW⟩:=hcut;have H1:Hid (Way wc f v s d t i g nc qc qa bgn y th no pr bg ah fr/\Ext f v v w wc/\Bl w wc):=by
   rw[HW.out];exact⟨HH.out.on ((Same.drew w).below _),Ext.of_below ((Same.drew w).below _),(Same.drew w).below _⟩
  clear HW HH c0 c1 c2 lc k13 k14 lb
  go_upto_region 2 with fail
  go_cut [6,7] (fun v6 v7 wd=>v6=.bool false/\v7=.int .i64 0/\Hid (∃ L,Way wd f { v with G:=updG v.G t L } s (goD d t y) t i g nc qc qa bgn (goS y d.ws) th no pr bg ah fr/\Ext f v { v with G:=updG v.G t L } w wd))
  case first =>
   have HS:Hid (∀ u L (d':Ed) y',Way u f { v with G:=L } s d' t i g nc qc qa bgn y' th no pr bg ah fr->txV y' (v.tb t)=txV y (v.tb t)->(u.cell? ⟨g,i*20,none⟩=some (txV y (v.tb t))/\u.cell? ⟨f.b,11,none⟩=some (.pointer (some ⟨f.mb,0,none⟩)))/\g<u.heap.size/\f.b<u.heap.size):=fun u L d' y' q e=>⟨⟨by rw[<- e];exact q.up.c0,(q.at_.cell 11).trans rfl⟩,q.up.lt,q.at_.ltB⟩
   obtain⟨⟨e0,e11⟩,lg,lb⟩:=HS.out wc v.G d y H1.out.1 rfl;have HST2:=zH (HST.out wc.drew (H1.out.2.2.trans ((Same.drew wc).below _)));clear HST
   rcases y with⟨m,x⟩ | ⟨m,x⟩
   ·refine a05 (fun u=>u.cell? ⟨g,i*20,none⟩=some (.iface 192 (.pointer (some ⟨v.tb t,0,none⟩)))/\u.cell? ⟨f.b,11,none⟩=some (.pointer (some ⟨f.mb,0,none⟩)) )  ((0,true)::(1,true)::(2,true)::(3,true)::(4,true)::(5,true)::(6,true)::(7,true)::(8,true)::(9,true)::(10,false)::(11,true)::(12,true)::(13,true)::(14,true)::(15,true)::[])  Md.Cv.follows13 (by kernel_rfl) (fun _ _ _ _ _ h=>h)  ⟨e0,e11⟩ ?_
    (repeat ((first | (refine a02 (v:=?_) rfl (by rfl) (fun wq hSq=>?_) ?_;rotate_left;(focus ((try dsimp only at hSq);go_simp;try with_reducible rfl))) | refine a03 rfl (by rfl) ?_);simp only[Act.put,zA,zB,zC]))
    (refine a04 rfl (by rfl) (fun KK hK=>?_);go_simp)
    go_invoke
    go_simp
    refine HST2.out.mono ?_;rintro r wd ⟨rfl,q⟩;obtain⟨L,q1,q2⟩:=q.out;have HQ:=zH (And.intro q1 q2);clear q q1 q2;refine hK.out _ _ (HS.out _ _ _ _ HQ.out.1 (ag6 _ _ _)).1 ?_
    (clear hK KK;try simp only[Act.put,zA,zB,zC])
    (repeat ((first | (refine a02 (v:=?_) rfl (by rfl) (fun wq hSq=>?_) ?_;rotate_left;(focus ((try dsimp only at hSq);go_simp;try with_reducible rfl))) | refine a03 rfl (by rfl) ?_);simp only[Act.put,zA,zB,zC]))
    refine a07 ?_;go_wp2_with fail
    go_meet
    exact⟨rfl,rfl,L,HQ.out.1,(H1.out.2.1.trans (Ext.of_below ((Same.drew wc).below _))).trans HQ.out.2⟩
   ·refine a05 (fun u=>u.cell? ⟨g,i*20,none⟩=some (.iface 190 (.pointer (some ⟨v.tb t,0,none⟩)))/\u.cell? ⟨f.b,11,none⟩=some (.pointer (some ⟨f.mb,0,none⟩)) )  ((0,true)::(1,true)::(2,true)::(3,true)::(4,true)::(5,true)::(6,true)::(7,true)::(8,true)::(9,true)::(10,false)::(11,true)::(12,true)::(13,true)::(14,true)::(15,true)::[])  Md.Cv.follows13 (by kernel_rfl) (fun _ _ _ _ _ h=>h)  ⟨e0,e11⟩ ?_
    (repeat ((first | (refine a02 (v:=?_) rfl (by rfl) (fun wq hSq=>?_) ?_;rotate_left;(focus ((try dsimp only at hSq);go_simp;try with_reducible rfl))) | refine a03 rfl (by rfl) ?_);simp only[Act.put,zA,zB,zC]))
    (refine a04 rfl (by rfl) (fun KK hK=>?_);go_simp)
    go_invoke
    go_simp
    refine HST2.out.mono ?_;rintro r wd ⟨rfl,q⟩;obtain⟨L,q1,q2⟩:=q.out;have HQ:=zH (And.intro q1 q2);clear q q1 q2;refine hK.out _ _ (HS.out _ _ _ _ HQ.out.1 (ag6 _ _ _)).1 ?_
    (clear hK KK;try simp only[Act.put,zA,zB,zC])
    (repeat ((first | (refine a02 (v:=?_) rfl (by rfl) (fun wq hSq=>?_) ?_;rotate_left;(focus ((try dsimp only at hSq);go_simp;try with_reducible rfl))) | refine a03 rfl (by rfl) ?_);simp only[Act.put,zA,zB,zC]))
    refine a07 ?_;go_wp2_with fail
    go_meet
    exact⟨rfl,rfl,L,HQ.out.1,(H1.out.2.1.trans (Ext.of_below ((Same.drew wc).below _))).trans HQ.out.2⟩
  case rest =>
   obtain⟨rfl,rfl,HW⟩:=hcut;obtain⟨L,q1,q2⟩:=HW.out;have HQ:=zH (And.intro q1 q2);obtain⟨v1,hv1⟩:∃ v1,v1={ v with G:=updG v.G t L }:=⟨_,rfl⟩
   have HV1:Hid (v1.tb=v.tb):=by rw[hv1];trivial
   rw[<- hv1]at HQ q1;have c14:=q1.up.c14;have k15:=(q1.at_.cell 15).trans (rfl:_=some (Value.int .i64 d.N));have k12:=(q1.at_.cell 12).trans (rfl:_=some (Value.pointer (some ⟨f.rb,0,none⟩)));have lb:=q1.at_.ltB;have lg:=q1.up.lt;clear q1 q2 HW hv1 H1 HST;have HR:Hid (Calls Tryz.prog 82 #[.pointer (some ⟨f.rb,0,none⟩),.int .i64 (t:Int)] wc.drew fun e w'=>e=.returned (.int .i64 0)/\Hid (EnAt w' f v1 s { goD d t y with rd:=Sd.stepN d.rd t }/\Ext f v v1 w w')):=by
    have h1:=HQ.out.1.at_.same (Same.drew wc);refine(Sd.step_in h1.rds t (by show t<d.rd.n;rw[hrn];exact HQ.out.1.ht) (by show d.rd.n<=8;omega) (by show d.rd.o<_;omega)).mono ?_;rintro e w' ⟨rfl,r1,r2⟩;obtain⟨h2,x2⟩:=h1.setR r2 r1;exact⟨rfl,h2,(HQ.out.2.trans (Ext.of_below ((Same.drew wc).below _))).trans x2⟩
   have HN:Hid (∀ u,EnAt u f v1 s { goD d t y with rd:=Sd.stepN d.rd t }/\Ext f v v1 w u->Calls Tryz.prog 70 #[.pointer (some ⟨f.b,0,none⟩),.int .i64 (t:Int)] u fun r w'=>r=.returned (.tuple #[])/\Hid (EnAt w' f v1 s { goD d t y with rd:=Sd.stepN d.rd t }/\Ext f v v1 w w')):=fun u hu=>by
    have hf:finI bgn (i:Int) nc=false:=by unfold finI;rw[zU (by omega)];rfl
    have o2:=(aM2 d.rd t);refine(ar3 hu.1 hs HQ.out.1.ht ((aM1 d.rd t).trans hrn) (by show (Sd.stepN d.rd t).o<_;omega) HQ.out.1.hc).mono ?_;rintro r w' ⟨rfl,q⟩;have q:=q.out;rw[hf]at q;exact⟨rfl,q.1,hu.2.trans q.2⟩
   go_upto_region 3 with fail
   refine a05 (fun u=>u.cell? ⟨g,i*20+14,none⟩=some (.int .i64 bg)/\u.cell? ⟨f.b,15,none⟩=some (.int .i64 d.N) )  ((0,true)::(1,true)::(2,true)::(3,true)::(4,true)::(5,true)::(6,true)::(7,true)::(8,true)::(9,true)::[])  Md.Cv.follows13 (by kernel_rfl) (fun _ _ _ _ _ h=>h)  ⟨c14,k15⟩ ?_
   (repeat ((first | (refine a02 (v:=?_) rfl (by rfl) (fun wq hSq=>?_) ?_;rotate_left;(focus ((try dsimp only at hSq);go_simp;try with_reducible rfl))) | refine a03 rfl (by rfl) ?_);simp only[Act.put,zA,zB,zC]))
   refine a07 ?_
   go_wp2_with (first
    | (go_at_call 70;refine(HN.out _ H3.out).mono ?_;rintro r w4 ⟨rfl,q⟩;have H4:=zH q.out;clear q HN)
    | (go_at_call 82;refine HR.out.mono ?_;rintro r w3 ⟨rfl,q⟩;have H3:=zH q.out;clear q HR c14 k15 k12 lg lb;have lb:=H3.out.1.ltB))
   go_end0
   exact⟨rfl,v1,HV1.out,H4.out.1,H4.out.2⟩
theorem aW3 (h:Way w f v s d t i g nc qc qa bgn y th no pr bg ah fr) (hs:SuIn s) (hI:TIn s t N y) (ho:a72 y=false) (hw:okW d.ws) (hl:(d.ws.length:Int)=3+s.b+3*s.a) (hN:N<9223372036854775807) (hdn:d.dn<=512) (hrn:d.rd.n=s.n) (hro:d.rd.o<9223372036854775806) (hov:a72 (goS y d.ws)=false) (hne:(bg == d.N)=true) (h1:∀ m x,goS y d.ws=.inr (m,x)->x.part≠1):Calls Tryz.prog 44 #[.pointer (some ⟨f.b,0,none⟩),.int .i64 (t:Int)] w fun r w'=>r=.returned (.tuple #[])/\Hid (∃ v',v'.tb=v.tb/\EnAt w' f v' s { goD d t y with tr:=updA d.tr i (trU (txV y (v.tb t)) th no pr bg (aw3 (goW y d.ws) (goS y d.ws)) fr),rd:=Sd.stepN d.rd t }/\Ext f v v' w w'):=by
 have h8:(s.n:Int)<=8:=by have:=hs.nb;have:=hs.b8;omega
 have hti:(t:Int)<(s.n:Int):=by have:=h.ht;omega
 have hii:(i:Int)<(d.dn:Int):=by have:=h.hi;omega
 have hdi:(d.dn:Int)<=512:=by omega
 have HH:=zH h;have HST:=zH (fun u (k:Bl w u)=>(h.on k).step hI ho hw hl hN);rw[hov]at HST;have HI1:=zH (hI.goes ho hw).1;obtain⟨c0,c1,c2,lc⟩:=h.at_.course h.ht h.hc;have k13:=(h.at_.cell 13).trans (rfl:_=some (Value.slice (some ⟨f.gc,0,none⟩) s.n s.n));have k14:=(h.at_.cell 14).trans (rfl:_=some (Value.slice v.pt d.dn v.ct));rw[h.pt]at k14;have lb:=h.at_.ltB;clear h hI ho hw hl hN;go_enter Tryz.func44,Tryz.ntmps44
 go_upto_region 1 with fail
 go_cut [5] (fun v5 wc=>v5=.pointer (some ⟨g,i*20,none⟩)/\Hid (wc=w.drew))
 case first =>
  refine a05 (fun u=>u.cell? ⟨f.b,14,none⟩=some (.slice (some ⟨g,0,none⟩) d.dn v.ct)/\u.cell? ⟨f.gc,t*3+2,none⟩=some (.int .i64 (i:Int)) )  ((0,true)::(1,true)::(2,true)::(3,true)::(4,true)::(5,true)::(6,true)::(7,true)::(8,true)::(9,true)::[])  Md.Cv.follows13 (by kernel_rfl) (fun _ _ _ _ _ h=>h)  ⟨k14,c2⟩ ?_
  (repeat ((first | (refine a02 (v:=?_) rfl (by rfl) (fun wq hSq=>?_) ?_;rotate_left;(focus ((try dsimp only at hSq);go_simp;try with_reducible rfl))) | refine a03 rfl (by rfl) ?_);simp only[Act.put,zA,zB,zC]))
  refine a07 ?_;go_wp2_with fail
  go_meet
  exact⟨rfl,rfl⟩
 case rest =>
  obtain⟨rfl,HW⟩:=hcut;have H1:Hid (Way wc f v s d t i g nc qc qa bgn y th no pr bg ah fr/\Ext f v v w wc/\Bl w wc):=by
   rw[HW.out];exact⟨HH.out.on ((Same.drew w).below _),Ext.of_below ((Same.drew w).below _),(Same.drew w).below _⟩
  clear HW HH c0 c1 c2 lc k13 k14 lb
  go_upto_region 2 with fail
  go_cut [6,7] (fun v6 v7 wd=>v6=.bool false/\v7=.int .i64 0/\Hid (∃ L,Way wd f { v with G:=updG v.G t L } s (goD d t y) t i g nc qc qa bgn (goS y d.ws) th no pr bg ah fr/\Ext f v { v with G:=updG v.G t L } w wd))
  case first =>
   have HS:Hid (∀ u L (d':Ed) y',Way u f { v with G:=L } s d' t i g nc qc qa bgn y' th no pr bg ah fr->txV y' (v.tb t)=txV y (v.tb t)->(u.cell? ⟨g,i*20,none⟩=some (txV y (v.tb t))/\u.cell? ⟨f.b,11,none⟩=some (.pointer (some ⟨f.mb,0,none⟩)))/\g<u.heap.size/\f.b<u.heap.size):=fun u L d' y' q e=>⟨⟨by rw[<- e];exact q.up.c0,(q.at_.cell 11).trans rfl⟩,q.up.lt,q.at_.ltB⟩
   obtain⟨⟨e0,e11⟩,lg,lb⟩:=HS.out wc v.G d y H1.out.1 rfl;have HST2:=zH (HST.out wc.drew (H1.out.2.2.trans ((Same.drew wc).below _)));clear HST
   rcases y with⟨m,x⟩ | ⟨m,x⟩
   ·refine a05 (fun u=>u.cell? ⟨g,i*20,none⟩=some (.iface 192 (.pointer (some ⟨v.tb t,0,none⟩)))/\u.cell? ⟨f.b,11,none⟩=some (.pointer (some ⟨f.mb,0,none⟩)) )  ((0,true)::(1,true)::(2,true)::(3,true)::(4,true)::(5,true)::(6,true)::(7,true)::(8,true)::(9,true)::(10,false)::(11,true)::(12,true)::(13,true)::(14,true)::(15,true)::[])  Md.Cv.follows13 (by kernel_rfl) (fun _ _ _ _ _ h=>h)  ⟨e0,e11⟩ ?_
    (repeat ((first | (refine a02 (v:=?_) rfl (by rfl) (fun wq hSq=>?_) ?_;rotate_left;(focus ((try dsimp only at hSq);go_simp;try with_reducible rfl))) | refine a03 rfl (by rfl) ?_);simp only[Act.put,zA,zB,zC]))
    (refine a04 rfl (by rfl) (fun KK hK=>?_);go_simp)
    go_invoke
    go_simp
    refine HST2.out.mono ?_;rintro r wd ⟨rfl,q⟩;obtain⟨L,q1,q2⟩:=q.out;have HQ:=zH (And.intro q1 q2);clear q q1 q2;refine hK.out _ _ (HS.out _ _ _ _ HQ.out.1 (ag6 _ _ _)).1 ?_
    (clear hK KK;try simp only[Act.put,zA,zB,zC])
    (repeat ((first | (refine a02 (v:=?_) rfl (by rfl) (fun wq hSq=>?_) ?_;rotate_left;(focus ((try dsimp only at hSq);go_simp;try with_reducible rfl))) | refine a03 rfl (by rfl) ?_);simp only[Act.put,zA,zB,zC]))
    refine a07 ?_;go_wp2_with fail
    go_meet
    exact⟨rfl,rfl,L,HQ.out.1,(H1.out.2.1.trans (Ext.of_below ((Same.drew wc).below _))).trans HQ.out.2⟩
   ·refine a05 (fun u=>u.cell? ⟨g,i*20,none⟩=some (.iface 190 (.pointer (some ⟨v.tb t,0,none⟩)))/\u.cell? ⟨f.b,11,none⟩=some (.pointer (some ⟨f.mb,0,none⟩)) )  ((0,true)::(1,true)::(2,true)::(3,true)::(4,true)::(5,true)::(6,true)::(7,true)::(8,true)::(9,true)::(10,false)::(11,true)::(12,true)::(13,true)::(14,true)::(15,true)::[])  Md.Cv.follows13 (by kernel_rfl) (fun _ _ _ _ _ h=>h)  ⟨e0,e11⟩ ?_
    (repeat ((first | (refine a02 (v:=?_) rfl (by rfl) (fun wq hSq=>?_) ?_;rotate_left;(focus ((try dsimp only at hSq);go_simp;try with_reducible rfl))) | refine a03 rfl (by rfl) ?_);simp only[Act.put,zA,zB,zC]))
    (refine a04 rfl (by rfl) (fun KK hK=>?_);go_simp)
    go_invoke
    go_simp
    refine HST2.out.mono ?_;rintro r wd ⟨rfl,q⟩;obtain⟨L,q1,q2⟩:=q.out;have HQ:=zH (And.intro q1 q2);clear q q1 q2;refine hK.out _ _ (HS.out _ _ _ _ HQ.out.1 (ag6 _ _ _)).1 ?_
    (clear hK KK;try simp only[Act.put,zA,zB,zC])
    (repeat ((first | (refine a02 (v:=?_) rfl (by rfl) (fun wq hSq=>?_) ?_;rotate_left;(focus ((try dsimp only at hSq);go_simp;try with_reducible rfl))) | refine a03 rfl (by rfl) ?_);simp only[Act.put,zA,zB,zC]))
    refine a07 ?_;go_wp2_with fail
    go_meet
    exact⟨rfl,rfl,L,HQ.out.1,(H1.out.2.1.trans (Ext.of_below ((Same.drew wc).below _))).trans HQ.out.2⟩
  case rest =>
   obtain⟨rfl,rfl,HW⟩:=hcut;obtain⟨L,q1,q2⟩:=HW.out;have HQ:=zH (And.intro q1 q2);obtain⟨v1,hv1⟩:∃ v1,v1={ v with G:=updG v.G t L }:=⟨_,rfl⟩
   have HV1:Hid (v1.tb=v.tb):=by rw[hv1];trivial
   rw[<- hv1]at HQ q1;have c14:=q1.up.c14;have k15:=(q1.at_.cell 15).trans (rfl:_=some (Value.int .i64 d.N));have k12:=(q1.at_.cell 12).trans (rfl:_=some (Value.pointer (some ⟨f.rb,0,none⟩)));have lb:=q1.at_.ltB;have lg:=q1.up.lt;clear q1 q2 HW hv1 H1 HST;obtain⟨p4,hp4⟩:∃ p4,3+s.b=p4:=⟨_,rfl⟩
   obtain⟨p5,hp5⟩:∃ p5,p4+3*s.a=p5:=⟨_,rfl⟩
   obtain⟨A,hA⟩:∃ A,aw3 (goW y d.ws) (goS y d.ws)=A:=⟨_,rfl⟩
   have HS:Hid (∀ u,Bl wc u->((u.cell? ⟨g,i*20,none⟩=some (txV y (v.tb t))/\u.cell? ⟨f.b,11,none⟩=some (.pointer (some ⟨f.mb,0,none⟩))/\u.cell? ⟨f.b,5,none⟩=some (.int .i64 0)/\u.cell? ⟨f.b,6,none⟩=some (.int .i64 1)/\u.cell? ⟨f.b,7,none⟩=some (.int .i64 2)/\u.cell? ⟨f.b,8,none⟩=some (.int .i64 3)/\u.cell? ⟨f.b,9,none⟩=some (.int .i64 p4)/\u.cell? ⟨f.b,10,none⟩=some (.int .i64 p5))/\u.cell? ⟨g,i*20+1+16,none⟩=some (.int .i64 ah)/\u.frozen? ⟨g,i*20+1+16,none⟩=false/\g<u.heap.size)):=fun u hu=>by
    have z:=HQ.out.1.on hu;have c0:=z.up.c0;rw[ag6,HV1.out]at c0;obtain⟨g',e',_,Ar⟩:=z.at_.arr (by have:=z.hi;omega);obtain rfl:g'=g:=by
     have:=e'.symm.trans z.pt;injection this with this;injection this
    refine⟨⟨c0,(z.at_.cell 11).trans rfl,(z.at_.cell 5).trans rfl,(z.at_.cell 6).trans rfl,(z.at_.cell 7).trans rfl,(z.at_.cell 8).trans rfl,(z.at_.cell 9).trans ?_,(z.at_.cell 10).trans ?_⟩,z.up.c17,Ar.free _,z.up.lt⟩
    ·rw[<- hp4];rfl
    ·rw[<- hp5,<- hp4];rfl
   have HAH:Hid (∀ u,Bl wc u->Calls Tryz.prog 81 #[txV y (v.tb t),.pointer (some ⟨f.mb,0,none⟩),plV p4 p5] u fun r w'=>r=.returned (.int .i64 A)/\Bl u w'):=fun u hu=>by
    have z:=HQ.out.1.on hu;obtain⟨_,K,tx,_⟩:=z.at_.tx t _ z.hT;obtain⟨o,hm⟩:=z.at_.mem;have:=ahead_any (p4:=p4) (p5:=p5) tx HI1.out h1 hm;rw[ag6,HV1.out]at this;rw[<- hA];exact this
   have HP:Hid (∀ u,Bl wc u->EnAt (u.setCell ⟨g,i*20+1+16,none⟩ (.int .i64 A)) f v1 s { goD d t y with tr:=updA d.tr i (trU (txV y (v.tb t)) th no pr bg A fr) }/\Ext f v v1 w (u.setCell ⟨g,i*20+1+16,none⟩ (.int .i64 A))):=fun u hu=>by
    have z:=(HQ.out.1.on hu).ahead A;rw[ag6,HV1.out]at z;exact⟨z.1,(HQ.out.2.trans (Ext.of_below hu)).trans z.2⟩
   have HR:Hid (∀ u,EnAt u f v1 s { goD d t y with tr:=updA d.tr i (trU (txV y (v.tb t)) th no pr bg A fr) }/\Ext f v v1 w u->Calls Tryz.prog 82 #[.pointer (some ⟨f.rb,0,none⟩),.int .i64 (t:Int)] u fun e w'=>e=.returned (.int .i64 0)/\Hid (EnAt w' f v1 s { goD d t y with tr:=updA d.tr i (trU (txV y (v.tb t)) th no pr bg A fr),rd:=Sd.stepN d.rd t }/\Ext f v v1 w w')):=fun u hu=>by
    refine(Sd.step_in hu.1.rds t (by show t<d.rd.n;rw[hrn];exact HQ.out.1.ht) (by show d.rd.n<=8;omega) (by show d.rd.o<_;omega)).mono ?_;rintro e w' ⟨rfl,r1,r2⟩;obtain⟨h2,x2⟩:=hu.1.setR r2 r1;exact⟨rfl,h2,hu.2.trans x2⟩
   have HN:Hid (∀ u,EnAt u f v1 s { goD d t y with tr:=updA d.tr i (trU (txV y (v.tb t)) th no pr bg A fr),rd:=Sd.stepN d.rd t }/\Ext f v v1 w u->Calls Tryz.prog 70 #[.pointer (some ⟨f.b,0,none⟩),.int .i64 (t:Int)] u fun r w'=>r=.returned (.tuple #[])/\Hid (EnAt w' f v1 s { goD d t y with tr:=updA d.tr i (trU (txV y (v.tb t)) th no pr bg A fr),rd:=Sd.stepN d.rd t }/\Ext f v v1 w w')):=fun u hu=>by
    have hf:finI bgn (i:Int) nc=false:=by unfold finI;rw[zU (by omega)];rfl
    have o2:=(aM2 d.rd t);refine(ar3 hu.1 hs HQ.out.1.ht ((aM1 d.rd t).trans hrn) (by show (Sd.stepN d.rd t).o<_;omega) HQ.out.1.hc).mono ?_;rintro r w' ⟨rfl,q⟩;have q:=q.out;rw[hf]at q;exact⟨rfl,q.1,hu.2.trans q.2⟩
   have HAE:=zH hA;clear h1 hA hp4 hp5 HI1
   go_upto_region 3 with fail
   refine a05 (fun u=>u.cell? ⟨g,i*20+14,none⟩=some (.int .i64 bg)/\u.cell? ⟨f.b,15,none⟩=some (.int .i64 d.N) )  ((0,true)::(1,true)::(2,true)::(3,true)::(4,true)::(5,true)::(6,true)::(7,true)::(8,true)::(9,true)::[])  Md.Cv.follows13 (by kernel_rfl) (fun _ _ _ _ _ h=>h)  ⟨c14,k15⟩ ?_
   (repeat ((first | (refine a02 (v:=?_) rfl (by rfl) (fun wq hSq=>?_) ?_;rotate_left;(focus ((try dsimp only at hSq);go_simp;try with_reducible rfl))) | refine a03 rfl (by rfl) ?_);simp only[Act.put,zA,zB,zC]))
   refine a07 ?_;obtain⟨u1,hu1⟩:∃ u1,u1=wc.drew:=⟨_,rfl⟩
   rw[<- hu1];have HU1:Hid (Bl wc u1):=by rw[hu1];exact(Same.drew wc).below _
   clear hu1 c14 k15 k12 lb
   go_upto_region 4 with fail
   refine a05 (fun u=>u.cell? ⟨g,i*20,none⟩=some (txV y (v.tb t))/\u.cell? ⟨f.b,11,none⟩=some (.pointer (some ⟨f.mb,0,none⟩))/\u.cell? ⟨f.b,5,none⟩=some (.int .i64 0)/\u.cell? ⟨f.b,6,none⟩=some (.int .i64 1)/\u.cell? ⟨f.b,7,none⟩=some (.int .i64 2)/\u.cell? ⟨f.b,8,none⟩=some (.int .i64 3)/\u.cell? ⟨f.b,9,none⟩=some (.int .i64 p4)/\u.cell? ⟨f.b,10,none⟩=some (.int .i64 p5) )  ((0,true)::(1,true)::(2,true)::(3,true)::(4,true)::(5,true)::(6,true)::(7,true)::(8,true)::(9,true)::(10,true)::(11,true)::(12,true)::(13,false)::(14,true)::(15,true)::(16,true)::(17,false)::[])  Md.Cv.follows13 (by kernel_rfl) (fun _ _ _ _ _ h=>h)  (HS.out _ (HU1.out.trans ((Same.drew u1).below _))).1 ?_
   (repeat ((first | (refine a02 (v:=?_) rfl (by rfl) (fun wq hSq=>?_) ?_;rotate_left;(focus ((try dsimp only at hSq);go_simp;try with_reducible rfl))) | refine a03 rfl (by rfl) ?_);simp only[Act.put,zA,zB,zC]))
   (refine a04 rfl (by rfl) (fun KK hK=>?_);go_simp)
   refine(HAH.out _ (HU1.out.trans ((Same.drew u1).below _))).mono ?_;rintro r u2 ⟨rfl,q⟩;have HU2:Hid (Bl wc u2):=(HU1.out.trans ((Same.drew u1).below _)).trans (q.mono HU1.out.size);clear q;obtain⟨sa,s17,f17,lg2⟩:=HS.out _ HU2.out;refine hK.out _ _ sa ?_;clear sa
   (clear hK KK;try simp only[Act.put,zA,zB,zC])
   (repeat ((first | (refine a02 (v:=?_) rfl (by rfl) (fun wq hSq=>?_) ?_;rotate_left;(focus ((try dsimp only at hSq);go_simp;try with_reducible rfl))) | refine a03 rfl (by rfl) ?_);simp only[Act.put,zA,zB,zC]))
   (refine a04 rfl (by rfl) (fun KK hK=>?_);go_simp)
   have HE:=zH (HP.out _ HU2.out);have sb:(u2.setCell ⟨g,i*20+1+16,none⟩ (.int .i64 A)).cell? ⟨g,i*20,none⟩=some (txV y (v.tb t)):=by
    rw[World.cell?_setCell_other _ _ _ _ (by intro e;injection e with _ e _;omega)];exact(HS.out _ HU2.out).1.1
   have sc:∀ j,(u2.setCell ⟨g,i*20+1+16,none⟩ (.int .i64 A)).cell? ⟨f.b,j,none⟩=u2.cell? ⟨f.b,j,none⟩:=fun j=>World.cell?_setCell_other _ _ _ _ (by intro e;injection e with e _ _;exact HQ.out.1.at_.apart 0 4 (by omega) f.b (by simp[own]) (by simp[own,HQ.out.1.pt,fpR,e]))
   obtain⟨_,s11,s5,s6,s7,s8,s9,s10⟩:=(HS.out _ HU2.out).1;refine hK.out _ _ ⟨sb,(sc _).trans s11,(sc _).trans s5,(sc _).trans s6,(sc _).trans s7,(sc _).trans s8,(sc _).trans s9,(sc _).trans s10⟩ ?_;clear sb sc s11 s5 s6 s7 s8 s9 s10
   (clear hK KK;try simp only[Act.put])
   refine a07 ?_;obtain⟨u3,hu3⟩:∃ u3,u3=u2.setCell ⟨g,i*20+1+16,none⟩ (.int .i64 A):=⟨_,rfl⟩
   rw[<- hu3]at HE ⊢;clear hu3 s17 f17 lg2 HS HAH HP;have k12:=(HE.out.1.cell 12).trans (rfl:_=some (Value.pointer (some ⟨f.rb,0,none⟩)));have lb:=HE.out.1.ltB
   go_wp2_with (first
    | (go_at_call 70;refine(HN.out _ H3.out).mono ?_;rintro r w4 ⟨rfl,q⟩;have H4:=zH q.out;clear q HN)
    | (go_at_call 82;refine(HR.out _ HE.out).mono ?_;rintro r w3 ⟨rfl,q⟩;have H3:=zH q.out;clear q HR k12 lb;have lb:=H3.out.1.ltB))
   go_end0
   refine⟨rfl,v1,HV1.out,?_,H4.out.2⟩;rw[HAE.out];exact H4.out.1
end
section
variable {w w':World} {f:Ex} {v:Ev} {s:Su} {d:Ed} {t i g nc qc:Nat} {qa:Option Addr} {bgn:Int} {y:Ty} {th no pr bg ah fr N:Int}
theorem ba8 (h:Way w f v s d t i g nc qc qa bgn y th no pr bg ah fr) (hs:SuIn s) (hI:TIn s t N y) (ho:a72 y=false) (hw:okW d.ws) (hl:(d.ws.length:Int)=3+s.b+3*s.a) (hN:N<9223372036854775807) (hdn:d.dn<=512) (hrn:d.rd.n=s.n) (hro:d.rd.o<9223372036854775806) (hov:a72 (goS y d.ws)=true) (hne:(bg == d.N)=false) {rd':Sd.Rd} (hrd:(if finI bgn (-1) nc then Sd.finN (Sd.stepN d.rd t) t else Sd.stepN d.rd t)=rd'):Calls Tryz.prog 44 #[.pointer (some ⟨f.b,0,none⟩),.int .i64 (t:Int)] w fun r w'=>r=.returned (.tuple #[])/\Hid (∃ v' D,v'.tb=v.tb/\EnAt w' f v' s { goD d t y with T:=upT d.T t none,cr:=updA d.cr t #[.slice qa nc qc,.int .i64 bgn,.int .i64 (-1)],rd:=rd',tr:=updA d.tr i (trO (goS y d.ws) D th no pr bg d.N ah fr rd'.o),L:=fun j=>if j=i then some (D,af0 (goS y d.ws),macT (goS y d.ws)) else d.L j }/\Ext f v v' w w'):=by
 have h8:(s.n:Int)<=8:=by have:=hs.nb;have:=hs.b8;omega
 have hti:(t:Int)<(s.n:Int):=by have:=h.ht;omega
 have hii:(i:Int)<(d.dn:Int):=by have:=h.hi;omega
 have hdi:(d.dn:Int)<=512:=by omega
 have HRD:=zH hrd;clear hrd;have HH:=zH h;have HST:=zH (fun u (k:Bl w u)=>(h.on k).step hI ho hw hl hN);rw[hov]at HST;have HI1:=zH (hI.goes ho hw).1;obtain⟨c0,c1,c2,lc⟩:=h.at_.course h.ht h.hc;have k13:=(h.at_.cell 13).trans (rfl:_=some (Value.slice (some ⟨f.gc,0,none⟩) s.n s.n));have k14:=(h.at_.cell 14).trans (rfl:_=some (Value.slice v.pt d.dn v.ct));rw[h.pt]at k14;have lb:=h.at_.ltB;clear h hI ho hw hl hN;go_enter Tryz.func44,Tryz.ntmps44
 go_upto_region 1 with fail
 go_cut [5] (fun v5 wc=>v5=.pointer (some ⟨g,i*20,none⟩)/\Hid (wc=w.drew))
 case first =>
  refine a05 (fun u=>u.cell? ⟨f.b,14,none⟩=some (.slice (some ⟨g,0,none⟩) d.dn v.ct)/\u.cell? ⟨f.gc,t*3+2,none⟩=some (.int .i64 (i:Int)) )  ((0,true)::(1,true)::(2,true)::(3,true)::(4,true)::(5,true)::(6,true)::(7,true)::(8,true)::(9,true)::[])  Md.Cv.follows13 (by kernel_rfl) (fun _ _ _ _ _ h=>h)  ⟨k14,c2⟩ ?_
  (repeat ((first | (refine a02 (v:=?_) rfl (by rfl) (fun wq hSq=>?_) ?_;rotate_left;(focus ((try dsimp only at hSq);go_simp;try with_reducible rfl))) | refine a03 rfl (by rfl) ?_);simp only[Act.put,zA,zB,zC]))
  refine a07 ?_;go_wp2_with fail
  go_meet
  exact⟨rfl,rfl⟩
 case rest =>
  obtain⟨rfl,HW⟩:=hcut;have H1:Hid (Way wc f v s d t i g nc qc qa bgn y th no pr bg ah fr/\Ext f v v w wc/\Bl w wc):=by
   rw[HW.out];exact⟨HH.out.on ((Same.drew w).below _),Ext.of_below ((Same.drew w).below _),(Same.drew w).below _⟩
  clear HW HH c0 c1 c2 lc k13 k14 lb
  go_upto_region 2 with fail
  go_cut [6,7] (fun v6 v7 wd=>v6=.bool true/\v7=.int .i64 0/\Hid (∃ L,Way wd f { v with G:=updG v.G t L } s (goD d t y) t i g nc qc qa bgn (goS y d.ws) th no pr bg ah fr/\Ext f v { v with G:=updG v.G t L } w wd))
  case first =>
   have HS:Hid (∀ u L (d':Ed) y',Way u f { v with G:=L } s d' t i g nc qc qa bgn y' th no pr bg ah fr->txV y' (v.tb t)=txV y (v.tb t)->(u.cell? ⟨g,i*20,none⟩=some (txV y (v.tb t))/\u.cell? ⟨f.b,11,none⟩=some (.pointer (some ⟨f.mb,0,none⟩)))/\g<u.heap.size/\f.b<u.heap.size):=fun u L d' y' q e=>⟨⟨by rw[<- e];exact q.up.c0,(q.at_.cell 11).trans rfl⟩,q.up.lt,q.at_.ltB⟩
   obtain⟨⟨e0,e11⟩,lg,lb⟩:=HS.out wc v.G d y H1.out.1 rfl;have HST2:=zH (HST.out wc.drew (H1.out.2.2.trans ((Same.drew wc).below _)));clear HST
   rcases y with⟨m,x⟩ | ⟨m,x⟩
   ·refine a05 (fun u=>u.cell? ⟨g,i*20,none⟩=some (.iface 192 (.pointer (some ⟨v.tb t,0,none⟩)))/\u.cell? ⟨f.b,11,none⟩=some (.pointer (some ⟨f.mb,0,none⟩)) )  ((0,true)::(1,true)::(2,true)::(3,true)::(4,true)::(5,true)::(6,true)::(7,true)::(8,true)::(9,true)::(10,false)::(11,true)::(12,true)::(13,true)::(14,true)::(15,true)::[])  Md.Cv.follows13 (by kernel_rfl) (fun _ _ _ _ _ h=>h)  ⟨e0,e11⟩ ?_
    (repeat ((first | (refine a02 (v:=?_) rfl (by rfl) (fun wq hSq=>?_) ?_;rotate_left;(focus ((try dsimp only at hSq);go_simp;try with_reducible rfl))) | refine a03 rfl (by rfl) ?_);simp only[Act.put,zA,zB,zC]))
    (refine a04 rfl (by rfl) (fun KK hK=>?_);go_simp)
    go_invoke
    go_simp
    refine HST2.out.mono ?_;rintro r wd ⟨rfl,q⟩;obtain⟨L,q1,q2⟩:=q.out;have HQ:=zH (And.intro q1 q2);clear q q1 q2;refine hK.out _ _ (HS.out _ _ _ _ HQ.out.1 (ag6 _ _ _)).1 ?_
    (clear hK KK;try simp only[Act.put,zA,zB,zC])
    (repeat ((first | (refine a02 (v:=?_) rfl (by rfl) (fun wq hSq=>?_) ?_;rotate_left;(focus ((try dsimp only at hSq);go_simp;try with_reducible rfl))) | refine a03 rfl (by rfl) ?_);simp only[Act.put,zA,zB,zC]))
    refine a07 ?_;go_wp2_with fail
    go_meet
    exact⟨rfl,rfl,L,HQ.out.1,(H1.out.2.1.trans (Ext.of_below ((Same.drew wc).below _))).trans HQ.out.2⟩
   ·refine a05 (fun u=>u.cell? ⟨g,i*20,none⟩=some (.iface 190 (.pointer (some ⟨v.tb t,0,none⟩)))/\u.cell? ⟨f.b,11,none⟩=some (.pointer (some ⟨f.mb,0,none⟩)) )  ((0,true)::(1,true)::(2,true)::(3,true)::(4,true)::(5,true)::(6,true)::(7,true)::(8,true)::(9,true)::(10,false)::(11,true)::(12,true)::(13,true)::(14,true)::(15,true)::[])  Md.Cv.follows13 (by kernel_rfl) (fun _ _ _ _ _ h=>h)  ⟨e0,e11⟩ ?_
    (repeat ((first | (refine a02 (v:=?_) rfl (by rfl) (fun wq hSq=>?_) ?_;rotate_left;(focus ((try dsimp only at hSq);go_simp;try with_reducible rfl))) | refine a03 rfl (by rfl) ?_);simp only[Act.put,zA,zB,zC]))
    (refine a04 rfl (by rfl) (fun KK hK=>?_);go_simp)
    go_invoke
    go_simp
    refine HST2.out.mono ?_;rintro r wd ⟨rfl,q⟩;obtain⟨L,q1,q2⟩:=q.out;have HQ:=zH (And.intro q1 q2);clear q q1 q2;refine hK.out _ _ (HS.out _ _ _ _ HQ.out.1 (ag6 _ _ _)).1 ?_
    (clear hK KK;try simp only[Act.put,zA,zB,zC])
    (repeat ((first | (refine a02 (v:=?_) rfl (by rfl) (fun wq hSq=>?_) ?_;rotate_left;(focus ((try dsimp only at hSq);go_simp;try with_reducible rfl))) | refine a03 rfl (by rfl) ?_);simp only[Act.put,zA,zB,zC]))
    refine a07 ?_;go_wp2_with fail
    go_meet
    exact⟨rfl,rfl,L,HQ.out.1,(H1.out.2.1.trans (Ext.of_below ((Same.drew wc).below _))).trans HQ.out.2⟩
  case rest =>
   obtain⟨rfl,rfl,HW⟩:=hcut;obtain⟨L,q1,q2⟩:=HW.out;have HQ:=zH (And.intro q1 q2);obtain⟨v1,hv1⟩:∃ v1,v1={ v with G:=updG v.G t L }:=⟨_,rfl⟩
   have HV1:Hid (v1.tb=v.tb):=by rw[hv1];trivial
   rw[<- hv1]at HQ q1;have c14:=q1.up.c14;have k15:=(q1.at_.cell 15).trans (rfl:_=some (Value.int .i64 d.N));have k12:=(q1.at_.cell 12).trans (rfl:_=some (Value.pointer (some ⟨f.rb,0,none⟩)));have lb:=q1.at_.ltB;have lg:=q1.up.lt;clear q1 q2 HW hv1 H1 HST;have ht:=HQ.out.1.ht;have o2:=aM2 d.rd t;have o3:=bC8 (Sd.stepN d.rd t) t;have HP:Hid (∀ u,Bl wc u->EnAt (u.setCell ⟨f.gc,t*3+2,none⟩ (.int .i64 (-1))) f v1 s { goD d t y with cr:=updA d.cr t #[.slice qa nc qc,.int .i64 bgn,.int .i64 (-1)] }/\Ext f v v1 w (u.setCell ⟨f.gc,t*3+2,none⟩ (.int .i64 (-1)))):=fun u hu=>by
    have z:=(HQ.out.1.on hu).rest;exact⟨z.1,(HQ.out.2.trans (Ext.of_below hu)).trans z.2⟩
   have HR:Hid (∀ u,EnAt u f v1 s { goD d t y with cr:=updA d.cr t #[.slice qa nc qc,.int .i64 bgn,.int .i64 (-1)] }/\Ext f v v1 w u->Calls Tryz.prog 82 #[.pointer (some ⟨f.rb,0,none⟩),.int .i64 (t:Int)] u fun e w'=>e=.returned (.int .i64 0)/\Hid (EnAt w' f v1 s { goD d t y with cr:=updA d.cr t #[.slice qa nc qc,.int .i64 bgn,.int .i64 (-1)],rd:=Sd.stepN d.rd t }/\Ext f v v1 w w')):=fun u hu=>by
    refine(Sd.step_in hu.1.rds t (by show t<d.rd.n;omega) (by show d.rd.n<=8;omega) (by show d.rd.o<_;omega)).mono ?_;rintro e w' ⟨rfl,r1,r2⟩;obtain⟨h2,x2⟩:=hu.1.setR r2 r1;exact⟨rfl,h2,hu.2.trans x2⟩
   have HN:Hid (∀ u,EnAt u f v1 s { goD d t y with cr:=updA d.cr t #[.slice qa nc qc,.int .i64 bgn,.int .i64 (-1)],rd:=Sd.stepN d.rd t }/\Ext f v v1 w u->Calls Tryz.prog 70 #[.pointer (some ⟨f.b,0,none⟩),.int .i64 (t:Int)] u fun r w'=>r=.returned (.tuple #[])/\Hid (EnAt w' f v1 s { goD d t y with cr:=updA d.cr t #[.slice qa nc qc,.int .i64 bgn,.int .i64 (-1)],rd:=rd' }/\Ext f v v1 w w')):=fun u hu=>by
    refine(ar3 hu.1 hs ht ((aM1 d.rd t).trans hrn) (by show (Sd.stepN d.rd t).o<_;omega) (qa:=qa) (nc:=nc) (qc:=qc) (bgn:=bgn) (go:=-1) (a22 _ _ _)).mono ?_;rintro r w' ⟨rfl,q⟩;have q:=q.out;dsimp only at q;rw[HRD.out]at q;exact⟨rfl,q.1,hu.2.trans q.2⟩
   have HO:Hid (∀ u,EnAt u f v1 s { goD d t y with cr:=updA d.cr t #[.slice qa nc qc,.int .i64 bgn,.int .i64 (-1)],rd:=rd' }/\Ext f v v1 w u->Calls Tryz.prog 51 #[.pointer (some ⟨f.rb,0,none⟩)] u fun e w'=>e=.returned (.int .i64 (rd'.o:Int))/\w'=u):=fun u hu=>Sd.over_any hu.1.rds
   have HCL:Hid (∀ u,EnAt u f v1 s { goD d t y with cr:=updA d.cr t #[.slice qa nc qc,.int .i64 bgn,.int .i64 (-1)],rd:=rd' }/\Ext f v v1 w u->Calls Tryz.prog 83 #[.pointer (some ⟨g,i*20,none⟩),.int .i64 d.N,.int .i64 (rd'.o:Int)] u fun r w'=>r=.returned (.tuple #[])/\Hid (∃ v' D,v'.tb=v.tb/\EnAt w' f v' s { goD d t y with T:=upT d.T t none,cr:=updA d.cr t #[.slice qa nc qc,.int .i64 bgn,.int .i64 (-1)],rd:=rd',tr:=updA d.tr i (trO (goS y d.ws) D th no pr bg d.N ah fr rd'.o),L:=fun j=>if j=i then some (D,af0 (goS y d.ws),macT (goS y d.ws)) else d.L j }/\Ext f v v' w w')):=fun u hu=>by
    refine(aY6 hu.1 HQ.out.1.hi HQ.out.1.pt HQ.out.1.hT HQ.out.1.tr HI1.out).mono ?_;rintro r w' ⟨rfl,q⟩;obtain⟨v2,D,e1,e2,e3,k1,k2⟩:=q.out;obtain⟨k3,k4⟩:=k1.died t;refine⟨rfl,{ v2 with G:=updG v2.G t [] },D,e2.trans HV1.out,?_,(hu.2.trans k2).trans k4⟩;have eT:upT (upT d.T t (some (goS y d.ws))) t none=upT d.T t none:=by
     funext u
     by_cases q:u=t
     ·subst q;rw[a34,a34]
     ·rw[a76 _ _ q,a76 _ _ q,a76 _ _ q]
    have k5:=k3;dsimp only[goD]at k5;rw[eT]at k5;exact k5
   have HC:Hid (∀ u,EnAt u f v1 s { goD d t y with cr:=updA d.cr t #[.slice qa nc qc,.int .i64 bgn,.int .i64 (-1)],rd:=rd' }/\Ext f v v1 w u->u.cell? ⟨f.b,15,none⟩=some (.int .i64 d.N)/\u.cell? ⟨f.b,12,none⟩=some (.pointer (some ⟨f.rb,0,none⟩))/\f.b<u.heap.size):=fun u hu=>⟨(hu.1.cell 15).trans rfl,(hu.1.cell 12).trans rfl,hu.1.ltB⟩
   have sc:=(HQ.out.1.at_.course ht HQ.out.1.hc).2.2.1;have lc:=(HQ.out.1.at_.course ht HQ.out.1.hc).2.2.2;have fc:=HQ.out.1.at_.crs.free (t*3+2);clear o2 o3 HI1
   go_upto_region 3 with fail
   refine a05 (fun u=>u.cell? ⟨g,i*20+14,none⟩=some (.int .i64 bg)/\u.cell? ⟨f.b,15,none⟩=some (.int .i64 d.N) )  ((0,true)::(1,true)::(2,true)::(3,true)::(4,true)::(5,true)::(6,true)::(7,true)::(8,true)::(9,true)::[])  Md.Cv.follows13 (by kernel_rfl) (fun _ _ _ _ _ h=>h)  ⟨c14,k15⟩ ?_
   (repeat ((first | (refine a02 (v:=?_) rfl (by rfl) (fun wq hSq=>?_) ?_;rotate_left;(focus ((try dsimp only at hSq);go_simp;try with_reducible rfl))) | refine a03 rfl (by rfl) ?_);simp only[Act.put,zA,zB,zC]))
   refine a07 ?_;obtain⟨u1,hu1⟩:∃ u1,u1=wc.drew:=⟨_,rfl⟩
   rw[<- hu1];have HU1:Hid (Bl wc u1):=by rw[hu1];exact(Same.drew wc).below _
   have sc1:u1.cell? ⟨f.gc,t*3+2,none⟩=some (.int .i64 (i:Int)):=by rw[hu1];exact sc
   have fc1:u1.frozen? ⟨f.gc,t*3+2,none⟩=false:=by rw[hu1];exact fc
   have lc1:f.gc<u1.heap.size:=zL lc HU1.out.size;clear hu1 c14 k15 k12 lb sc fc lc
   go_upto_region 7 with fail
   have HE:=zH (HP.out _ HU1.out);obtain⟨u2,hu2⟩:∃ u2,u2=u1.setCell ⟨f.gc,t*3+2,none⟩ (.int .i64 (-1)):=⟨_,rfl⟩
   rw[<- hu2]at HE ⊢;clear hu2 HP sc1 fc1 lc1;have k12:=(HE.out.1.cell 12).trans (rfl:_=some (Value.pointer (some ⟨f.rb,0,none⟩)));have lb:=HE.out.1.ltB
   go_upto_region 10 with(first
    | (go_at_call 70;refine(HN.out _ H3.out).mono ?_;rintro r w4 ⟨rfl,q⟩;have H4:=zH q.out;clear q HN)
    | (go_at_call 82;refine(HR.out _ HE.out).mono ?_;rintro r w3 ⟨rfl,q⟩;have H3:=zH q.out;clear q HR k12 lb;have lb:=H3.out.1.ltB))
   clear lb;obtain⟨k15,k12,lb⟩:=HC.out _ H4.out;have H5:Hid (EnAt w4.drew f v1 s { goD d t y with cr:=updA d.cr t #[.slice qa nc qc,.int .i64 bgn,.int .i64 (-1)],rd:=rd' }/\Ext f v v1 w w4.drew):=⟨H4.out.1.same (Same.drew w4),H4.out.2.trans (Ext.of_below ((Same.drew w4).below _))⟩;refine a32 (fun u=>u.cell? ⟨f.b,15,none⟩=some (.int .i64 d.N)/\u.cell? ⟨f.b,12,none⟩=some (.pointer (some ⟨f.rb,0,none⟩)) )  ((0,true)::(1,true)::(2,true)::(3,true)::(4,true)::(5,true)::(6,true)::(7,true)::(8,true)::(9,false)::(10,false)::[])  Md.Cv.follows13 (by kernel_rfl) (fun _ _ _ _ _ h=>h)  ⟨k15,k12⟩ ?_
   (repeat (refine a23 (v:=?_) rfl (by rfl) (fun wq hSq=>?_) ?_;rotate_left;(focus ((try dsimp only at hSq);go_simp;try with_reducible rfl));simp only[Act.put,zA,zB,zC]))
   (refine a20 rfl (by rfl) (fun KK hK=>?_);go_simp)
   refine(HO.out _ H5.out).mono ?_;rintro r w5 ⟨rfl,hw5⟩;subst w5;refine hK.out _ _ (fun _=>⟨k15,k12⟩) ?_
   (clear hK KK;try simp only[Act.put,zA,zB,zC])
   (refine a20 rfl (by rfl) (fun KK hK=>?_);go_simp)
   refine(HCL.out _ H5.out).mono ?_;rintro r w6 ⟨rfl,q⟩;have H6:=zH q.out;clear q;refine hK.out _ _ (fun hn=>absurd rfl hn) ?_
   (clear hK KK;try simp only[Act.put,zA,zB,zC])
   refine a54 ?_;go_wp2_with fail
   go_end0
   obtain⟨v',D,z1,z2,z3⟩:=H6.out;exact⟨rfl,v',z1,⟨D,z2⟩,z3⟩
end
theorem aN9 (s:Su) (t:Nat) (x:Int × List Nat) (ws:List Int):a72 (goS (newT s t x) ws)=false/\∀ m z,goS (newT s t x) ws=.inr (m,z)->z.part≠1:=by
 unfold newT
 by_cases q:(s.prog x.1).1=2
 ·rw[if_pos q]
  refine⟨rfl,fun m z e=>?_⟩;have e:z=(ac9 (newY s.a s.b s.c s.e (s.prog x.1).1 (s.prog x.1).2 x.2 t) ws).1:=by
   injection e with e;injection e with _ e;exact e.symm
  rw[e]
  show (2:Nat)≠1
  omega
 ·rw[if_neg q]
  exact⟨rfl,fun m z e=>by cases e⟩
section
variable {s:Su} {v v':Ev} {d:Ed} {Z:Es} {t:Nat}
theorem ai5 {X:Rs} (h:X.H.E.T t=none):goI X t=-1:=if_pos (by rw[h];rfl)
theorem ab2 {X:Rs} {y:Ty} (h:X.H.E.T t=some y):goI X t=(X.H.at_ t:Int):=if_neg (by rw[h];exact Bool.false_ne_true)
theorem az5 {X X':Rs} {u:Nat} (h:X'.H.E.T u=X.H.E.T u) (k:X'.H.at_ u=X.H.at_ u):goI X' u=goI X u:=by
 cases e:X.H.E.T u with
 | none=>rw[ai5 e,ai5 (h.trans e)]
 | some y=>rw[ab2 e,ab2 (h.trans e),k]
structure Came (X X':Rs) (t:Nat) (y:Ty) (T:Nat->Tx) (B at_:Nat->Nat) (D:Nat->Dd) (dn i:Nat):Prop where
 N:X'.H.N=X.H.N+1
 ws:X'.H.E.ws=goW y X.H.E.ws
 cnt:X'.H.E.cnt=if goA y X.H.E.ws then up X.H.E.cnt else X.H.E.cnt
 T:X'.H.E.T=upT T t (if a72 (goS y X.H.E.ws) then none else some (goS y X.H.E.ws))
 B:X'.H.E.B=B
 dn:X'.H.dn=dn
 at_:X'.H.at_=at_
 D:X'.H.D=updD D i { D i with tx:=goS y X.H.E.ws,en:=if a72 (goS y X.H.E.ws) then X.H.N+1 else 0 }
theorem ay7 (h:WI s Z.X) (hT:Z.X.H.E.T t=none) {y:Ty} (hy:newT s t (s.call t (Z.X.H.E.B t))=y):Came Z.X (stepR Z.X t) t y (upT Z.X.H.E.T t (some y)) (updN Z.X.H.E.B t (Z.X.H.E.B t+1)) (updN Z.X.H.at_ t Z.X.H.dn) (updD Z.X.H.D Z.X.H.dn ⟨t,Z.X.H.E.B t,Z.X.H.N+1,0,y⟩) (Z.X.H.dn+1) Z.X.H.dn:=by
 have e1:=aq3 h hT;rw[hy]at e1;have e2:=az4 (t:=t) (H:=begH Z.X.H t) (y:=y) (by rw[e1];exact a34 _ _ _);have e:=(show (stepR Z.X t).H=goH (begH Z.X.H t) t from rfl).trans e2;refine⟨?_,?_,?_,?_,?_,?_,?_,?_⟩
 ·rw[e,e1]
 ·rw[e,e1]
 ·rw[e,e1]
 ·rw[e,e1]
 ·rw[e,e1]
 ·rw[e,e1]
 ·rw[e,e1]
 ·rw[e,e1]
  dsimp only;rw[a62]
theorem aq4 {y:Ty} (hT:Z.X.H.E.T t=some y):Came Z.X (stepR Z.X t) t y Z.X.H.E.T Z.X.H.E.B Z.X.H.at_ Z.X.H.D Z.X.H.dn (Z.X.H.at_ t):=by
 have e1:=ay6 (X:=Z.X) hT;have e2:=az4 (t:=t) (H:=begH Z.X.H t) (y:=y) (by rw[e1];exact hT);have e:=(show (stepR Z.X t).H=goH (begH Z.X.H t) t from rfl).trans e2;refine⟨?_,?_,?_,?_,?_,?_,?_,?_⟩ <;> rw[e,e1]
theorem bd0 (h:Fits s v d Z) (wi:WI s Z.X) (hT:Z.X.H.E.T t=none) {bx:Nat} (hv:v'.tb=updN v.tb t bx) {qa:Option Addr} {qc:Nat}
  {y:Ty} (hy:newT s t (s.call t (Z.X.H.E.B t))=y) {d':Ed} (hd:d'={ N:=d.N+1,ws:=goW y d.ws,cnt:=(if goA y d.ws then up d.cnt else d.cnt),rd:=rdZ s (stepR Z.X t),cr:=updA d.cr t #[.slice qa (s.cs t).length qc,.int .i64 ((Z.X.H.E.B t+1:Nat):Int),.int .i64 (d.dn:Int)],dn:=d.dn+1,tr:=updA (updA d.tr d.dn (trU (txV y bx) t (Z.X.H.E.B t) (s.call t (Z.X.H.E.B t)).1 (d.N+1) 0 d.rd.o)) d.dn (trU (txV y bx) t (Z.X.H.E.B t) (s.call t (Z.X.H.E.B t)).1 (d.N+1) (aw3 (goW y d.ws) (goS y d.ws)) d.rd.o),T:=upT (upT d.T t (some y)) t (some (goS y d.ws)),L:=d.L }):Fits s v' d' (ad2 s Z t):=by
 subst hd;have C:=ay7 wi hT hy;have fg:=(aN9 s t (s.call t (Z.X.H.E.B t)) Z.X.H.E.ws).1;rw[hy]at fg;have hA:(ad2 s Z t).A=updI Z.A Z.X.H.dn (aw3 (goW y Z.X.H.E.ws) (goS y Z.X.H.E.ws)):=by
  rw[<- hy];exact if_pos (by rw[hT];rfl)
 have hfr:(ad2 s Z t).X.fr=updN Z.X.fr Z.X.H.dn Z.X.R:=if_pos (by rw[hT];rfl);have eT:(stepR Z.X t).H.E.T=upT (upT Z.X.H.E.T t (some y)) t (some (goS y Z.X.H.E.ws)):=by rw[C.T,fg];rfl
 have hto:(ad2 s Z t).X.to_=Z.X.to_:=if_neg (by
  show ¬ ((stepR Z.X t).H.E.T t).isNone=true
  rw[eT,a34];exact Bool.false_ne_true)
 have eD:(ad2 s Z t).X.H.D=updD (updD Z.X.H.D Z.X.H.dn ⟨t,Z.X.H.E.B t,Z.X.H.N+1,0,y⟩) Z.X.H.dn ⟨t,Z.X.H.E.B t,Z.X.H.N+1,0,goS y Z.X.H.E.ws⟩:=by
  show (stepR Z.X t).H.D=_
  rw[C.D,fg,a61]
  rfl
 have hro:(d.rd.o:Int)=(Z.X.R:Int):=by rw[h.rd];rfl
 have en:∀ i,i<Z.X.H.dn->(Z.X.H.D i).en=0->(Z.X.H.D i).th≠t:=fun i hi e0 q=>by
  have:=(wi.un i hi e0).1;rw[q,hT]at this
  cases this
 refine⟨?_,?_,?_,rfl,?_,?_,fun u hu=>?_,fun i hi e0=>?_,fun i hi e0=>?_⟩
 ·show d.N+1=((stepR Z.X t).H.N:Int);rw[C.N,h.N];rfl
 ·show goW y d.ws=(stepR Z.X t).H.E.ws;rw[C.ws,h.ws]
 ·show (if goA y d.ws then up d.cnt else d.cnt)=(stepR Z.X t).H.E.cnt;rw[C.cnt,h.ws,h.cnt]
 ·show upT (upT d.T t (some y)) t (some (goS y d.ws))=(stepR Z.X t).H.E.T;rw[eT,h.T,h.ws]
 ·show d.dn+1=(stepR Z.X t).H.dn;rw[C.dn,h.dn]
 ·show ∃ qa qc,updA d.cr t _ u=#[_,.int .i64 ((stepR Z.X t).H.E.B u:Int),.int .i64 (goI (stepR Z.X t) u)]
  rw[C.B]
  by_cases q:u=t
  ·subst q
   refine⟨qa,qc,?_⟩;rw[a22,a62,ab2 (X:=stepR Z.X u) (y:=goS y Z.X.H.E.ws) (by rw[eT];exact a34 _ _ _),C.at_,a62,h.dn]
  ·obtain⟨qa',qc',k⟩:=h.cr u hu
   refine⟨qa',qc',?_⟩;rw[a37 _ _ q,k,aa7 _ _ q,az5 (X:=Z.X) (X':=stepR Z.X t) (by rw[eT,a76 _ _ q,a76 _ _ q]) (by rw[C.at_,aa7 _ _ q])]
 ·have hi:i<(stepR Z.X t).H.dn:=hi
  rw[C.dn]at hi;rw[eD]at e0 ⊢;rw[hA,hfr];dsimp only
  rcases Nat.lt_or_eq_of_le (Nat.le_of_lt_succ hi) with c | c
  ·rw[aa6 _ _ (by omega),aa6 _ _ (by omega)]at e0 ⊢
   rw[b95 _ _ (by omega),aa7 _ _ (by omega),hv,aa7 _ _ (en i c e0),a37 _ _ (by rw[h.dn];omega),a37 _ _ (by rw[h.dn];omega)];exact h.up i c e0
  ·subst c
   rw[a61,b96,a62,hv,<- h.dn,a22];dsimp only;rw[a62,ag6,hro,h.ws,h.N]
   rfl
 ·have hi:i<(stepR Z.X t).H.dn:=hi
  rw[C.dn]at hi;rw[eD]at e0 ⊢;rw[hA,hfr,hto];dsimp only
  rcases Nat.lt_or_eq_of_le (Nat.le_of_lt_succ hi) with c | c
  ·rw[aa6 _ _ (by omega),aa6 _ _ (by omega)]at e0 ⊢
   rw[b95 _ _ (by omega),aa7 _ _ (by omega),a37 _ _ (by rw[h.dn];omega),a37 _ _ (by rw[h.dn];omega)];exact h.ov i c e0
  ·subst c
   rw[a61]at e0;exact absurd rfl e0
theorem bc9 (h:Fits s v d Z) (wi:WI s Z.X) (ht:t<s.n) {y:Ty} (hT:Z.X.H.E.T t=some y) (ho:a72 (goS y Z.X.H.E.ws)=false) (hv:v'.tb=v.tb)
  {d':Ed} (hd:d'={ d with N:=d.N+1,ws:=goW y d.ws,cnt:=(if goA y d.ws then up d.cnt else d.cnt),rd:=rdZ s (stepR Z.X t),T:=upT d.T t (some (goS y d.ws)) }):Fits s v' d' (ad2 s Z t):=by
 subst hd;have C:=aq4 hT;obtain⟨u1,u2,u3,u4⟩:=wi.up t y ht hT;have hA:(ad2 s Z t).A=Z.A:=if_neg (by rw[hT];exact Bool.false_ne_true);have hfr:(ad2 s Z t).X.fr=Z.X.fr:=if_neg (by rw[hT];exact Bool.false_ne_true);have eT:(stepR Z.X t).H.E.T=upT Z.X.H.E.T t (some (goS y Z.X.H.E.ws)):=by rw[C.T,ho];rfl
 have hto:(ad2 s Z t).X.to_=Z.X.to_:=if_neg (by
  show ¬ ((stepR Z.X t).H.E.T t).isNone=true
  rw[eT,a34];exact Bool.false_ne_true)
 have eD:(ad2 s Z t).X.H.D=updD Z.X.H.D (Z.X.H.at_ t) { Z.X.H.D (Z.X.H.at_ t) with tx:=goS y Z.X.H.E.ws,en:=0 }:=by
  show (stepR Z.X t).H.D=_
  rw[C.D,ho]
  rfl
 refine⟨?_,?_,?_,rfl,?_,?_,fun u hu=>?_,fun i hi e0=>?_,fun i hi e0=>?_⟩
 ·show d.N+1=((stepR Z.X t).H.N:Int);rw[C.N,h.N];rfl
 ·show goW y d.ws=(stepR Z.X t).H.E.ws;rw[C.ws,h.ws]
 ·show (if goA y d.ws then up d.cnt else d.cnt)=(stepR Z.X t).H.E.cnt;rw[C.cnt,h.ws,h.cnt]
 ·show upT d.T t (some (goS y d.ws))=(stepR Z.X t).H.E.T;rw[eT,h.T,h.ws]
 ·show d.dn=(stepR Z.X t).H.dn;rw[C.dn,h.dn]
 ·show ∃ qa qc,d.cr u=#[_,.int .i64 ((stepR Z.X t).H.E.B u:Int),.int .i64 (goI (stepR Z.X t) u)]
  rw[C.B];obtain⟨qa',qc',k⟩:=h.cr u hu;refine⟨qa',qc',?_⟩;rw[k]
  by_cases q:u=t
  ·subst q
   rw[ab2 (X:=stepR Z.X u) (y:=goS y Z.X.H.E.ws) (by rw[eT];exact a34 _ _ _),C.at_,ab2 hT]
  ·rw[az5 (X:=Z.X) (X':=stepR Z.X t) (by rw[eT,a76 _ _ q]) (by rw[C.at_])]
 ·have hi:i<(stepR Z.X t).H.dn:=hi
  rw[C.dn]at hi;rw[eD]at e0 ⊢;rw[hA,hfr,hv]
  by_cases c:i=Z.X.H.at_ t
  ·rw[c,a61]
   dsimp only;rw[ag6,<- u4];exact h.up _ u1 u3
  ·rw[aa6 _ _ c]at e0 ⊢
   exact h.up i hi e0
 ·have hi:i<(stepR Z.X t).H.dn:=hi
  rw[C.dn]at hi;rw[eD]at e0 ⊢;rw[hA,hfr,hto]
  by_cases c:i=Z.X.H.at_ t
  ·rw[c,a61]at e0
   exact absurd rfl e0
  ·rw[aa6 _ _ c]at e0 ⊢
   exact h.ov i hi e0
theorem b03 (h:Fits s v d Z) (wi:WI s Z.X) (ht:t<s.n) {y:Ty} (hT:Z.X.H.E.T t=some y) (ho:a72 (goS y Z.X.H.E.ws)=true) (hv:v'.tb=v.tb) {qa:Option Addr} {qc:Nat} {D:Rr.Dd}
  {d':Ed} (hd:d'={ d with N:=d.N+1,ws:=goW y d.ws,cnt:=(if goA y d.ws then up d.cnt else d.cnt),rd:=rdZ s (stepR Z.X t),T:=upT d.T t none,cr:=updA d.cr t #[.slice qa (s.cs t).length qc,.int .i64 (Z.X.H.E.B t:Int),.int .i64 (-1)],tr:=updA d.tr (Z.X.H.at_ t) (trO (goS y d.ws) D t (Z.X.H.D (Z.X.H.at_ t)).no (s.call t (Z.X.H.D (Z.X.H.at_ t)).no).1 (Z.X.H.D (Z.X.H.at_ t)).bg (d.N+1) (Z.A (Z.X.H.at_ t)) (Z.X.fr (Z.X.H.at_ t)) ((stepR Z.X t).R:Int)),L:=fun j=>if j=Z.X.H.at_ t then some (D,af0 (goS y d.ws),macT (goS y d.ws)) else d.L j }):Fits s v' d' (ad2 s Z t):=by
 subst hd;have C:=aq4 hT;obtain⟨u1,u2,u3,u4⟩:=wi.up t y ht hT;have hA:(ad2 s Z t).A=Z.A:=if_neg (by rw[hT];exact Bool.false_ne_true);have hfr:(ad2 s Z t).X.fr=Z.X.fr:=if_neg (by rw[hT];exact Bool.false_ne_true);have eT:(stepR Z.X t).H.E.T=upT Z.X.H.E.T t none:=by rw[C.T,ho];rfl
 have hto:(ad2 s Z t).X.to_=updN Z.X.to_ (Z.X.H.at_ t) (stepR Z.X t).R:=by
  have e:(ad2 s Z t).X.to_=updN Z.X.to_ ((stepR Z.X t).H.at_ t) (stepR Z.X t).R:=if_pos (by
   show ((stepR Z.X t).H.E.T t).isNone=true
   rw[eT,a34]
   rfl)
  rw[e,C.at_]
 have eD:(ad2 s Z t).X.H.D=updD Z.X.H.D (Z.X.H.at_ t) { Z.X.H.D (Z.X.H.at_ t) with tx:=goS y Z.X.H.E.ws,en:=Z.X.H.N+1 }:=by
  show (stepR Z.X t).H.D=_
  rw[C.D,ho]
  rfl
 refine⟨?_,?_,?_,rfl,?_,?_,fun u hu=>?_,fun i hi e0=>?_,fun i hi e0=>?_⟩
 ·show d.N+1=((stepR Z.X t).H.N:Int);rw[C.N,h.N];rfl
 ·show goW y d.ws=(stepR Z.X t).H.E.ws;rw[C.ws,h.ws]
 ·show (if goA y d.ws then up d.cnt else d.cnt)=(stepR Z.X t).H.E.cnt;rw[C.cnt,h.ws,h.cnt]
 ·show upT d.T t none=(stepR Z.X t).H.E.T;rw[eT,h.T]
 ·show d.dn=(stepR Z.X t).H.dn;rw[C.dn,h.dn]
 ·show ∃ qa qc,updA d.cr t _ u=#[_,.int .i64 ((stepR Z.X t).H.E.B u:Int),.int .i64 (goI (stepR Z.X t) u)]
  rw[C.B]
  by_cases q:u=t
  ·subst q
   refine⟨qa,qc,?_⟩;rw[a22,ai5 (X:=stepR Z.X u) (by rw[eT];exact a34 _ _ _)]
  ·obtain⟨qa',qc',k⟩:=h.cr u hu
   refine⟨qa',qc',?_⟩;rw[a37 _ _ q,k,az5 (X:=Z.X) (X':=stepR Z.X t) (by rw[eT,a76 _ _ q]) (by rw[C.at_])]
 ·have hi:i<(stepR Z.X t).H.dn:=hi
  rw[C.dn]at hi;rw[eD]at e0 ⊢;rw[hA,hfr,hv]
  by_cases c:i=Z.X.H.at_ t
  ·rw[c,a61]at e0
   dsimp only at e0;omega
  ·rw[aa6 _ _ c]at e0 ⊢
   dsimp only;rw[a37 _ _ c];exact h.up i hi e0
 ·have hi:i<(stepR Z.X t).H.dn:=hi
  rw[C.dn]at hi;rw[eD]at e0 ⊢;rw[hA,hfr,hto]
  by_cases c:i=Z.X.H.at_ t
  ·rw[c,a61,a62]
   dsimp only;rw[if_pos rfl,a22,u2,h.ws,h.N];exact⟨D,rfl,rfl⟩
  ·rw[aa6 _ _ c,aa7 _ _ c]at *
   dsimp only;rw[if_neg c,a37 _ _ c];exact h.ov i hi e0
end
section
variable {w w':World} {f:Ex} {v v':Ev} {s:Su} {d:Ed} {Z:Es} {t:Nat}
theorem bn3 (X:Rs) (t:Nat):(stepR X t).R<=X.R+1:=by
 show (if aJ3 (by3 X.H t).E _ (by3 X.H t).E.n then X.R+1 else X.R)<=X.R+1
 split <;> omega
theorem as4 {E:Eg} {y:Ty} (h:E.T t=some y):finB E t=false:=zU fun q=>by rw[q.1]at h;cases h
theorem as3 {E:Eg} (h:E.T t=none):finB E t=decide (E.B t=E.nc t):=decide_eq_decide.2 ⟨fun q=>q.2,fun q=>⟨h,q⟩⟩
theorem EnAt.reRd (h:EnAt w f v s d) {r:Sd.Rd} (a:Alk d.rd r):EnAt w f v s { d with rd:=r }:=(h.setR (Turn.refl _ _) (a.at_ h.rds)).1
theorem WI.n8 (h:WI s Z.X) (hs:SuIn s):Z.X.H.E.n=s.n/\s.n<=8:=⟨h.n,by have:=hs.nb;have:=hs.b8;omega⟩
theorem bp9 (fi:Fits s v d Z) (wi:WI s Z.X) (rn:Z.X.R<=Z.X.H.N) (hs:SuIn s) (ht:t<s.n) (hT:Z.X.H.E.T t=none) (hB:Z.X.H.E.B t<(s.cs t).length) (hN:Z.X.H.N<4611686018427387904) {bx:Nat} (hv:v'.tb=updN v.tb t bx) {qa:Option Addr} {qc:Nat} {y:Ty} (hy:newT s t (s.call t (Z.X.H.E.B t))=y)
  (h:EnAt w f v' s { d with N:=d.N+1,T:=upT d.T t (some y),dn:=d.dn+1,tr:=updA d.tr d.dn (trU (txV y bx) t (Z.X.H.E.B t) (s.call t (Z.X.H.E.B t)).1 (d.N+1) 0 d.rd.o),cr:=updA d.cr t #[.slice qa (s.cs t).length qc,.int .i64 ((Z.X.H.E.B t+1:Nat):Int),.int .i64 (d.dn:Int)] }) :
  Calls Tryz.prog 44 #[.pointer (some ⟨f.b,0,none⟩),.int .i64 (t:Int)] w fun r w'=>r=.returned (.tuple #[])/\Hid (∃ v'',Eng w' f v'' s (ad2 s Z t)/\Ext f v' v'' w w'):=by
 obtain⟨n1,n8⟩:=wi.n8 hs;have hf:¬ finE Z.X.H.E t:=fun q=>by have:=q.2;rw[wi.nc]at this;dsimp only at this;omega
 obtain⟨g,hp,_,_⟩:=h.arr (by show 0<d.dn+1;omega);obtain⟨i1,i2⟩:=bD8 hs ht hB;have fg:=aN9 s t (s.call t (Z.X.H.E.B t)) d.ws;rw[hy]at i1 i2 fg;have few:=(wi.begins hs ht hf).1.few hs;have e1:(begR Z.X t).H.dn=Z.X.H.dn+1:=by
  show (begH Z.X.H t).dn=_
  rw[aq3 wi hT]
 rw[e1,<- fi.dn]at few;have W:Way w f v' s { d with N:=d.N+1,T:=upT d.T t (some y),dn:=d.dn+1,tr:=updA d.tr d.dn (trU (txV y bx) t (Z.X.H.E.B t) (s.call t (Z.X.H.E.B t)).1 (d.N+1) 0 d.rd.o),cr:=updA d.cr t #[.slice qa (s.cs t).length qc,.int .i64 ((Z.X.H.E.B t+1:Nat):Int),.int .i64 (d.dn:Int)] } t d.dn g (s.cs t).length qc qa ((Z.X.H.E.B t+1:Nat):Int) y t (Z.X.H.E.B t) (s.call t (Z.X.H.E.B t)).1 (d.N+1) 0 d.rd.o:=⟨h,ht,a34 _ _ _,Nat.lt_succ_self _,a22 _ _ _,by dsimp only;rw[a22,hv,a62],hp⟩;refine(aW3 W hs i1 i2 (by show okW d.ws;rw[fi.ws];exact wi.ok) (by show ((d.ws.length:Nat):Int)=_;rw[fi.ws];exact wi.len) (by omega) (by show d.dn+1<=512;omega) (by show d.rd.n=s.n;rw[fi.rd];rfl) (by show d.rd.o<_;rw[fi.rd];show Z.X.R<_;omega) fg.1 (by simp) fg.2).mono ?_;rintro r w' ⟨rfl,q⟩;obtain⟨v'',e2,k1,k2⟩:=q.out;have C:=ay7 wi hT hy;have fb:finB (stepR Z.X t).H.E t=false:=as4 (y:=goS y Z.X.H.E.ws) (by rw[C.T];rw[<- fi.ws,fg.1];exact a34 _ _ _);have al:=b60 (s:=s) (X:=Z.X) n1 n8 ht (zU hf);rw[fb,if_neg Bool.false_ne_true,<- fi.rd]at al;refine⟨rfl,v'',⟨⟨_,k1.reRd al,bd0 fi wi hT (bx:=bx) (qa:=qa) (qc:=qc) (e2.trans hv) hy ?_⟩,wi.step hs ht hf,?_⟩,k2⟩
 ·dsimp only[goD]
  rw[hv,a62]
 ·have:=bn3 Z.X t
  show (stepR Z.X t).R<=(stepR Z.X t).H.N
  rw[C.N];omega
theorem bq0 (fi:Fits s v d Z) (wi:WI s Z.X) (rn:Z.X.R<=Z.X.H.N) (hs:SuIn s) (ht:t<s.n) {y:Ty} (hT:Z.X.H.E.T t=some y) (hN:Z.X.H.N<4611686018427387904) (h:EnAt w f v s { d with N:=d.N+1 }) :
  Calls Tryz.prog 44 #[.pointer (some ⟨f.b,0,none⟩),.int .i64 (t:Int)] w fun r w'=>r=.returned (.tuple #[])/\Hid (∃ v'',Eng w' f v'' s (ad2 s Z t)/\Ext f v v'' w w'):=by
 obtain⟨n1,n8⟩:=wi.n8 hs;have hf:¬ finE Z.X.H.E t:=fun q=>by rw[q.1]at hT;cases hT
 obtain⟨u1,u2,u3,u4⟩:=wi.up t y ht hT;obtain⟨i1,i2⟩:=wi.T t y ht hT;obtain⟨g,hp,_,_⟩:=h.arr (by show 0<d.dn;rw[fi.dn];omega);obtain⟨qa,qc,hc⟩:=fi.cr t ht;rw[ab2 hT]at hc;obtain⟨_,_,_,b4,_⟩:=wi.D _ u1;have hup:=fi.up _ u1 u3;rw[u2,u4]at hup;have few:=wi.few hs;have C:=aq4 hT;have W:Way w f v s { d with N:=d.N+1 } t (Z.X.H.at_ t) g (s.cs t).length qc qa (Z.X.H.E.B t) y t (Z.X.H.D (Z.X.H.at_ t)).no (s.call t (Z.X.H.D (Z.X.H.at_ t)).no).1 (Z.X.H.D (Z.X.H.at_ t)).bg (Z.A (Z.X.H.at_ t)) (Z.X.fr (Z.X.H.at_ t)):=⟨h,ht,by show d.T t=_;rw[fi.T];exact hT,by show _<d.dn;rw[fi.dn];exact u1,hc,hup,hp⟩;have hne:(((Z.X.H.D (Z.X.H.at_ t)).bg:Int) == d.N+1)=false:=by
  rw[fi.N]
  simp
  omega
 have p1:okW d.ws:=by rw[fi.ws];exact wi.ok
 have p2:((d.ws.length:Nat):Int)=3+s.b+3*s.a:=by rw[fi.ws];exact wi.len
 have p3:d.dn<=512:=by rw[fi.dn];exact few
 have p4:d.rd.n=s.n:=by rw[fi.rd];rfl
 have p5:d.rd.o<9223372036854775806:=by rw[fi.rd];show Z.X.R<_;omega
 have rn':(stepR Z.X t).R<=(stepR Z.X t).H.N:=by
  have:=bn3 Z.X t;rw[C.N];omega
 have al:=b60 (s:=s) (X:=Z.X) n1 n8 ht (zU hf)
 cases ho:a72 (goS y Z.X.H.E.ws) with
 | false =>
  refine(bp8 W hs i1 i2 p1 p2 (by omega) p3 p4 p5 (by show a72 (goS y d.ws)=false;rw[fi.ws];exact ho) hne).mono ?_;rintro r w' ⟨rfl,q⟩;obtain⟨v'',e2,k1,k2⟩:=q.out;have fb:finB (stepR Z.X t).H.E t=false:=as4 (y:=goS y Z.X.H.E.ws) (by rw[C.T,ho];exact a34 _ _ _);rw[fb,if_neg Bool.false_ne_true,<- fi.rd]at al;exact⟨rfl,v'',⟨⟨_,k1.reRd al,bc9 fi wi ht hT ho e2 rfl⟩,wi.step hs ht hf,rn'⟩,k2⟩
 | true =>
  have fb:finB (stepR Z.X t).H.E t=finI (Z.X.H.E.B t) (-1) (s.cs t).length:=by
   rw[as3 (by rw[C.T,ho];exact a34 _ _ _),C.B];have e:(stepR Z.X t).H.E.nc=fun t=>(s.cs t).length:=(wi.step hs ht hf).nc
   rw[e];unfold finI;rw[zT rfl,Bool.true_and]
   show decide (Z.X.H.E.B t=(s.cs t).length)=decide ((Z.X.H.E.B t:Int)=((s.cs t).length:Int))
   exact decide_eq_decide.2 ⟨fun q=>by omega,fun q=>by omega⟩
  rw[fb,<- fi.rd]at al;refine(ba8 W hs i1 i2 p1 p2 (by omega) p3 p4 p5 (by show a72 (goS y d.ws)=true;rw[fi.ws];exact ho) hne rfl).mono ?_;rintro r w' ⟨rfl,q⟩;obtain⟨v'',D,e2,k1,k2⟩:=q.out;refine⟨rfl,v'',⟨⟨_,k1.reRd al,b03 fi wi ht hT ho e2 (qa:=qa) (qc:=qc) (D:=D) ?_⟩,wi.step hs ht hf,rn'⟩,k2⟩;dsimp only[goD];rw[al.o]
  rfl
theorem bl6 (h:Eng w f v s Z) (hs:SuIn s) (x:Int) (hx:¬ (0<=x/\x<(s.n:Int))):Calls Tryz.prog 15 #[.pointer (some ⟨f.b,0,none⟩),.int .i64 x] w fun r w'=>r=.returned (.tuple #[.bool false,.int .i64 100])/\w'=w:=by
 obtain⟨d,h,_⟩:=h.at_;have HA:=zH (a74 h hs x);rw[show (decide (0<=x) && decide (x<(s.n:Int)))=false by simp;omega]at HA;clear h hx;go_enter Tryz.func15,Tryz.ntmps15
 go_wp2_with (go_at_call 41;refine HA.out.mono ?_;rintro r w1 ⟨rfl,hw⟩;subst w1)
 go_ret2;exact⟨rfl,rfl⟩
theorem aQ1 (h:Eng w f v s Z) (hs:SuIn s) (ht:t<s.n) (hf:finE Z.X.H.E t):Calls Tryz.prog 15 #[.pointer (some ⟨f.b,0,none⟩),.int .i64 (t:Int)] w fun r w'=>r=.returned (.tuple #[.bool false,.int .i64 0])/\Same w w':=by
 have wi:=h.wi;obtain⟨d,h,fi⟩:=h.at_;have HA:=zH (a74 h hs (t:Int));rw[show (decide (0<=(t:Int)) && decide ((t:Int)<(s.n:Int)))=true by simp;omega]at HA;obtain⟨qa,qc,hc⟩:=fi.cr t ht;obtain⟨c0,c1,c2,lc⟩:=h.course ht hc;have HF:=zH (ad4 c0 c1 c2);rw[show finI (Z.X.H.E.B t:Int) (goI Z.X t) (s.cs t).length=true by
  have e:=hf.2;rw[wi.nc]at e;rw[ai5 hf.1];unfold finI;rw[zT rfl,Bool.true_and];exact zT (by dsimp only at e;omega)]at HF
 have k13:=(h.cell 13).trans (rfl:_=some (Value.slice (some ⟨f.gc,0,none⟩) s.n s.n));have lb:=h.ltB;have hti:(t:Int)<(s.n:Int):=by omega
 have h8:(s.n:Int)<=8:=by have:=(wi.n8 hs).2;omega
 clear h c0 c1 c2 fi wi hf hs hc;go_enter Tryz.func15,Tryz.ntmps15
 go_wp2_with (first
  | (go_at_call 42;refine HF.out.mono ?_;rintro r w2 ⟨rfl,q⟩;have H2:=zH q;clear q)
  | (go_at_call 41;refine HA.out.mono ?_;rintro r w1 ⟨rfl,hw⟩;subst w1))
 go_ret2;exact⟨rfl,H2.out⟩
theorem bl7 (h:Eng w f v s Z) (hs:SuIn s) (ht:t<s.n) (hf:¬ finE Z.X.H.E t) (hN:Z.X.H.N<4611686018427387904):Calls Tryz.prog 15 #[.pointer (some ⟨f.b,0,none⟩),.int .i64 (t:Int)] w fun r w'=>r=.returned (.tuple #[.bool true,.int .i64 0])/\Hid (∃ v',Eng w' f v' s (ad2 s Z t)/\Ext f v v' w w'):=by
 have wi:=h.wi;have rn:=h.rn;obtain⟨d,h,fi⟩:=h.at_;have HA:=zH (a74 h hs (t:Int));rw[show (decide (0<=(t:Int)) && decide ((t:Int)<(s.n:Int)))=true by simp;omega]at HA;obtain⟨qa,qc,hc⟩:=fi.cr t ht;obtain⟨c0,c1,c2,lc⟩:=h.course ht hc;have HF:=zH (ad4 c0 c1 c2);rw[show finI (Z.X.H.E.B t:Int) (goI Z.X t) (s.cs t).length=false by
  unfold finI;rw[Bool.and_eq_false_iff]
  cases e:Z.X.H.E.T t with
  | none =>
   refine .inr (zU fun q=>hf ⟨e,?_⟩);rw[wi.nc];dsimp only;omega
  | some y =>
   refine .inl (zU fun q=>?_);rw[ab2 e]at q;omega]at HF
 have k13:=(h.cell 13).trans (rfl:_=some (Value.slice (some ⟨f.gc,0,none⟩) s.n s.n));have lb:=h.ltB;have hti:(t:Int)<(s.n:Int):=by omega
 have h8:(s.n:Int)<=8:=by have:=(wi.n8 hs).2;omega
 have n0:0<=d.N:=by rw[fi.N];omega
 have n1:d.N<4611686018427387904:=by rw[fi.N];omega
 have HS:Hid (∀ u,Same w u->(u.cell? ⟨f.b,15,none⟩=some (.int .i64 d.N)/\u.frozen? ⟨f.b,15,none⟩=false/\u.cell? ⟨f.gc,t*3+2,none⟩=some (.int .i64 (goI Z.X t))/\f.b<u.heap.size/\f.gc<u.heap.size/\¬ f.gc=f.b)/\EnAt (u.setCell ⟨f.b,15,none⟩ (.int .i64 (d.N+1))) f v s { d with N:=d.N+1 }/\Ext f v v w (u.setCell ⟨f.b,15,none⟩ (.int .i64 (d.N+1)))):=fun u hu=>by
  have h1:=h.same hu;obtain⟨k1,k2⟩:=h1.setN (d.N+1);exact⟨⟨(h1.cell 15).trans rfl,h1.free 15,(h1.course ht hc).2.2.1,h1.ltB,h1.crs.lt,fun e=>h1.apart 3 0 (by omega) f.gc (by simp[own]) (by simp[own,e])⟩,k1,(Ext.of_below (hu.below _)).trans k2⟩
 cases hT:Z.X.H.E.T t with
 | none =>
  have hB:=wi.less ht hf hT;rw[ai5 hT]at HS hc;obtain⟨y,hy⟩:∃ y,newT s t (s.call t (Z.X.H.E.B t))=y:=⟨_,rfl⟩
  have HBG:Hid (∀ u,EnAt u f v s { d with N:=d.N+1 }/\Ext f v v w u->Calls Tryz.prog 43 #[.pointer (some ⟨f.b,0,none⟩),.int .i64 (t:Int)] u fun r w'=>r=.returned (.tuple #[])/\Hid (∃ v' bx,v'.tb=updN v.tb t bx/\EnAt w' f v' s { d with N:=d.N+1,T:=upT d.T t (some y),dn:=d.dn+1,tr:=updA d.tr d.dn (trU (txV y bx) t (Z.X.H.E.B t) (s.call t (Z.X.H.E.B t)).1 (d.N+1) 0 d.rd.o),cr:=updA d.cr t #[.slice qa (s.cs t).length qc,.int .i64 ((Z.X.H.E.B t+1:Nat):Int),.int .i64 (d.dn:Int)] }/\Ext f v v' w w')):=fun u hu=>by
   refine(aX2 hu.1 hs ht hB hc (by show d.T t=none;rw[fi.T];exact hT) (by show d.dn<=512;rw[fi.dn];exact wi.few hs)).mono ?_;rintro r w' ⟨rfl,q⟩;obtain⟨v',bx,k1,k2,k3⟩:=q.out;rw[hy]at k2;exact⟨rfl,v',bx,k1,k2,hu.2.trans k3⟩
  have HAD:Hid (∀ u,(∃ v' bx,v'.tb=updN v.tb t bx/\EnAt u f v' s { d with N:=d.N+1,T:=upT d.T t (some y),dn:=d.dn+1,tr:=updA d.tr d.dn (trU (txV y bx) t (Z.X.H.E.B t) (s.call t (Z.X.H.E.B t)).1 (d.N+1) 0 d.rd.o),cr:=updA d.cr t #[.slice qa (s.cs t).length qc,.int .i64 ((Z.X.H.E.B t+1:Nat):Int),.int .i64 (d.dn:Int)] }/\Ext f v v' w u)->Calls Tryz.prog 44 #[.pointer (some ⟨f.b,0,none⟩),.int .i64 (t:Int)] u fun r w'=>r=.returned (.tuple #[])/\Hid (∃ v',Eng w' f v' s (ad2 s Z t)/\Ext f v v' w w')):=fun u hu=>by
   obtain⟨v',bx,k1,k2,k3⟩:=hu;refine(bp9 fi wi rn hs ht hT hB hN k1 hy k2).mono ?_;rintro r w' ⟨rfl,q⟩;obtain⟨v'',j1,j2⟩:=q.out;exact⟨rfl,v'',j1,k3.trans j2⟩
  clear h c0 c1 c2 fi wi hf hs hc rn hy hT hB hN;go_enter Tryz.func15,Tryz.ntmps15
  go_wp2_with (first
   | (go_at_call 44;refine(HAD.out _ H4.out).mono ?_;rintro r w5 ⟨rfl,q⟩;have H5:=zH q.out;clear q)
   | (go_at_call 43;refine(HBG.out _ (HS.out _ H2.out).2).mono ?_;rintro r w4 ⟨rfl,q⟩;have H4:=zH q.out;clear q k15 f15 k2 lb lc hgb;obtain⟨v4,bx4,_,z2,_⟩:=H4.out;have lb:=z2.ltB;clear z2)
   | (go_at_call 42;refine HF.out.mono ?_;rintro r w2 ⟨rfl,q⟩;have H2:=zH q;clear k13 lb lc;obtain⟨k15,f15,k2,lb,lc,hgb⟩:=(HS.out _ q).1;clear q)
   | (go_at_call 41;refine HA.out.mono ?_;rintro r w1 ⟨rfl,hw⟩;subst w1))
  go_ret2;exact⟨rfl,H5.out⟩
 | some y =>
  have HAD:Hid (∀ u,EnAt u f v s { d with N:=d.N+1 }/\Ext f v v w u->Calls Tryz.prog 44 #[.pointer (some ⟨f.b,0,none⟩),.int .i64 (t:Int)] u fun r w'=>r=.returned (.tuple #[])/\Hid (∃ v',Eng w' f v' s (ad2 s Z t)/\Ext f v v' w w')):=fun u hu=>by
   refine(bq0 fi wi rn hs ht hT hN hu.1).mono ?_;rintro r w' ⟨rfl,q⟩;obtain⟨v'',j1,j2⟩:=q.out;exact⟨rfl,v'',j1,hu.2.trans j2⟩
  rw[ab2 hT]at HS;obtain⟨i,hi⟩:∃ i,Z.X.H.at_ t=i:=⟨_,rfl⟩
  rw[hi]at HS;have hib:((i:Int) == -1)=false:=by simp
  clear h c0 c1 c2 fi wi hf hs hc rn hT hN hi;go_enter Tryz.func15,Tryz.ntmps15
  go_wp2_with (first
   | (go_at_call 44;refine(HAD.out _ (HS.out _ H2.out).2).mono ?_;rintro r w5 ⟨rfl,q⟩;have H5:=zH q.out;clear q)
   | (go_at_call 42;refine HF.out.mono ?_;rintro r w2 ⟨rfl,q⟩;have H2:=zH q;clear k13 lb lc;obtain⟨k15,f15,k2,lb,lc,hgb⟩:=(HS.out _ q).1;clear q)
   | (go_at_call 41;refine HA.out.mono ?_;rintro r w1 ⟨rfl,hw⟩;subst w1))
  go_ret2;exact⟨rfl,H5.out⟩
end
end Go.Proofs.YtlkldgopliablaaGreatDoor.En
namespace Go.Proofs.YtlkldgopliablaaGreatDoor.Sd
open Go.ChangeShapes Go.WideShapes Go.ChangeAt Go.RowKit
theorem b23:(Tryz.prog.info? 3).map (fun i=>(i.zero,i.size,i.bytes))=some (some (.int .i64 0),1,8):=by kernel_rfl
def IntsAt (w:World) (p:Option Addr) (n:Nat) (x:Nat->Int):Prop :=
 ∀ i,i<n->∃ g o,p=some ⟨g,o,none⟩/\g<w.heap.size/\w.cell? ⟨g,o+i,none⟩=some (.int .i64 (x i))
theorem bJ7 (n:Nat) (hn:n<=65536) (w:World):(Instr.makeSlice 36 (.int .i64 (n:Int)) (.int .i64 (n:Int))).run Tryz.prog w=.ok (.slice (some ⟨w.heap.size,0,none⟩) n n) (w.alloc (.cells (i64s (List.replicate n 0)).toArray 3)):=by
 obtain⟨i,hi,hz0,hz1,hz2⟩:=info_parts b23;rw[run_make w 36 3 i (.int .i64 0) Tryz.underlying36 hi hz0 .i64 .i64 n n (by omega) (zW _) (by rw[hz2];omega) (by omega)];have e:(madeCells (.int .i64 0:Value).cells (((n:Int)).toNat*i.size))=(i64s (List.replicate n 0)).toArray:=by
  rw[hz1,Nat.mul_one,Int.toNat_natCast]
  apply Array.toList_inj.1
  rw[show (.int .i64 0:Value).cells=#[.int .i64 0] from rfl,toList_madeCells_one]
  simp[i64s]
 rw[e,Int.toNat_natCast]
theorem row_put {E:TypeId} {w:World} {g c:Nat} {xs:List Value} (h:RowAt E w (some ⟨g,0,none⟩) c xs) (i:Nat) (z:Value):RowAt E (w.setCell ⟨g,i,none⟩ z) (some ⟨g,0,none⟩) c (xs.set i z)/\Turn [g] [g] w (w.setCell ⟨g,i,none⟩ z):=by
 obtain⟨hs,_⟩:=h.own.stored i z;refine⟨⟨?_⟩,a24 w g i z⟩;rw[List.length_set];exact hs
theorem row_get {E:TypeId} {w:World} {g c:Nat} {xs:List Value} (h:RowAt E w (some ⟨g,0,none⟩) c xs) {j:Nat} {v:Value} (hv:xs[j]?=some v):w.cell? ⟨g,j,none⟩=some v/\w.frozen? ⟨g,j,none⟩=false/\g<w.heap.size:=by
 rcases h.own.2 with⟨q,_⟩ | ⟨g',cap,cur,hq,_,hg,_⟩
 ·cases q
 ·cases hq
  refine⟨?_,zZ w g j _ _ hg,lt_of_block hg⟩;have:=World.ownsRow.cells h.own (g:=g) rfl j v hv;rwa[show (⟨g,0,none⟩:Addr).add j=⟨g,j,none⟩ by unfold Addr.add;split <;> simp_all]at this
theorem tmod_range (n t:Int) (h1:1<=t):-t<n.tmod t/\n.tmod t<t:=by
 refine⟨?_,Int.tmod_lt_of_pos n (by omega)⟩;have h:=Int.tmod_lt_of_pos (-n) (b:=t) (by omega);rw[Int.neg_tmod]at h;omega
theorem tmod_emod' (n t:Int):n.tmod t % t=n % t:=by
 have h:=Int.mul_tdiv_add_tmod n t
 conv=>rhs;rw[<- h]
 rw[Int.mul_add_emod_self_left]
theorem bd6 (n t:Int) (h1:1<=t):(n.tmod t+t).tmod t=n % t:=by
 have r:=tmod_range n t h1;have e:(n.tmod t+t) % t=n.tmod t % t:=by simp
 rw[Int.tmod_eq_emod_of_nonneg (by omega),e,tmod_emod']
theorem bd5 (n t:Int) (h1:1<=t) (h8:t<=8) (w:World):Calls Tryz.prog 79 #[.int .i64 n,.int .i64 t] w fun e w'=>e=.returned (.int .i64 (n % t))/\w'=w:=by
 have r:=tmod_range n t h1;have e:(wrap64 (n.tmod t+t)).tmod t=n % t:=by
  rw[Go.IntWalk.wrap64_in _ ⟨by omega,by omega⟩];exact bd6 n t h1
 have HE:=zH e;clear e r;go_enter Tryz.func79,Tryz.ntmps79
 go_wp2
 go_ret;exact⟨by rw[HE.out];rfl,rfl⟩
def mix (y:Nat->Int) (n i:Nat):List Int:=(List.range n).map fun k=>if k<i then y k else 0
theorem b39 (y:Nat->Int) (n i:Nat):(mix y n i).length=n:=by simp[mix]
theorem bg0 (y:Nat->Int) (n:Nat):List.replicate n 0=mix y n 0:=by
 apply List.ext_getElem
 ·simp[mix]
 ·intro k h1 h2
  simp[mix]
theorem bu2 (y:Nat->Int) (n i:Nat):(mix y n i).set i (y i)=mix y n (i+1):=by
 apply List.ext_getElem
 ·simp[mix]
 ·intro k h1 h2
  rw[List.getElem_set]
  by_cases h:i=k
  ·subst h
   simp[mix]
  ·have e:(k<i+1)=(k<i):=by simp;omega
   simp[mix,h,e]
theorem be1 (l:List Int) (i:Nat) (x:Int):(i64s l).set i (.int .i64 x)=i64s (l.set i x):=by simp[i64s,List.map_set]
theorem row_made (w:World) (n:Nat) (hn:n<=65536) (y:Nat->Int):RowAt 3 (w.alloc (.cells (i64s (List.replicate n 0)).toArray 3)) (some ⟨w.heap.size,0,none⟩) n (i64s (mix y n 0)):=by
 rw[bg0 y n];refine⟨?_⟩;rw[a39,b39];exact World.ownsRow_lit w _ n (zV _) (by unfold maxLen;omega) (by rw[List.size_toArray,a39,b39,Nat.mul_one])
section
variable {w:World} {p:Option Addr} {n c:Nat} {x:Nat->Int} {t:Int}
theorem Fold_yes (h1:1<=t) (h8:t<=8) (hn:n<=65536) (hx:IntsAt w p n x):Calls Tryz.prog 39 #[.slice p n c,.int .i64 t] w fun e w'=>∃ g,e=.returned (.tuple #[.slice (some ⟨g,0,none⟩) n n,.int .i64 0])/\g=w.heap.size/\RowAt 3 w' (some ⟨g,0,none⟩) n (i64s (mix (fun i=>x i % t) n n))/\Bl w w':=by
 have H1:=zH (a82 t);have ht:mayT t=true:=zT ⟨h1,h8⟩;rw[ht]at H1;clear ht;have hn':¬ (65536:Int)<(n:Int):=by omega
 have HX:=zH hx;have hmk:=bJ7 n hn w;have HR:=zH (row_made w n hn (fun i=>x i % t));have HB:=zH ((zF w.heap.size w).alloc (zE _) (.cells (i64s (List.replicate n 0)).toArray 3));have HF:=zH (fun a w=>bd5 a t h1 h8 w);clear hx
 generalize hWW:w.alloc (.cells (i64s (List.replicate n 0)).toArray 3)=w0 at hmk HR HB
 clear hWW;obtain⟨g,hg⟩:∃ g,g=w.heap.size:=⟨_,rfl⟩
 rw[<- hg]at hmk HR;have HG:=zH hg;clear hg;go_enter Tryz.func39,Tryz.ntmps39
 go_wp2_with (go_at_call 78;refine(H1.out _).mono ?_;rintro e w1 ⟨rfl,hw⟩;subst w1)
 go_loopw [20] (fun vi wr=>∃ i:Nat,vi=.int .i64 i/\i<=n/\Hid (RowAt 3 wr (some ⟨g,0,none⟩) n (i64s (mix (fun i=>x i % t) n i))/\Bl w wr)) (fun vi _=>n - (intOf vi).toNat)
 case atStart=>exact⟨0,rfl,zV _,HR.out,HB.out⟩
 case round =>
  obtain⟨i,rfl,hi,HQ⟩:=hrel
  by_cases hlt:i<n
  ·have hlt':(i:Int)<(n:Int):=by omega
   obtain⟨ga,oa,hpa,ga1,hca⟩:=HX.out i hlt;subst hpa;rw[<- HQ.out.2.cell (p:=⟨ga,oa+i,none⟩) ga1]at hca;have ga2:=zL ga1 HQ.out.2.size;obtain⟨j1,j2,j3⟩:=row_get HQ.out.1 (j:=i) (v:=.int .i64 0) (by simp[i64s,mix,hlt]);have HN:Hid (RowAt 3 (wr.setCell ⟨g,i,none⟩ (.int .i64 (x i % t))) (some ⟨g,0,none⟩) n (i64s (mix (fun i=>x i % t) n (i+1)))/\Bl w (wr.setCell ⟨g,i,none⟩ (.int .i64 (x i % t)))):=by
    obtain⟨q1,q2⟩:=row_put HQ.out.1 i (.int .i64 (x i % t));rw[be1,bu2 (fun i=>x i % t)]at q1;exact⟨q1,HQ.out.2.trans (q2.below (fun k hk=>by simp at hk;have:=HG.out;omega) HQ.out.2.size)⟩
   clear HQ HR HB hmk HX ga1
   generalize x i=y at hca HN
   go_wp2_with (go_at_call 79;refine(HF.out _ _).mono ?_;rintro e w1 ⟨rfl,hw⟩;subst w1)
   exact⟨⟨i+1,by first | rfl | (congr 1),by omega,HN⟩,by simp[intOf];omega⟩
  ·have hlt':¬ (i:Int)<(n:Int):=by omega
   obtain rfl:i=n:=by omega
   clear hmk
   go_wp2
   go_ret2;exact⟨_,rfl,HG.out,HQ.out.1,HQ.out.2⟩
end
end Go.Proofs.YtlkldgopliablaaGreatDoor.Sd
namespace Go.Proofs.YtlkldgopliablaaGreatDoor.En
open Go.ChangeShapes Go.WideShapes Go.ChangeAt Go.RowKit Num Ww
open Rr (Rx a25 InX okW u64B Alike step_in newX a30)
def oneZ (s:Su) (Z:Es) (t:Nat):Es:=if finB Z.X.H.E t then Z else ad2 s Z t
def runZ (s:Su) (Z:Es) (y:Nat->Nat):Nat->Es
 | 0=>Z
 | k+1=>oneZ s (runZ s Z y k) (y k)
def didZ (s:Su) (Z:Es) (y:Nat->Nat):Nat->Nat
 | 0=>0
 | k+1=>didZ s Z y k+(!finB (runZ s Z y k).X.H.E (y k)).toNat
theorem aZ5 (s:Su) (Z:Es) (y:Nat->Nat):∀ k,didZ s Z y k<=k
 | 0=>zE _
 | k+1=>by
  have:=aZ5 s Z y k
  show didZ s Z y k+(!finB (runZ s Z y k).X.H.E (y k)).toNat<=k+1
  cases finB (runZ s Z y k).X.H.E (y k) <;> simp <;> omega
section
variable {w w':World} {f:Ex} {v v':Ev} {s:Su} {Z:Es} {t:Nat}
theorem Eng.on (h:Eng w f v s Z) (k:Bl w w'):Eng w' f v s Z:=by
 obtain⟨⟨d,h1,h2⟩,h3,h4⟩:=h;exact⟨⟨d,h1.on k,h2⟩,h3,h4⟩
theorem Eng.same (h:Eng w f v s Z) (k:Same w w'):Eng w' f v s Z:=h.on (k.below _)
theorem bD9 (s:Su) (Z:Es) (t:Nat) (wi:WI s Z.X):(oneZ s Z t).X.H.N<=Z.X.H.N+1:=by
 unfold oneZ
 cases hf:finB Z.X.H.E t with
 | true=>exact Nat.le_succ _
 | false =>
  show (stepR Z.X t).H.N<=_
  cases hT:Z.X.H.E.T t with
  | none=>rw[(ay7 wi hT rfl).N];exact zE _
  | some y=>rw[(aq4 hT).N];exact zE _
theorem step_any (h:Eng w f v s Z) (hs:SuIn s) (ht:t<s.n) (hN:Z.X.H.N<4611686018427387904):Calls Tryz.prog 15 #[.pointer (some ⟨f.b,0,none⟩),.int .i64 (t:Int)] w fun r w'=>r=.returned (.tuple #[.bool (!finB Z.X.H.E t),.int .i64 0])/\Hid (∃ v',Eng w' f v' s (oneZ s Z t)/\Ext f v v' w w'):=by
 unfold oneZ
 cases hf:finB Z.X.H.E t with
 | true =>
  refine(aQ1 h hs ht (zP hf)).mono ?_;rintro r w' ⟨rfl,k⟩;exact⟨rfl,v,h.same k,Ext.of_below (k.below _)⟩
 | false=>exact bl7 h hs ht (zM hf) hN
theorem aL9 (hs:SuIn s) (wi:WI s Z.X) {y:Nat->Nat}:∀ k,(∀ i,i<k->y i<s.n)->WI s (runZ s Z y k).X/\(runZ s Z y k).X.H.N<=Z.X.H.N+k
 | 0,_=>⟨wi,zE _⟩
 | k+1,hy=>by
  obtain⟨h1,h2⟩:=aL9 hs wi k (fun i hi=>hy i (by omega));have hk:=hy k (by omega);have:=bD9 s _ (y k) h1;refine⟨?_,by show (oneZ s (runZ s Z y k) (y k)).X.H.N<=_;omega⟩
  show WI s (oneZ s (runZ s Z y k) (y k)).X
  unfold oneZ
  cases hf:finB (runZ s Z y k).X.H.E (y k) with
  | true=>exact h1
  | false=>exact h1.step hs hk (zM hf)
theorem b68 {g c:Nat} {xs:List Value} (h:RowAt 3 w (some ⟨g,0,none⟩) c xs) (e:Ext f v v' w w') (hn:g∉fF f v):RowAt 3 w' (some ⟨g,0,none⟩) c xs:=h.keep ⟨e.turn.size,fun i hi=>by
 have:i=g:=by simpa[fpR]using hi
 subst this;exact e.turn.block i (h.blw i hi) hn⟩
theorem bx8 (h:Eng w f v s Z) (hs:SuIn s) {p:Option Addr} {n c:Nat} {x:Nat->Int} (hx:Sd.IntsAt w p n x) (hn:n<=65536) (hN:Z.X.H.N+65536<4611686018427387904) {y:Nat->Nat} (hy:∀ i,i<n->x i % s.b=(y i:Int)/\y i<s.n) :
  Calls Tryz.prog 12 #[.pointer (some ⟨f.b,0,none⟩),.slice p n c] w fun r w'=>r=.returned (.tuple #[.int .i64 (didZ s Z y n:Int),.int .i64 0])/\Hid (∃ v',Eng w' f v' s (runZ s Z y n)/\Ext f v v' w w'):=by
 have b8:=hs.b8;have hnb:=hs.nb;obtain⟨d,h0,fi⟩:=h.at_;have wi:=h.wi;have HF:=zH (Sd.Fold_yes (c:=c) b8.1 b8.2 hn hx);rw[<- hnb]at HF;have k13:=(h0.cell 13).trans (rfl:_=some (Value.slice (some ⟨f.gc,0,none⟩) s.n s.n));have lb:=h0.ltB;have hn1:(s.n:Int)<=8:=by omega
 have HG:Hid (w.heap.size∉fF f v):=fun q=>by
  obtain⟨j,_,_,q⟩:=ao5.1 q;exact h0.new (zE _) j q
 have HE:=zH h;have HST:Hid (∀ (k:Nat) (wr:World) v',k<n->Eng wr f v' s (runZ s Z y k)->Calls Tryz.prog 15 #[.pointer (some ⟨f.b,0,none⟩),.int .i64 (y k:Int)] wr fun r w'=>r=.returned (.tuple #[.bool (!finB (runZ s Z y k).X.H.E (y k)),.int .i64 0])/\Hid (∃ v'',Eng w' f v'' s (runZ s Z y (k+1))/\Ext f v' v'' wr w')):=fun k wr v' hk e=>by
  have:=(aL9 hs wi k (fun i hi=>(hy i (by omega)).2)).2;exact step_any e hs (hy k hk).2 (by omega)
 have HY:Hid (∀ i,i<n->x i % (s.n:Int)=(y i:Int)):=fun i hi=>by rw[hnb];exact(hy i hi).1
 have HD:=zH (aZ5 s Z y);clear h h0 fi wi b8 hnb hx hy hs hN;go_enter Tryz.func12,Tryz.ntmps12
 go_wp2_with (go_at_call 39;refine HF.out.mono ?_;rintro r w1 ⟨g,rfl,hg,q1,q2⟩;have H1:=zH (And.intro q1 (And.intro q2 hg));clear q1 q2 hg HF k13)
 have H0:Hid (∃ v',Eng w1 f v' s (runZ s Z y 0)/\Ext f v v' w w1/\RowAt 3 w1 (some ⟨g,0,none⟩) n (i64s (Sd.mix (fun i=>x i % (s.n:Int)) n n))/\g∉fF f v'):=⟨v,HE.out.on H1.out.2.1,Ext.of_below H1.out.2.1,H1.out.1,by rw[H1.out.2.2];exact HG.out⟩;clear lb H1 HE HG
 go_loopw [8,28] (fun v8 v28 wr=>∃ k:Nat,v28=.int .i64 (k:Int)/\v8=.int .i64 (didZ s Z y k:Int)/\k<=n/\Hid (∃ v',Eng wr f v' s (runZ s Z y k)/\Ext f v v' w wr/\RowAt 3 wr (some ⟨g,0,none⟩) n (i64s (Sd.mix (fun i=>x i % (s.n:Int)) n n))/\g∉fF f v')) (fun v8 v28 _=>n - (intOf v28).toNat)
 case atStart=>exact⟨0,rfl,rfl,zV _,H0.out⟩
 case round =>
  obtain⟨k,rfl,rfl,hk,HR⟩:=hrel;clear H0
  by_cases hlt:k<n
  ·have hlt':(k:Int)<(n:Int):=by omega
   obtain⟨v',z1,z2,z3,z4⟩:=HR.out;have hcell:(i64s (Sd.mix (fun i=>x i % (s.n:Int)) n n))[k]?=some (.int .i64 (y k:Int)):=by
    unfold i64s Sd.mix
    simp[hlt]
    exact HY.out k hlt
   obtain⟨ck,_,lg⟩:=Sd.row_get z3 hcell;have HQ:=zH (And.intro z1 (And.intro z2 (And.intro z3 z4)));have HS1:=zH (HST.out k wr v' hlt z1);have HB:Hid (didZ s Z y (k+1)=didZ s Z y k+(!finB (runZ s Z y k).X.H.E (y k)).toNat):=rfl;have hd:=HD.out k;clear z1 z2 z3 z4 hcell HR HST HY
   generalize finB (runZ s Z y k).X.H.E (y k)=fb at *
   cases fb with
   | true =>
    go_wp2_with (go_at_call 15;refine HS1.out.mono ?_;rintro r w2 ⟨rfl,q⟩;have H2:=zH q.out;clear q HS1)
    obtain⟨v'',j1,j2⟩:=H2.out;refine⟨⟨k+1,by first | rfl | (congr 1),by rw[HB.out];rfl,by omega,v'',j1,HQ.out.2.1.trans j2,b68 HQ.out.2.2.1 j2 HQ.out.2.2.2,fun q=>?_⟩,by simp[intOf];omega⟩
    rcases j2.turn.own g q with q | q
    ·exact HQ.out.2.2.2 q
    ·omega
   | false =>
    go_wp2_with (go_at_call 15;refine HS1.out.mono ?_;rintro r w2 ⟨rfl,q⟩;have H2:=zH q.out;clear q HS1)
    obtain⟨v'',j1,j2⟩:=H2.out;refine⟨⟨k+1,by first | rfl | (congr 1),by rw[HB.out];first | rfl | (congr 1),by omega,v'',j1,HQ.out.2.1.trans j2,b68 HQ.out.2.2.1 j2 HQ.out.2.2.2,fun q=>?_⟩,by simp[intOf];omega⟩
    rcases j2.turn.own g q with q | q
    ·exact HQ.out.2.2.2 q
    ·omega
  ·obtain rfl:k=n:=by omega
   have hlt':¬ (k:Int)<(k:Int):=by omega
   clear HST HY;go_wp2_with fail;go_ret2;obtain⟨v',z1,z2,_,_⟩:=HR.out;exact⟨rfl,v',z1,z2⟩
end
def ovB (E:Eg):Nat->Bool
 | 0=>true
 | k+1=>ovB E k && finB E k
theorem bp1 {E:Eg} {k:Nat} (h:finB E k=false):∀ n,k<n->ovB E n=false
 | 0,q=>absurd q (zI _)
 | n+1,q=>by
  show (ovB E n && finB E n)=false
  by_cases e:k=n
  ·rw[<- e,h,Bool.and_false]
  ·rw[bp1 h n (by omega),Bool.false_and]
section
variable {w w':World} {f:Ex} {v v':Ev} {s:Su} {Z:Es} {t:Nat}
theorem Eng.fin (h:Eng w f v s Z) (ht:t<s.n):Calls Tryz.prog 42 #[.pointer (some ⟨f.gc,t*3,none⟩)] w fun e w'=>e=.returned (.bool (finB Z.X.H.E t))/\Same w w':=by
 have wi:=h.wi;obtain⟨d,h,fi⟩:=h.at_;obtain⟨qa,qc,hc⟩:=fi.cr t ht;obtain⟨c0,c1,c2,lc⟩:=h.course ht hc;have:=ad4 c0 c1 c2;rw[show finI (Z.X.H.E.B t:Int) (goI Z.X t) (s.cs t).length=finB Z.X.H.E t by
  unfold finI
  cases e:Z.X.H.E.T t with
  | none =>
   rw[ai5 e,as3 e,wi.nc,zT rfl,Bool.true_and]
   show decide ((Z.X.H.E.B t:Int)=((s.cs t).length:Int))=decide (Z.X.H.E.B t=(s.cs t).length)
   exact decide_eq_decide.2 ⟨fun q=>by omega,fun q=>by omega⟩
  | some y =>
   rw[ab2 e,as4 e,zU (by omega),Bool.false_and]]at this
 exact this
theorem Eng.cells (h:Eng w f v s Z):(w.cell? ⟨f.b,11,none⟩=some (.pointer (some ⟨f.mb,0,none⟩))/\w.cell? ⟨f.b,12,none⟩=some (.pointer (some ⟨f.rb,0,none⟩))/\w.cell? ⟨f.b,13,none⟩=some (.slice (some ⟨f.gc,0,none⟩) s.n s.n)/\w.cell? ⟨f.b,15,none⟩=some (.int .i64 (Z.X.H.N:Int))/\f.b<w.heap.size)/\(∃ o,MemAt 145 w f.mb f.mg Z.X.H.E.ws o Z.X.H.E.cnt)/\Sd.RdAt w f.rb (rdZ s Z.X):=by
 obtain⟨d,h,fi⟩:=h.at_;have hm:=h.mem;have hr:=h.rds;rw[fi.ws,fi.cnt]at hm;rw[fi.rd]at hr;exact⟨⟨(h.cell 11).trans rfl,(h.cell 12).trans rfl,(h.cell 13).trans rfl,by rw[<- fi.N];exact(h.cell 15).trans rfl,h.ltB⟩,hm,hr⟩
theorem aH7 (h:Eng w f v s Z):Calls Tryz.prog 17 #[.pointer (some ⟨f.b,0,none⟩)] w fun r w'=>r=.returned (.int .i64 (Z.X.H.N:Int))/\w'=w:=by
 obtain⟨⟨_,_,_,c,lb⟩,_⟩:=h.cells;go_enter Tryz.func17,Tryz.ntmps17;go_wp2_with fail;go_ret;exact⟨rfl,rfl⟩
theorem ax4 (h:Eng w f v s Z):Calls Tryz.prog 18 #[.pointer (some ⟨f.b,0,none⟩)] w fun r w'=>r=.returned (.int .i64 (Z.X.R:Int))/\w'=w:=by
 obtain⟨⟨_,c,_,_,lb⟩,_,hr⟩:=h.cells;have HR:=zH (Sd.over_any hr);clear hr;go_enter Tryz.func18,Tryz.ntmps18
 go_wp2_with (go_at_call 51;refine HR.out.mono ?_;rintro r w1 ⟨rfl,hw⟩;subst w1)
 go_ret;exact⟨rfl,rfl⟩
theorem count_any (h:Eng w f v s Z):Calls Tryz.prog 14 #[.pointer (some ⟨f.b,0,none⟩)] w fun r w'=>r=.returned (.int .i64 Z.X.H.E.cnt)/\w'=w:=by
 obtain⟨⟨c,_,_,_,lb⟩,⟨o,hm⟩,_⟩:=h.cells;have HR:=zH (Md.count_any hm);clear hm;go_enter Tryz.func14,Tryz.ntmps14
 go_wp2_with (go_at_call 40;refine HR.out.mono ?_;rintro r w1 ⟨rfl,hw⟩;subst w1)
 go_ret;exact⟨rfl,rfl⟩
theorem aI3 (h:Eng w f v s Z):Calls Tryz.prog 25 #[.pointer (some ⟨f.b,0,none⟩)] w fun r w'=>r=.returned (.slice (some ⟨w.heap.size,0,none⟩) Z.X.H.E.ws.length Z.X.H.E.ws.length)/\Md.RowAt w' w.heap.size Z.X.H.E.ws/\Bl w w':=by
 obtain⟨⟨c,_,_,_,lb⟩,⟨o,hm⟩,_⟩:=h.cells;have HR:=zH (Md.all_any hm);clear hm;go_enter Tryz.func25,Tryz.ntmps25
 go_wp2_with (go_at_call 59;refine HR.out.mono ?_;rintro r w1 ⟨rfl,q1,q2⟩;have HQ:=zH (And.intro q1 q2);clear q1 q2)
 go_ret;exact⟨rfl,HQ.out.1,HQ.out.2⟩
theorem aJ7 (h:Eng w f v s Z) (hs:SuIn s) (x:Int) (hx:¬ (0<=x/\x<(s.n:Int))):Calls Tryz.prog 20 #[.pointer (some ⟨f.b,0,none⟩),.int .i64 x] w fun r w'=>r=.returned (.tuple #[.bool false,.int .i64 100])/\w'=w:=by
 obtain⟨d,h,_⟩:=h.at_;have HA:=zH (a74 h hs x);rw[show (decide (0<=x) && decide (x<(s.n:Int)))=false by simp;omega]at HA;clear h hx;go_enter Tryz.func20,Tryz.ntmps20
 go_wp2_with (go_at_call 41;refine HA.out.mono ?_;rintro r w1 ⟨rfl,hw⟩;subst w1)
 go_ret2;exact⟨rfl,rfl⟩
theorem aE2 (h:Eng w f v s Z) (hs:SuIn s) (ht:t<s.n):Calls Tryz.prog 20 #[.pointer (some ⟨f.b,0,none⟩),.int .i64 (t:Int)] w fun r w'=>r=.returned (.tuple #[.bool (finB Z.X.H.E t),.int .i64 0])/\Same w w':=by
 have HF:=zH (h.fin ht);obtain⟨⟨_,_,k13,_,lb⟩,_⟩:=h.cells;have h8:(s.n:Int)<=8:=by have:=hs.nb;have:=hs.b8;omega
 have hti:(t:Int)<(s.n:Int):=by omega
 obtain⟨d,h,_⟩:=h.at_;have HA:=zH (a74 h hs (t:Int));rw[show (decide (0<=(t:Int)) && decide ((t:Int)<(s.n:Int)))=true by simp;omega]at HA;clear h;go_enter Tryz.func20,Tryz.ntmps20
 go_wp2_with (first
  | (go_at_call 42;refine HF.out.mono ?_;rintro r w2 ⟨rfl,q⟩;have H2:=zH q;clear q)
  | (go_at_call 41;refine HA.out.mono ?_;rintro r w1 ⟨rfl,hw⟩;subst w1))
 go_ret2;exact⟨rfl,H2.out⟩
theorem over_any (h:Eng w f v s Z) (hs:SuIn s):Calls Tryz.prog 23 #[.pointer (some ⟨f.b,0,none⟩)] w fun r w'=>r=.returned (.bool (ovB Z.X.H.E s.n))/\Same w w':=by
 have HC:Hid (∀ u,Same w u->u.cell? ⟨f.b,13,none⟩=some (.slice (some ⟨f.gc,0,none⟩) s.n s.n)/\f.b<u.heap.size):=fun u hu=>⟨((h.same hu).cells).1.2.2.1,((h.same hu).cells).1.2.2.2.2⟩
 have HF:Hid (∀ u k,Same w u->k<s.n->Calls Tryz.prog 42 #[.pointer (some ⟨f.gc,k*3,none⟩)] u fun e w'=>e=.returned (.bool (finB Z.X.H.E k))/\Same w w'):=fun u k hu hk=>((h.same hu).fin hk).mono fun e w' q=>⟨q.1,hu.trans q.2⟩
 obtain⟨k13,lb⟩:=HC.out w (Same.refl w);have h8:(s.n:Int)<=8:=by have:=hs.nb;have:=hs.b8;omega
 clear h hs;go_enter Tryz.func23,Tryz.ntmps23;go_wp2_with fail;clear k13 lb
 go_loopw [2,9] (fun v2 v9 wr=>∃ k:Nat,v9=.int .i64 (k:Int)/\v2=.bool false/\k<=s.n/\Hid (Same w wr/\ovB Z.X.H.E k=true)) (fun v2 v9 _=>s.n - (intOf v9).toNat)
 case atStart=>exact⟨0,rfl,rfl,zV _,Same.refl w,rfl⟩
 case round =>
  obtain⟨k,rfl,rfl,hk,HR⟩:=hrel
  by_cases hlt:k<s.n
  ·have hlt':(k:Int)<(s.n:Int):=by omega
   obtain⟨k13,lb⟩:=HC.out wr HR.out.1;have HF1:=zH (HF.out wr k HR.out.1 hlt);have HE:Hid (∀ b,finB Z.X.H.E k=b->(b=false->ovB Z.X.H.E s.n=false)/\(b=true->ovB Z.X.H.E (k+1)=true)):=fun b e=>⟨fun q=>bp1 (e.trans q) _ hlt,fun q=>by show (ovB Z.X.H.E k && finB Z.X.H.E k)=true;rw[HR.out.2,e,q];rfl⟩
   clear HF
   cases fb:finB Z.X.H.E k with
   | true =>
    rw[fb]at HF1
    go_wp2_with (go_at_call 42;refine HF1.out.mono ?_;rintro r w2 ⟨rfl,q⟩;have H2:=zH q;clear q HF1)
    exact⟨⟨k+1,by first | rfl | (congr 1),rfl,by omega,H2.out,(HE.out _ fb).2 rfl⟩,by simp[intOf];omega⟩
   | false =>
    rw[fb]at HF1
    go_wp2_with (go_at_call 42;refine HF1.out.mono ?_;rintro r w2 ⟨rfl,q⟩;have H2:=zH q;clear q HF1)
    go_ret;exact⟨by rw[(HE.out _ fb).1 rfl];rfl,H2.out⟩
  ·obtain rfl:k=s.n:=by omega
   have hlt':¬ (s.n:Int)<(s.n:Int):=by omega
   clear HF HC;go_wp2_with fail;go_ret;exact⟨by rw[HR.out.2];rfl,HR.out.1⟩
end
def aX8 (s:Su) (ws:List Int) (c:Nat):Nat:=Md.Ce.atV (Md.Ce.peekW ws (3+s.b) c 0) (Md.Ce.peekW ws (3+s.b) c 1) (Md.Ce.peekW ws (3+s.b) c 2) (wordAt ws 2)
def a99 (s:Su) (ws:List Int) (k:Nat):List Nat:=(List.range s.a.toNat).map fun c=>if c<k then aX8 s ws c else 0
def ae5 (s:Su) (ws:List Int):List Nat:=(List.range s.a.toNat).map (aX8 s ws)
theorem stateU_len (s:Su) (ws:List Int) (k:Nat):(a99 s ws k).length=s.a.toNat:=by simp[a99]
theorem stateU_zero (s:Su) (ws:List Int):a99 s ws 0=List.replicate s.a.toNat 0:=by
 unfold a99
 apply List.ext_getElem
 ·simp
 ·intro i h1 h2
  simp
theorem stateU_all (s:Su) (ws:List Int):a99 s ws s.a.toNat=ae5 s ws:=by
 unfold a99 ae5
 apply List.map_congr_left
 intro c hc;rw[if_pos (List.mem_range.1 hc)]
theorem aU8 (s:Su) (ws:List Int) (k:Nat):(a99 s ws k).set k (aX8 s ws k)=a99 s ws (k+1):=by
 unfold a99
 apply List.ext_getElem
 ·simp
 ·intro i h1 h2
  simp only[List.getElem_set,List.getElem_map,List.getElem_range]
  by_cases e:k=i
  ·subst e
   rw[if_pos rfl,if_pos (by omega)]
  ·rw[if_neg e]
   by_cases q:i<k
   ·rw[if_pos q,if_pos (by omega)]
   ·rw[if_neg q,if_neg (by omega)]
section
variable {w w':World} {f:Ex} {v v':Ev} {s:Su} {Z:Es} {t:Nat}
theorem Eng.plan (h:Eng w f v s Z):w.cell? ⟨f.b,0,none⟩=some (.int .i64 s.a)/\w.cell? ⟨f.b,5,none⟩=some (.int .i64 0)/\w.cell? ⟨f.b,6,none⟩=some (.int .i64 1)/\w.cell? ⟨f.b,7,none⟩=some (.int .i64 2)/\w.cell? ⟨f.b,8,none⟩=some (.int .i64 3)/\w.cell? ⟨f.b,9,none⟩=some (.int .i64 (3+s.b))/\w.cell? ⟨f.b,10,none⟩=some (.int .i64 (3+s.b+3*s.a)):=by
 obtain⟨d,h,_⟩:=h.at_;exact⟨(h.cell 0).trans rfl,(h.cell 5).trans rfl,(h.cell 6).trans rfl,(h.cell 7).trans rfl,(h.cell 8).trans rfl,(h.cell 9).trans rfl,(h.cell 10).trans rfl⟩
attribute [local go_sem] a00
abbrev trpO (a b c:Int):Obj:=.cells #[.int .u64 a,.int .u64 b,.int .u64 c] 118
theorem av3 (h:Eng w f v s Z) (hs:SuIn s):Calls Tryz.prog 26 #[.pointer (some ⟨f.b,0,none⟩)] w fun r w'=>∃ g,r=.returned (.slice (some ⟨g,0,none⟩) s.a.toNat s.a.toNat)/\Hid (w.heap.size<=g/\RowAt 71 w' (some ⟨g,0,none⟩) s.a.toNat (fls (ae5 s Z.X.H.E.ws))/\Bl w w'):=by
 have a256:=hs.a256;obtain⟨na,hna⟩:∃ na:Nat,s.a.toNat=na:=⟨_,rfl⟩
 have ea:s.a=(na:Int):=by omega
 have hn:na<=256:=by omega
 have hni:(na:Int)<=256:=by omega
 have hlen:=h.wi.len;have HP:Hid (∀ u,Bl w u->Calls Tryz.prog 60 #[.pointer (some ⟨f.mb,0,none⟩),.int .i64 2] u fun e w'=>e=.returned (.tuple #[.int .u64 (wordAt Z.X.H.E.ws 2),.int .i64 (errP Z.X.H.E.ws 2)])/\w'=u):=fun u hu=>by
  obtain⟨_,⟨o,hm⟩,_⟩:=(h.on hu).cells;have:=Md.peek_any hm 2;have b8:=hs.b8;rw[show hasB Z.X.H.E.ws 2=true from zT ⟨by omega,by omega⟩]at this;exact this
 obtain⟨p4,hp4⟩:∃ p4,3+s.b=p4:=⟨_,rfl⟩
 obtain⟨p5,hp5⟩:∃ p5,p4+3*s.a=p5:=⟨_,rfl⟩
 have HC:Hid (∀ u,Bl w u->(u.cell? ⟨f.b,11,none⟩=some (.pointer (some ⟨f.mb,0,none⟩))/\u.cell? ⟨f.b,5,none⟩=some (.int .i64 0)/\u.cell? ⟨f.b,6,none⟩=some (.int .i64 1)/\u.cell? ⟨f.b,7,none⟩=some (.int .i64 2)/\u.cell? ⟨f.b,8,none⟩=some (.int .i64 3)/\u.cell? ⟨f.b,9,none⟩=some (.int .i64 p4)/\u.cell? ⟨f.b,10,none⟩=some (.int .i64 p5))/\u.cell? ⟨f.b,0,none⟩=some (.int .i64 (na:Int))/\f.b<u.heap.size):=fun u hu=>by
  obtain⟨q0,q5,q6,q7,q8,q9,q10⟩:=(h.on hu).plan;obtain⟨⟨q11,_,_,_,lb⟩,_⟩:=(h.on hu).cells;exact⟨⟨q11,q5,q6,q7,q8,by rw[<- hp4];exact q9,by rw[<- hp5,<- hp4];exact q10⟩,by rw[<- ea];exact q0,lb⟩
 have HK:Hid (∀ u (c:Nat),Bl w u->Calls Tryz.prog 61 #[.pointer (some ⟨f.mb,0,none⟩),plV p4 p5,.int .i64 (c:Int)] u fun e w'=>e=.returned (.tuple #[.agg #[.int .u64 (Md.Ce.peekW Z.X.H.E.ws p4 c 0),.int .u64 (Md.Ce.peekW Z.X.H.E.ws p4 c 1),.int .u64 (Md.Ce.peekW Z.X.H.E.ws p4 c 2)],.int .i64 (Md.Ce.peekE Z.X.H.E.ws p4 c)])/\Bl u w'):=fun u c hu=>by
  obtain⟨_,⟨o,hm⟩,_⟩:=(h.on hu).cells;exact Md.Ce.cpeek_any hm 0 1 2 3 p4 p5 c
 have HA:Hid (∀ u (c:Nat),Calls Tryz.prog 62 #[.agg #[.int .u64 (Md.Ce.peekW Z.X.H.E.ws p4 c 0),.int .u64 (Md.Ce.peekW Z.X.H.E.ws p4 c 1),.int .u64 (Md.Ce.peekW Z.X.H.E.ws p4 c 2)],.int .u64 (wordAt Z.X.H.E.ws 2)] u fun e w'=>e=.returned (.float .f64 (aX8 s Z.X.H.E.ws c))/\Bl u w'):=fun u c=>by
  have:=Md.Ce.cat_any (Md.Ce.peekW Z.X.H.E.ws p4 c 0) (Md.Ce.peekW Z.X.H.E.ws p4 c 1) (Md.Ce.peekW Z.X.H.E.ws p4 c 2) (wordAt Z.X.H.E.ws 2) u;rw[<- hp4]at this ⊢;exact this
 have hmk:=Sx.fMake na hn;have HL:=zH (And.intro hna (And.intro (stateU_len s Z.X.H.E.ws) (And.intro (stateU_zero s Z.X.H.E.ws) (And.intro (stateU_all s Z.X.H.E.ws) (aU8 s Z.X.H.E.ws)))));rw[hna];obtain⟨⟨a11,a5,a6,a7,a8,a9,a10⟩,a0,lb⟩:=HC.out w (zF _ _);clear h hs a256 hp4 hp5 ea hlen hna
 generalize wordAt Z.X.H.E.ws 2=st at *
 generalize errP Z.X.H.E.ws 2=er at *
 go_enter Tryz.func26,Tryz.ntmps26
 go_upto_region 1 with fail
 refine a05 (fun u=>u.cell? ⟨f.b,11,none⟩=some (.pointer (some ⟨f.mb,0,none⟩))/\u.cell? ⟨f.b,7,none⟩=some (.int .i64 2) )  ((0,true)::(1,true)::(2,true)::(3,true)::(4,true)::(5,true)::(6,true)::(7,true)::(8,true)::(9,false)::(10,true)::(11,true)::(12,true)::(13,true)::(14,true)::[])  Md.Cv.follows13 (by kernel_rfl) (fun _ _ _ _ _ h=>h)  ⟨a11,a7⟩ ?_
 (repeat ((first | (refine a02 (v:=?_) rfl (by rfl) (fun wq hSq=>?_) ?_;rotate_left;(focus ((try dsimp only at hSq);go_simp;try with_reducible rfl))) | refine a03 rfl (by rfl) ?_);simp only[Act.put,zA,zB,zC]))
 (refine a04 rfl (by rfl) (fun KK hK=>?_);go_simp)
 refine(HP.out _ ((Same.drew w).below _)).mono ?_;rintro r u1 ⟨rfl,hu1⟩;subst u1;refine hK.out _ _ ⟨a11,a7⟩ ?_
 (clear hK KK;try simp only[Act.put,zA,zB,zC])
 (repeat ((first | (refine a02 (v:=?_) rfl (by rfl) (fun wq hSq=>?_) ?_;rotate_left;(focus ((try dsimp only at hSq);go_simp;try with_reducible rfl))) | refine a03 rfl (by rfl) ?_);simp only[Act.put,zA,zB,zC]))
 refine a07 ?_;go_wp2_with fail;obtain⟨g,hg⟩:∃ g,w.heap.size=g:=⟨_,rfl⟩
 rw[hg];have HG:=zH (Nat.le_of_eq hg);have H0:Hid (Bl w (w.alloc (.cells (fls (List.replicate na 0)).toArray 71)).drew/\RowAt 71 (w.alloc (.cells (fls (List.replicate na 0)).toArray 71)).drew (some ⟨g,0,none⟩) na (fls (a99 s Z.X.H.E.ws 0))):=by
  refine⟨(below_alloc w _).trans ((Same.drew _).below _),?_⟩;rw[HL.out.2.2.1,HL.out.1];refine RowAt.on ?_ ((Same.drew _).below _);rw[<- hg];exact Rr.row_made List.length_replicate hn
 clear a11 a5 a6 a7 a8 a9 a10 a0 lb hmk HP hg
 go_loopw [30] (fun v30 wr=>∃ k:Nat,v30=.int .i64 (k:Int)/\k<=na/\Hid (Bl w wr/\RowAt 71 wr (some ⟨g,0,none⟩) na (fls (a99 s Z.X.H.E.ws k)))) (fun v30 _=>na - (intOf v30).toNat)
 case atStart=>exact⟨0,rfl,zV _,H0.out⟩
 case round =>
  obtain⟨k,rfl,hk,HR⟩:=hrel;clear H0
  by_cases hlt:k<na
  ·have hlt':(k:Int)<(na:Int):=by omega
   obtain⟨⟨a11,a5,a6,a7,a8,a9,a10⟩,a0,lb⟩:=HC.out wr HR.out.1;have HKK:=zH (fun u (hu:Bl wr u)=>HK.out u k (HR.out.1.trans (hu.mono HR.out.1.size)));have HCC:=zH (fun u (hu:Bl wr u)=>(HC.out u (HR.out.1.trans (hu.mono HR.out.1.size))).1);have HAA:=zH (fun u=>HA.out u k);have HCV:=zH (HL.out.2.2.2.2 k);obtain⟨x0,hx0⟩:∃ x0,Md.Ce.peekW Z.X.H.E.ws p4 k 0=x0:=⟨_,rfl⟩
   obtain⟨x1,hx1⟩:∃ x1,Md.Ce.peekW Z.X.H.E.ws p4 k 1=x1:=⟨_,rfl⟩
   obtain⟨x2,hx2⟩:∃ x2,Md.Ce.peekW Z.X.H.E.ws p4 k 2=x2:=⟨_,rfl⟩
   obtain⟨ex,hex⟩:∃ ex,Md.Ce.peekE Z.X.H.E.ws p4 k=ex:=⟨_,rfl⟩
   obtain⟨cv,hcv⟩:∃ cv,aX8 s Z.X.H.E.ws k=cv:=⟨_,rfl⟩
   rw[hx0,hx1,hx2,hex]at HKK;rw[hx0,hx1,hx2,hcv]at HAA;rw[hcv]at HCV;clear hx0 hx1 hx2 hex hcv HK HC HA
   go_upto_region 6 with fail
   go_cut [7,8] (fun v7 v8 wc=>∃ g7,v7=.pointer (some ⟨g7,0,none⟩)/\v8=.int .i64 ex/\Hid (Bl wr wc/\wc.heap[g7]?=some (trpO x0 x1 x2)))
   case first =>
    refine ai1 (fun u=>u.cell? ⟨f.b,11,none⟩=some (.pointer (some ⟨f.mb,0,none⟩))/\u.cell? ⟨f.b,5,none⟩=some (.int .i64 0)/\u.cell? ⟨f.b,6,none⟩=some (.int .i64 1)/\u.cell? ⟨f.b,7,none⟩=some (.int .i64 2)/\u.cell? ⟨f.b,8,none⟩=some (.int .i64 3)/\u.cell? ⟨f.b,9,none⟩=some (.int .i64 p4)/\u.cell? ⟨f.b,10,none⟩=some (.int .i64 p5)) ((0,true)::(1,true)::(2,true)::(3,true)::(4,true)::(5,true)::(6,true)::(7,true)::(8,true)::(9,false)::(10,true)::(11,true)::(12,true)::[]) 13 ((14,false)::(15,true)::[]) Md.Cv.follows13 (by kernel_rfl) (fun _ _ _ _ _ h=>h) ⟨a11,a5,a6,a7,a8,a9,a10⟩ ?_
    (repeat (refine ae8 (v:=?_) rfl (by rfl) (fun wq hSq=>?_) ?_;rotate_left;(focus ((try dsimp only at hSq);go_simp;try with_reducible rfl));simp only[Act.put,zA,zB,zC]))
    refine ak5 rfl (by rfl) (fun KK hK=>?_) ?_
    ·go_simp
     refine(HKK.out _ ((Same.drew wr).below _)).mono ?_;rintro r u2 ⟨rfl,q⟩;have B2:Hid (Bl wr u2):=((Same.drew wr).below _).trans q;clear q;refine hK.out _ _ (HCC.out _ B2.out) ?_
     (clear hK KK;try simp only[Act.put,zA,zB,zC])
     (repeat (refine ae8 (v:=?_) rfl (by rfl) (fun wq hSq=>?_) ?_;rotate_left;(focus ((try dsimp only at hSq);go_simp;try with_reducible rfl));simp only[Act.put,zA,zB,zC]))
     refine aC2 ?_
     (refine a04 rfl (by rfl) (fun KK hK=>?_);go_simp)
     have B3:∀ o,Bl wr (u2.alloc o):=fun o=>B2.out.alloc B2.out.size o
     refine hK.out _ _ (HCC.out _ (B3 _)) ?_
     (clear hK KK;try simp only[Act.put,zA,zB,zC])
     (refine a04 rfl (by rfl) (fun KK hK=>?_);go_simp)
     refine hK.out _ _ (HCC.out _ (B3 _)) ?_
     (clear hK KK;try simp only[Act.put])
     (repeat ((first | (refine a02 (v:=?_) rfl (by rfl) (fun wq hSq=>?_) ?_;rotate_left;(focus ((try dsimp only at hSq);go_simp;try with_reducible rfl))) | refine a03 rfl (by rfl) ?_);simp only[Act.put,zA,zB,zC]))
     refine a07 ?_;go_wp2_with fail
     go_meet
     exact⟨_,rfl,rfl,B3 _,zN _ _⟩
    ·(refine a04 rfl (by rfl) (fun KK hK=>?_);go_simp)
     have B1:Bl wr wr.drew:=(Same.drew wr).below _;have B3:∀ o,Bl wr (wr.alloc o).drew:=fun o=>(below_alloc wr o).trans ((Same.drew _).below _)
     refine hK.out _ _ (HCC.out _ (B3 _)) ?_
     (clear hK KK;try simp only[Act.put,zA,zB,zC])
     (refine a04 rfl (by rfl) (fun KK hK=>?_);go_simp)
     refine(HKK.out _ (B3 _)).mono ?_;rintro r u2 ⟨rfl,q⟩;have B2:Hid (Bl wr u2/\u2.heap[wr.heap.size]?=some (trpO 0 0 0)):=⟨(B3 _).trans (q.mono (B3 _).size),(q.block _ (by simp)).trans (zN _ _)⟩;clear q;refine hK.out _ _ (HCC.out _ B2.out.1) ?_
     (clear hK KK;try simp only[Act.put,zA,zB,zC])
     (repeat ((first | (refine a02 (v:=?_) rfl (by rfl) (fun wq hSq=>?_) ?_;rotate_left;(focus ((try dsimp only at hSq);go_simp;try with_reducible rfl))) | refine a03 rfl (by rfl) ?_);simp only[Act.put,zA,zB,zC]))
     have t0:=(zR u2 wr.heap.size 0 _ _ _ B2.out.2).trans (rfl:_=some (Value.int .u64 0));have t1:=(zR u2 wr.heap.size 1 _ _ _ B2.out.2).trans (rfl:_=some (Value.int .u64 0));have t2:=(zR u2 wr.heap.size 2 _ _ _ B2.out.2).trans (rfl:_=some (Value.int .u64 0));have j0:=zZ u2 wr.heap.size 0 _ _ B2.out.2;have j1:=zZ u2 wr.heap.size 1 _ _ B2.out.2;have j2:=zZ u2 wr.heap.size 2 _ _ B2.out.2;have B4:Hid (Bl wr (((u2.setCell ⟨wr.heap.size,0,none⟩ (.int .u64 x0)).setCell ⟨wr.heap.size,1,none⟩ (.int .u64 x1)).setCell ⟨wr.heap.size,2,none⟩ (.int .u64 x2))/\(((u2.setCell ⟨wr.heap.size,0,none⟩ (.int .u64 x0)).setCell ⟨wr.heap.size,1,none⟩ (.int .u64 x1)).setCell ⟨wr.heap.size,2,none⟩ (.int .u64 x2)).heap[wr.heap.size]?=some (trpO x0 x1 x2)):=by
      refine⟨((B2.out.1.setCell (zE _) _).setCell (zE _) _).setCell (zE _) _,?_⟩;have h0:=(zS _ wr.heap.size 0 _ _ (.int .u64 x0) B2.out.2).trans (show _=some (trpO x0 0 0) from rfl);have h1:=(zS _ wr.heap.size 1 _ _ (.int .u64 x1) h0).trans (show _=some (trpO x0 x1 0) from rfl);exact(zS _ wr.heap.size 2 _ _ (.int .u64 x2) h1).trans rfl
     (refine a04 rfl (by rfl) (fun KK hK=>?_);go_simp)
     refine hK.out _ _ (HCC.out _ B4.out.1) ?_
     (clear hK KK;try simp only[Act.put])
     (repeat ((first | (refine a02 (v:=?_) rfl (by rfl) (fun wq hSq=>?_) ?_;rotate_left;(focus ((try dsimp only at hSq);go_simp;try with_reducible rfl))) | refine a03 rfl (by rfl) ?_);simp only[Act.put,zA,zB,zC]))
     refine a07 ?_;go_wp2_with fail
     go_meet
     exact⟨_,rfl,rfl,B4.out.1,B4.out.2⟩
   case rest =>
    obtain⟨g7,rfl,rfl,HW⟩:=hcut;have t0:=(zR wc g7 0 _ _ _ HW.out.2).trans (rfl:_=some (Value.int .u64 x0));have t1:=(zR wc g7 1 _ _ _ HW.out.2).trans (rfl:_=some (Value.int .u64 x1));have t2:=(zR wc g7 2 _ _ _ HW.out.2).trans (rfl:_=some (Value.int .u64 x2));have l7:=lt_of_block HW.out.2;have HRW:Hid (∀ u,Bl wc u->RowAt 71 u (some ⟨g,0,none⟩) na (fls (a99 s Z.X.H.E.ws k))):=fun u hu=>(HR.out.2.on HW.out.1).on hu
    have hval:(fls (a99 s Z.X.H.E.ws k))[k]?=some (.float .f64 ((a99 s Z.X.H.E.ws k).getD k 0)):=by
     have hl:=HL.out.2.1 k;rw[HL.out.1]at hl;unfold fls;rw[List.getElem?_map,zG,List.getElem?_eq_getElem (by omega)]
     rfl
    have HGT:Hid (∀ u,Bl wc u->u.cell? ⟨g,k,none⟩=some (.float .f64 ((a99 s Z.X.H.E.ws k).getD k 0))/\u.frozen? ⟨g,k,none⟩=false/\g<u.heap.size):=fun u hu=>Sd.row_get (HRW.out u hu) hval
    clear hval a11 a5 a6 a7 a8 a9 a10 a0 lb HCC HKK
    go_wp2_with (go_at_call 62;refine(HAA.out _).mono ?_;rintro r u3 ⟨rfl,q⟩;have H3:=zH q;obtain⟨gk,gf,gl⟩:=HGT.out _ q;clear q)
    obtain⟨r1,r2⟩:=Sd.row_put (HRW.out _ H3.out) k (.float .f64 cv);have es:(fls (a99 s Z.X.H.E.ws k)).set k (.float .f64 cv)=fls (a99 s Z.X.H.E.ws (k+1)):=by
     rw[<- HCV.out]
     simp[fls,List.map_set]
    rw[es]at r1;refine⟨⟨k+1,by first | rfl | (congr 1),by omega,?_,r1⟩,by simp[intOf];omega⟩;exact((HR.out.1.trans (HW.out.1.mono HR.out.1.size)).trans (H3.out.mono (HR.out.1.trans (HW.out.1.mono HR.out.1.size)).size)).setCell HG.out _
  ·obtain rfl:k=na:=by omega
   have hlt':¬ (k:Int)<(k:Int):=by omega
   clear HK HC HA;go_wp2_with fail;go_ret;refine⟨g,rfl,HG.out,?_,HR.out.1⟩;rw[<- HL.out.2.2.2.1,HL.out.1];exact HR.out.2
end
theorem TIn.sizes {s:Su} {t:Nat} {N:Int} {y:Ty} (h:TIn s t N y):(af0 y).length<=8/\(macT y).reads.length<=1024/\(macT y).buf.length<=1024/\(macT y).out.length<=1024:=by
 have K:∀ m:Mac,Inv m->m.reads.length<=1024/\m.buf.length<=1024/\m.out.length<=1024:=fun m i=>by
  have h1:=i.fuel;have h2:=i.used;have h3:=i.out;have h4:=i.reads;have h5:=i.few;have h6:=i.wmax;refine⟨?_,by omega,by omega⟩
  split at h4 <;> omega
 rcases y with⟨_,x⟩ | ⟨_,x⟩
 ·exact⟨h.1.few,K _ h.1.inv⟩
 ·exact⟨h.1.few,K _ h.1.rest.inv⟩
section
variable {w:World} {g o:Nat} {y:Ty} {D:Rr.Dd} {th no pr bg en ah fr tt to_:Int}
theorem by9 (hc:∀ u,Bl w u->u.cell? ⟨g,o,none⟩=some .nilIface/\(∀ j,j<19->u.cell? ⟨g,o+1+j,none⟩=(dTx y D th no pr bg en ah fr tt)[j]?)/\g<u.heap.size) (hD:Rr.DdAt w 0 D (af0 y) (macT y)) (b0:(af0 y).length<=8) (b1:(macT y).reads.length<=1024) (b2:(macT y).buf.length<=1024) (b3:(macT y).out.length<=1024) :
  Calls Tryz.prog 58 #[.pointer (some ⟨g,o,none⟩),.int .i64 to_] w fun e w'=>∃ D',e=.returned (.agg (dTx y D' th no pr bg en ah fr tt))/\Hid (Rr.DdAt w' w.heap.size D' (af0 y) (macT y)/\Bl w w'):=by
 have HB:=zH (below_alloc w Rr.dZ);obtain⟨c0,cj,lg⟩:=hc _ HB.out;have HC:=zH cj;have HO:Hid (Calls Tryz.prog 96 #[.agg (dTx y D th no pr bg en ah fr tt)] (w.alloc Rr.dZ) fun e w'=>∃ D',e=.returned (.agg (dTx y D' th no pr bg en ah fr tt))/\Hid (Rr.DdAt w' (w.alloc Rr.dZ).heap.size D' (af0 y) (macT y)/\Below (w.alloc Rr.dZ).heap.size (w.alloc Rr.dZ) w')):=aL3 ⟨hD.a.on HB.out,hD.r.on HB.out,hD.wr.on HB.out,hD.o.on HB.out,hD.xa,hD.xr,hD.xw,hD.xo⟩ rfl (by omega) b1 b2 b3;clear hc hD cj b0 b1 b2 b3;go_enter Tryz.func58,Tryz.ntmps58
 go_wp2_with (first
  | (refine aj5 rfl 65 _ rfl g (o+1) rfl (dTx y D th no pr bg en ah fr tt) _ (fun j hj=>HC.out j hj) Tryz.underlying65 rfl Rr.deedInfo ?_;simp only[Act.put,zA,zB,zC])
  | (refine wpList_store_row rfl 65 _ _ rfl w.heap.size (dTx y D' th no pr bg en ah fr tt) rfl rfl _ _ HZ.out Rr.deedInfo rfl (ab0 ..) ?_)
  | (go_at_call 96;refine HO.out.mono ?_;rintro r w1 ⟨D',rfl,q⟩;have H1:=zH q.out;have HZ:Hid (w1.heap[w.heap.size]?=some Rr.dZ):=(q.out.2.block _ (by simp)).trans (zN _ _);clear q HO c0 lg))
 refine aq5 (D:=D') rfl w.heap.size rfl (setRow_heap _ _ _ _ _ _ HZ.out) rfl ⟨D',rfl,?_⟩;have hl:w.heap.size<(w.alloc Rr.dZ).heap.size:=by simp
 exact⟨(H1.out.1.keep (fun i hi _=>setRow_other _ _ _ _ (by omega)) (by simp)).mono (by omega),Md.Ce.bl_setRow (HB.out.trans (H1.out.2.mono HB.out.size)) (zE _) _⟩
end
theorem aY9 (x:Value) (a:Array Value):(#[x] ++ a)[0]?=some x:=by
 rw[Array.getElem?_append_left (by simp)]
 rfl
theorem aY8 (x:Value) (a:Array Value) (j:Nat):(#[x] ++ a)[1+j]?=a[j]?:=by
 rw[Array.getElem?_append_right (by simp)]
 simp
def a86 (s:Su) (Z:Es) (i:Nat) (D:Rr.Dd) (to_:Int):Array Value:=dTx (Z.X.H.D i).tx D (Z.X.H.D i).th (Z.X.H.D i).no (s.call (Z.X.H.D i).th (Z.X.H.D i).no).1 (Z.X.H.D i).bg (Z.X.H.D i).en (Z.A i) (Z.X.fr i) (if (Z.X.H.D i).en=0 then to_ else (Z.X.to_ i:Int))
section
variable {w w':World} {f:Ex} {v v':Ev} {s:Su} {Z:Es} {i g:Nat}
theorem Eng.told (h:Eng w f v s Z) (hi:i<Z.X.H.dn) (hp:v.pt=some ⟨g,0,none⟩) (to_:Int):Calls Tryz.prog 58 #[.pointer (some ⟨g,i*20,none⟩),.int .i64 to_] w fun e w'=>∃ D,e=.returned (.agg (a86 s Z i D to_))/\Hid (Rr.DdAt w' w.heap.size D (af0 (Z.X.H.D i).tx) (macT (Z.X.H.D i).tx)/\Bl w w'):=by
 have wi:=h.wi;obtain⟨d,h,fi⟩:=h.at_;obtain⟨D1,D2,_⟩:=wi.D i hi;have hid:i<d.dn:=by rw[fi.dn];exact hi
 unfold a86
 by_cases e0:(Z.X.H.D i).en=0
 ·obtain⟨q1,q2⟩:=wi.un i hi e0
  have hT:d.T (Z.X.H.D i).th=some (Z.X.H.D i).tx:=by rw[fi.T];exact q1
  obtain⟨_,K,tx,_⟩:=h.tx _ _ hT;rw[if_pos e0,e0];exact b86 tx D2 fun u hu=>(h.on hu).upC hid hp (fi.up i hi e0)
 ·obtain⟨D,l1,l2⟩:=fi.ov i hi e0
  have hd:=(h.dl i _ _ _ l1).1;obtain⟨b0,b1,b2,b3⟩:=D2.sizes;rw[if_neg e0];refine by9 (fun u hu=>?_) hd b0 b1 b2 b3;have hu1:=h.on hu;obtain⟨g',e',_,A⟩:=hu1.arr (by omega);obtain rfl:g'=g:=by
   have:=e'.symm.trans hp;injection this with this;injection this
  have C:∀ j,j<20->u.cell? ⟨g',i*20+j,none⟩=(d.tr i)[j]?:=fun j hj=>A.cell hid hj
  rw[l2]at C;unfold trO at C;refine⟨(C 0 (by omega)).trans (aY9 _ _),fun j hj=>?_,A.lt⟩;rw[show i*20+1+j=i*20+(1+j) by omega,C (1+j) (by omega)];exact aY8 _ _ _
theorem bH9:(Tryz.prog.info? 65).map (fun i=>(i.zero,i.size,i.bytes))=some (some (.agg #[.int .i64 0,.int .i64 0,.int .i64 0,.int .i64 0,.slice none 0 0,.int .i64 0,.int .i64 0,.slice none 0 0,.slice none 0 0,.slice none 0 0,.int .i64 0,.int .i64 0,.int .i64 0,.int .i64 0,.int .i64 0,.int .i64 0,.int .i64 0,.int .i64 0,.int .i64 0]),19,216):=by kernel_rfl
theorem bI0 (n:Nat) (hn:n<=512):∃ arr:Array Value,arr.size=n*19/\∀ w:World,(Instr.makeSlice 48 (.int .i64 (n:Int)) (.int .i64 (n:Int))).run Tryz.prog w=.ok (.slice (some ⟨w.heap.size,0,none⟩) n n) (w.alloc (.cells arr 65)):=by
 obtain⟨i,hi,hz0,hz1,hz2⟩:=info_parts bH9;refine⟨madeCells (Value.agg #[.int .i64 0,.int .i64 0,.int .i64 0,.int .i64 0,.slice none 0 0,.int .i64 0,.int .i64 0,.slice none 0 0,.slice none 0 0,.slice none 0 0,.int .i64 0,.int .i64 0,.int .i64 0,.int .i64 0,.int .i64 0,.int .i64 0,.int .i64 0,.int .i64 0,.int .i64 0]).cells (n*i.size),by rw[size_madeCells,hz1],fun w=>?_⟩;rw[run_make w 48 65 i _ Tryz.underlying48 hi hz0 .i64 .i64 n n (by omega) (zW _) (by rw[hz2];omega) (by omega)];rw[Int.toNat_natCast]
theorem Arr.next {T:TypeId} {sz m n:Nat} {F:Nat->Array Value} (h:Arr w g T sz m n F) (hn:n<m) {cs:Array Value} (hc:cs.size=sz):∃ arr,w.heap[g]?=some (.cells arr T (0,0))/\n*sz+cs.size<=arr.size/\Arr (w.setRow g (ab3 arr (n*sz) cs.toList)) g T sz m (n+1) (updA F n cs):=by
 obtain⟨arr,h1,h2,h3⟩:=h.blk;have hl:n*sz+sz<=m*sz:=by
  have:(n+1)*sz<=m*sz:=Nat.mul_le_mul_right _ hn;rwa[Nat.add_mul,Nat.one_mul]at this
 refine⟨arr,h1,by omega,⟨⟨_,setRow_heap w g _ _ _ _ h1,by rw[ae3];exact h2,fun i j hi hj=>?_⟩,hn,fun i hi=>?_⟩⟩
 ·rw[ah5 _ _ _ _ (by simp;omega)]
  simp only[Array.length_toList]
  by_cases e:i=n
  ·subst e
   rw[a22,if_pos (by omega),show i*sz+j - i*sz=j by omega]
   simp
  ·rw[a37 _ _ e,if_neg]
   ·exact h3 i j (by omega) hj
   ·have:(i+1)*sz<=n*sz:=Nat.mul_le_mul_right _ (by omega)
    rw[Nat.add_mul,Nat.one_mul]at this;omega
 ·by_cases e:i=n
  ·rw[e,a22,hc]
  ·rw[a37 _ _ e]
   exact h.sz i (by omega)
structure DdsAt (w:World) (B g m n:Nat) (s:Su) (Z:Es) (D:Nat->Rr.Dd):Prop where
 row:Arr w g 65 19 m n (fun i=>a86 s Z i (D i) (Z.X.R:Int))
 dd:∀ i,i<n->Rr.DdAt w (g+1) (D i) (af0 (Z.X.H.D i).tx) (macT (Z.X.H.D i).tx)
 lo:B<=g
theorem DdsAt.on {B m n:Nat} {D:Nat->Rr.Dd} (h:DdsAt w B g m n s Z D) (k:Bl w w'):DdsAt w' B g m n s Z D:=⟨h.row.on k,fun i hi=>(h.dd i hi).on k,h.lo⟩
end
section
variable {w w':World} {f:Ex} {v v':Ev} {s:Su} {Z:Es} {g:Nat}
theorem DdsAt.next {B m n:Nat} {D:Nat->Rr.Dd} (h:DdsAt w B g m n s Z D) (hn:n<m) {u:World} (k:Bl w u) {Dk:Rr.Dd} (hD:Rr.DdAt u w.heap.size Dk (af0 (Z.X.H.D n).tx) (macT (Z.X.H.D n).tx)):∃ arr,u.heap[g]?=some (.cells arr 65 (0,0))/\n*19+(a86 s Z n Dk (Z.X.R:Int)).size<=arr.size/\∃ D',DdsAt (u.setRow g (ab3 arr (n*19) (a86 s Z n Dk (Z.X.R:Int)).toList)) B g m (n+1) s Z D':=by
 have hu:=h.on k;have hg:=h.row.lt;obtain⟨arr,a1,a2,a3⟩:=hu.row.next hn (cs:=a86 s Z n Dk (Z.X.R:Int)) (aN8 ..);refine⟨arr,a1,a2,fun i=>if i=n then Dk else D i,?_,fun i hi=>?_,h.lo⟩
 ·have e:updA (fun i=>a86 s Z i (D i) (Z.X.R:Int)) n (a86 s Z n Dk (Z.X.R:Int))=fun i=>a86 s Z i (if i=n then Dk else D i) (Z.X.R:Int):=by
   funext i
   by_cases q:i=n
   ·subst q;rw[a22,if_pos rfl]
   ·rw[a37 _ _ q,if_neg q]
  rw[<- e];exact a3
 ·by_cases q:i=n
  ·subst q
   rw[if_pos rfl];exact(hD.mono (by omega)).keep (fun j hj _=>setRow_other _ _ _ _ (by omega)) (by simp)
  ·rw[if_neg q]
   exact(hu.dd i (by omega)).keep (fun j hj _=>setRow_other _ _ _ _ (by omega)) (by simp)
theorem ar9 (h:Eng w f v s Z) (hs:SuIn s):Calls Tryz.prog 24 #[.pointer (some ⟨f.b,0,none⟩)] w fun r w'=>∃ g,r=.returned (.slice (some ⟨g,0,none⟩) Z.X.H.dn Z.X.H.dn)/\Hid (∃ D,DdsAt w' w.heap.size g Z.X.H.dn Z.X.H.dn s Z D/\Bl w w'):=by
 obtain⟨n,hn⟩:∃ n,Z.X.H.dn=n:=⟨_,rfl⟩
 have few:=h.wi.few hs;rw[hn]at few;have fewi:(n:Int)<=512:=by omega
 obtain⟨arr0,hsz,hmk⟩:=bI0 n few;obtain⟨pt,hpt⟩:∃ pt,v.pt=pt:=⟨_,rfl⟩
 obtain⟨gt,hgt⟩:∃ gt,0<n->pt=some ⟨gt,0,none⟩:=by
  obtain⟨d,h0,fi⟩:=h.at_
  by_cases q:0<n
  ·obtain⟨gt,e,_⟩:=h0.arr (by rw[fi.dn,hn];exact q)
   exact⟨gt,fun _=>hpt.symm.trans e⟩
  ·exact⟨0,fun z=>absurd z q⟩
 have HC:Hid (∀ u,Bl w u->(u.cell? ⟨f.b,14,none⟩=some (.slice pt n v.ct)/\u.cell? ⟨f.b,12,none⟩=some (.pointer (some ⟨f.rb,0,none⟩)))/\f.b<u.heap.size):=fun u hu=>by
  obtain⟨d,h0,fi⟩:=(h.on hu).at_;refine⟨⟨(h0.cell 14).trans ?_,(h0.cell 12).trans rfl⟩,h0.ltB⟩;rw[<- hpt,<- hn,<- fi.dn]
  rfl
 have HO:Hid (∀ u,Bl w u->Calls Tryz.prog 51 #[.pointer (some ⟨f.rb,0,none⟩)] u fun e w'=>e=.returned (.int .i64 (Z.X.R:Int))/\w'=u):=fun u hu=>Sd.over_any ((h.on hu).cells).2.2
 have HT:Hid (∀ u k,Bl w u->k<n->Calls Tryz.prog 58 #[.pointer (some ⟨gt,k*20,none⟩),.int .i64 (Z.X.R:Int)] u fun e w'=>∃ D,e=.returned (.agg (a86 s Z k D (Z.X.R:Int)))/\Hid (Rr.DdAt w' u.heap.size D (af0 (Z.X.H.D k).tx) (macT (Z.X.H.D k).tx)/\Bl u w')):=fun u k hu hk=>(h.on hu).told (by omega) (hpt.trans (hgt (by omega))) _
 rw[hn];have HGT:=zH hgt;obtain⟨⟨c14,c12⟩,lb⟩:=HC.out w (zF _ _);clear h hs hpt hn hgt;go_enter Tryz.func24,Tryz.ntmps24;have HC0:=HC.out _ (below_alloc w (.cells arr0 65));obtain⟨⟨e14,e12⟩,lb0⟩:=HC0;go_wp2_with fail;obtain⟨g,hg⟩:∃ g,w.heap.size=g:=⟨_,rfl⟩
 rw[hg];have H0:Hid (∃ D,DdsAt (w.alloc (.cells arr0 65)) w.heap.size g n 0 s Z D/\Bl w (w.alloc (.cells arr0 65))):=⟨fun _=>⟨none,0,none,0,none,0,none,0⟩,⟨⟨⟨arr0,by rw[<- hg];exact zN _ _,hsz,fun i j hi=>absurd hi (zI _)⟩,zV _,fun i hi=>absurd hi (zI _)⟩,fun i hi=>absurd hi (zI _),Nat.le_of_eq hg⟩,below_alloc _ _⟩;clear hmk hsz hg c14 c12 lb e14 e12 lb0
 go_loopw [16] (fun v16 wr=>∃ k:Nat,v16=.int .i64 (k:Int)/\k<=n/\Hid (∃ D,DdsAt wr w.heap.size g n k s Z D/\Bl w wr)) (fun v16 _=>n - (intOf v16).toNat)
 case atStart=>exact⟨0,rfl,zV _,H0.out⟩
 case round =>
  obtain⟨k,rfl,hk,HR⟩:=hrel;clear H0
  by_cases hlt:k<n
  ·have hlt':(k:Int)<(n:Int):=by omega
   obtain⟨D,z1,z2⟩:=HR.out;have HQ:=zH (And.intro z1 z2);have ept:=HGT.out (by omega);subst ept;obtain⟨⟨c14,c12⟩,lb⟩:=HC.out wr z2;have lg:=z1.row.lt;have HCC:=zH (fun u (hu:Bl wr u)=>HC.out u (HQ.out.2.trans (hu.mono HQ.out.2.size)));have HOO:=zH (HO.out wr.drew (z2.trans ((Same.drew wr).below _)));have HTT:=zH (HT.out wr.drew k (z2.trans ((Same.drew wr).below _)) hlt);clear z1 z2 HC HO HT HR
   go_upto_region 5 with fail
   refine a32 (fun u=>u.cell? ⟨f.b,14,none⟩=some (.slice (some ⟨gt,0,none⟩) n v.ct)/\u.cell? ⟨f.b,12,none⟩=some (.pointer (some ⟨f.rb,0,none⟩)) )  ((0,true)::(1,true)::(2,true)::(3,true)::(4,true)::(5,true)::(6,true)::(7,true)::(8,true)::(9,true)::(10,true)::(11,true)::(12,false)::(13,false)::(14,true)::(15,false)::[])  Md.Cv.follows13 (by kernel_rfl) (fun _ _ _ _ _ h=>h)  ⟨c14,c12⟩ ?_
   (repeat (refine a23 (v:=?_) rfl (by rfl) (fun wq hSq=>?_) ?_;rotate_left;(focus ((try dsimp only at hSq);go_simp;try with_reducible rfl));simp only[Act.put,zA,zB,zC]))
   (refine a20 rfl (by rfl) (fun KK hK=>?_);go_simp)
   refine HOO.out.mono ?_;rintro r u1 ⟨rfl,hu1⟩;subst u1;refine hK.out _ _ (fun _=>⟨c14,c12⟩) ?_
   (clear hK KK;try simp only[Act.put,zA,zB,zC])
   (refine a20 rfl (by rfl) (fun KK hK=>?_);go_simp)
   refine HTT.out.mono ?_;rintro r u2 ⟨Dk,rfl,q⟩;have B2:Hid (Bl wr u2):=((Same.drew wr).below _).trans q.out.2;obtain⟨arr,a1,a2,D',a3⟩:=HQ.out.1.next hlt B2.out q.out.1;have HZ:=zH a3;obtain⟨⟨s14,s12⟩,lb2⟩:=HCC.out _ B2.out;refine hK.out _ _ (fun _=>⟨s14,s12⟩) ?_;clear q a3
   (clear hK KK;try simp only[Act.put,zA,zB,zC])
   (repeat (refine a23 (v:=?_) rfl (by rfl) (fun wq hSq=>?_) ?_;rotate_left;(focus ((try dsimp only at hSq);go_simp;try with_reducible rfl));simp only[Act.put,zA,zB,zC]))
   refine a20 rfl (by rfl) (fun KK hK=>?_);refine ag4 65 _ _ rfl g (k*19) (a86 s Z k Dk (Z.X.R:Int)) rfl rfl _ arr a1 ai6 a2 (ab0 ..) ?_;refine hK.out _ _ (fun hn=>absurd rfl hn) ?_
   (clear hK KK;try simp only[Act.put])
   refine a54 ?_;go_wp2_with fail;exact⟨⟨k+1,by first | rfl | (congr 1),by omega,D',HZ.out,Md.Ce.bl_setRow (HQ.out.2.trans (B2.out.mono HQ.out.2.size)) HQ.out.1.lo _⟩,by simp[intOf];omega⟩
  ·obtain rfl:k=n:=by omega
   have hlt':¬ (k:Int)<(k:Int):=by omega
   clear HC HO HT;go_wp2_with fail;go_ret;obtain⟨D,z1,z2⟩:=HR.out;exact⟨g,rfl,⟨D,z1⟩,z2⟩
end
def Pln (po:Option Addr) (n c:Nat):Prop:=(po=none/\n=0/\c=0)∨∃ g o sp,po=some ⟨g,o,sp⟩
def PrAt (w:World) (ao:Option Addr) (l:List (Int × List Ins)):Prop:=∀ i,i<l.length->∃ g o po c,ao=some ⟨g,o,none⟩/\g<w.heap.size/\w.cell? ⟨g,o+i*2,none⟩=some (.int .i64 (l.getD i (0,[])).1)/\w.cell? ⟨g,o+i*2+1,none⟩=some (.slice po (l.getD i (0,[])).2.length c)/\a35 w po (l.getD i (0,[])).2/\Pln po (l.getD i (0,[])).2.length c/\(l.getD i (0,[])).2.length<=5864062014805
def CaAt (w:World) (ao:Option Addr) (l:List (Int × List Nat)):Prop:=∀ i,i<l.length->∃ g o po c,ao=some ⟨g,o,none⟩/\g<w.heap.size/\w.cell? ⟨g,o+i*2,none⟩=some (.int .i64 (l.getD i (0,[])).1)/\w.cell? ⟨g,o+i*2+1,none⟩=some (.slice po (l.getD i (0,[])).2.length c)/\FlAt w po (l.getD i (0,[])).2/\Pln po (l.getD i (0,[])).2.length c/\(l.getD i (0,[])).2.length<=9223372036854775807
def ThAt (w:World) (ao:Option Addr) (l:List (List (Int × List Nat))):Prop:=∀ i,i<l.length->∃ g o qa c,ao=some ⟨g,o,none⟩/\g<w.heap.size/\w.cell? ⟨g,o+i,none⟩=some (.slice qa (l.getD i []).length c)/\CaAt w qa (l.getD i [])/\(l.getD i []).length<=9223372036854775807
structure Sp where
 ps:Option Addr
 cs:Nat
 pp:Option Addr
 cp:Nat
 pt:Option Addr
 ct:Nat
structure SuAt (w:World) (s:Su) (p:Sp):Prop where
 st:FlAt w p.ps s.st
 pg:PrAt w p.pp s.pg
 cl:ThAt w p.pt s.cl
 l1:s.st.length<=9223372036854775807
 l2:s.pg.length<=9223372036854775807
 l3:s.cl.length<=9223372036854775807
 ok:SuOk s
abbrev suC (s:Su) (p:Sp):Array Value:=#[.int .i64 s.a,.int .i64 s.b,.int .i64 s.c,.int .i64 s.e,.slice p.ps s.st.length p.cs,.slice p.pp s.pg.length p.cp,.slice p.pt s.cl.length p.ct]
abbrev suO (s:Su) (p:Sp):Obj:=.cells (suC s p) 28
section
variable {w w':World} {s:Su} {p:Sp}
theorem PrAt.on {ao:Option Addr} {l:List (Int × List Ins)} (h:PrAt w ao l) (k:Bl w w'):PrAt w' ao l:=fun i hi=>by
 obtain⟨g,o,po,c,e,hg,c0,c1,hc,hn⟩:=h i hi;exact⟨g,o,po,c,e,zL hg k.size,(k.cell (p:=⟨g,_,none⟩) hg).trans c0,(k.cell (p:=⟨g,_,none⟩) hg).trans c1,hc.on k,hn⟩
theorem CaAt.on {ao:Option Addr} {l:List (Int × List Nat)} (h:CaAt w ao l) (k:Bl w w'):CaAt w' ao l:=fun i hi=>by
 obtain⟨g,o,po,c,e,hg,c0,c1,hc,hn⟩:=h i hi;exact⟨g,o,po,c,e,zL hg k.size,(k.cell (p:=⟨g,_,none⟩) hg).trans c0,(k.cell (p:=⟨g,_,none⟩) hg).trans c1,hc.on k,hn⟩
theorem ThAt.on {ao:Option Addr} {l:List (List (Int × List Nat))} (h:ThAt w ao l) (k:Bl w w'):ThAt w' ao l:=fun i hi=>by
 obtain⟨g,o,qa,c,e,hg,c0,hc,hn⟩:=h i hi;exact⟨g,o,qa,c,e,zL hg k.size,(k.cell (p:=⟨g,_,none⟩) hg).trans c0,hc.on k,hn⟩
theorem SuAt.on (h:SuAt w s p) (k:Bl w w'):SuAt w' s p:=⟨h.st.on k,h.pg.on k,h.cl.on k,h.l1,h.l2,h.l3,h.ok⟩
def anyU (q:Nat->Bool):Nat->Bool
 | 0=>false
 | n+1=>anyU q n || q n
theorem ad3 (q:Nat->Bool):∀ n,anyU q n=true ↔ ∃ i,i<n/\q i=true
 | 0=>⟨fun h=>(by cases h),fun ⟨_,h,_⟩=>absurd h (zI _)⟩
 | n+1=>by
  show (anyU q n || q n)=true ↔ _
  rw[Bool.or_eq_true,ad3 q n]
  constructor
  ·rintro(⟨i,h1,h2⟩ | h)
   ·exact⟨i,by omega,h2⟩
   ·exact⟨n,by omega,h⟩
  ·rintro⟨i,h1,h2⟩
   by_cases e:i=n
   ·exact .inr (e ▸ h2)
   ·exact .inl ⟨i,by omega,h2⟩
theorem aW7 {α:Type} (l:List α) (d:α) (q:α->Bool):l.any q=anyU (fun i=>q (l.getD i d)) l.length:=by
 rw[Bool.eq_iff_iff,ad3,List.any_eq_true]
 constructor
 ·rintro⟨x,hx,h⟩
  obtain⟨i,hi,rfl⟩:=List.mem_iff_getElem.1 hx;exact⟨i,hi,by rw[zG,List.getElem?_eq_getElem hi];exact h⟩
 ·rintro⟨i,hi,h⟩
  rw[zG,List.getElem?_eq_getElem hi]at h;exact⟨l[i],List.getElem_mem _,h⟩
theorem bn5 {α:Type} (l:List α) (d:α) (q:α->Bool):l.all q=!anyU (fun i=>!q (l.getD i d)) l.length:=by
 rw[<- aW7 l d (fun x=>!q x)]
 simp[List.all_eq_not_any_not]
theorem a82 (k:Int) (po:Option Addr) (n c np:Nat) (l:List Nat) (hl:l.length=n):Calls Tryz.prog 102 #[.agg #[.int .i64 k,.slice po n c],.int .i64 (np:Int)] w fun r w'=>r=.returned (.bool (a58 np (k,l)))/\Bl w w':=by
 have HB:=zH (below_alloc w (.cells #[.int .i64 k,.slice po n c] 138));have HE:Hid (a58 np (k,l)=(decide (0<=k) && decide (k<(np:Int)) && decide ((n:Int)<=8))):=by
  unfold a58;dsimp only;rw[hl]
  congr 1
  exact decide_eq_decide.2 ⟨fun q=>by omega,fun q=>by omega⟩
 by_cases q1:0<=k
 ·by_cases q2:k<(np:Int)
  ·go_enter Tryz.func102,Tryz.ntmps102
   go_wp2_with fail;go_ret;exact⟨by rw[HE.out];simp[q1,q2],HB.out⟩
  ·go_enter Tryz.func102,Tryz.ntmps102
   go_wp2_with fail;go_ret;exact⟨by rw[HE.out];simp;omega,HB.out⟩
 ·go_enter Tryz.func102,Tryz.ntmps102
  go_wp2_with fail;go_ret;exact⟨by rw[HE.out];simp;omega,HB.out⟩
def aw1 (s:Su):Bool:=decide (64<s.pg.length) || decide (s.b<(s.cl.length:Int)) || s.cl.any (fun l=>decide (64<l.length))
theorem ao9 (w:World) (s:Su) (p:Sp):Bl w (w.alloc (suO s p))/\(w.alloc (suO s p)).heap[w.heap.size]?=some (suO s p):=⟨below_alloc _ _,zN _ _⟩
theorem a46 {u:World} {x:Nat} (h:u.heap[x]?=some (suO s p)):u.cell? ⟨x,0,none⟩=some (.int .i64 s.a)/\u.cell? ⟨x,1,none⟩=some (.int .i64 s.b)/\u.cell? ⟨x,2,none⟩=some (.int .i64 s.c)/\u.cell? ⟨x,3,none⟩=some (.int .i64 s.e)/\u.cell? ⟨x,4,none⟩=some (.slice p.ps s.st.length p.cs)/\u.cell? ⟨x,5,none⟩=some (.slice p.pp s.pg.length p.cp)/\u.cell? ⟨x,6,none⟩=some (.slice p.pt s.cl.length p.ct)/\x<u.heap.size :=
 ⟨(zR u x 0 _ _ _ h).trans rfl,(zR u x 1 _ _ _ h).trans rfl,(zR u x 2 _ _ _ h).trans rfl,(zR u x 3 _ _ _ h).trans rfl,(zR u x 4 _ _ _ h).trans rfl,(zR u x 5 _ _ _ h).trans rfl,(zR u x 6 _ _ _ h).trans rfl,lt_of_block h⟩
theorem aM5 (h:SuAt w s p):Calls Tryz.prog 101 #[.agg (suC s p)] w fun r w'=>r=.returned (.bool (aw1 s))/\Bl w w':=by
 have HB:=zH (ao9 w s p);have HT:=zH (h.on HB.out.1).cl;have l2:=h.l2;have l3:=h.l3;have HE:Hid (aw1 s=(decide (64<s.pg.length) || decide (s.b<(s.cl.length:Int)) || anyU (fun i=>decide (64<(s.cl.getD i []).length)) s.cl.length)):=by unfold aw1;rw[aW7 s.cl []];trivial
 clear h
 by_cases q1:64<s.pg.length
 ·have q1':(64:Int)<(s.pg.length:Int):=by omega
  go_enter Tryz.func101,Tryz.ntmps101;go_wp2_with fail;go_ret;exact⟨by rw[HE.out,zT q1,Bool.true_or,Bool.true_or];rfl,HB.out.1⟩
 ·have q1':¬ (64:Int)<(s.pg.length:Int):=by omega
  by_cases q2:s.b<(s.cl.length:Int)
  ·go_enter Tryz.func101,Tryz.ntmps101
   go_wp2_with fail;go_ret;exact⟨by rw[HE.out,zT q2,Bool.or_true,Bool.true_or];rfl,HB.out.1⟩
  ·have HE2:Hid (aw1 s=anyU (fun i=>decide (64<(s.cl.getD i []).length)) s.cl.length):=by rw[HE.out,zU q1,zU q2,Bool.false_or,Bool.false_or];trivial
   clear HE;go_enter Tryz.func101,Tryz.ntmps101;go_wp2_with fail;obtain⟨w1,hw1⟩:∃ w1,w1=w.alloc (suO s p):=⟨_,rfl⟩
   rw[show w.alloc (.cells (suC s p) 28)=w1 from hw1.symm];rw[<- hw1]at HB HT;clear hw1
   go_loopw [2,21] (fun v2 v21 wr=>∃ k:Nat,v21=.int .i64 (k:Int)/\v2=.bool false/\k<=s.cl.length/\Hid (wr=w1/\anyU (fun i=>decide (64<(s.cl.getD i []).length)) k=false)) (fun v2 v21 _=>s.cl.length - (intOf v21).toNat)
   case atStart=>exact⟨0,rfl,rfl,zV _,rfl,rfl⟩
   case round =>
    obtain⟨k,rfl,rfl,hk,HR⟩:=hrel;have hw:=HR.out.1;subst hw
    by_cases hlt:k<s.cl.length
    ·have hlt':(k:Int)<(s.cl.length:Int):=by omega
     obtain⟨g,o,qa,c,e,hg,c0,_,ln⟩:=HT.out k hlt;obtain⟨m,hm⟩:∃ m,(s.cl.getD k []).length=m:=⟨_,rfl⟩
     rw[hm]at c0 ln
     by_cases q:64<m
     ·have q':(64:Int)<(m:Int):=by omega
      have HY:Hid (anyU (fun i=>decide (64<(s.cl.getD i []).length)) s.cl.length=true):=(ad3 _ _).2 ⟨k,hlt,zT (by omega)⟩;clear hm;rw[e];go_wp2_with fail;go_ret;exact⟨by rw[HE2.out,HY.out];rfl,HB.out.1⟩
     ·have q':¬ (64:Int)<(m:Int):=by omega
      have HY:Hid (anyU (fun i=>decide (64<(s.cl.getD i []).length)) (k+1)=false):=by
       show (anyU _ k || decide _)=false
       rw[HR.out.2,zU (by omega)]
       rfl
      clear hm;rw[e];go_wp2_with fail;exact⟨⟨k+1,by first | rfl | (congr 1),rfl,by omega,by first | trivial | rfl,HY.out⟩,by simp[intOf];omega⟩
    ·have hk':k=s.cl.length:=by omega
     have hlt':¬ (k:Int)<(s.cl.length:Int):=by omega
     go_wp2_with fail;go_ret;exact⟨by rw[HE2.out,<- hk',HR.out.2];rfl,HB.out.1⟩
def badC (s:Su) (l:List (Int × List Nat)) (n:Nat):Bool:=anyU (fun j=>!a58 s.pg.length (l.getD j (0,[]))) n
def badT (s:Su) (n:Nat):Bool:=anyU (fun i=>badC s (s.cl.getD i []) (s.cl.getD i []).length) n
theorem aZ8 (s:Su):errS s=if Md.cfgB s.a s.b s.c s.e && decide ((s.st.length:Int)<=s.a) then (if aw1 s then 160 else if badT s s.cl.length then 1 else 0) else 1:=by
 unfold errS badT;have e:s.cl.all (fun l=>l.all (a58 s.pg.length))=!anyU (fun i=>badC s (s.cl.getD i []) (s.cl.getD i []).length) s.cl.length:=by
  rw[bn5 s.cl []]
  congr 2
  funext i
  unfold badC;rw[bn5 _ (0,[]),Bool.not_not]
 rw[e];unfold aw1
 cases anyU (fun i=>badC s (s.cl.getD i []) (s.cl.getD i []).length) s.cl.length <;> rfl
theorem aE1 (h:SuAt w s p):Calls Tryz.prog 63 #[.agg (suC s p)] w fun r w'=>r=.returned (.int .i64 (errS s))/\Bl w w':=by
 have HB:=zH (ao9 w s p);have HX:Hid (∀ u,Below (w.alloc (suO s p)).heap.size (w.alloc (suO s p)) u->SuAt u s p/\u.heap[w.heap.size]?=some (suO s p)/\Bl w u):=fun u hu=>⟨(h.on HB.out.1).on hu,(hu.block _ (lt_of_block HB.out.2)).trans HB.out.2,HB.out.1.trans (hu.mono HB.out.1.size)⟩
 have HP:=zH (fun u=>Md.place_any s.a s.b s.c s.e u);have l1:=h.l1;have l2:=h.l2;have l3:=h.l3;have HE:=zH (aZ8 s);have HM:Hid (∀ u,Below (w.alloc (suO s p)).heap.size (w.alloc (suO s p)) u->Calls Tryz.prog 101 #[.agg (suC s p)] u fun r w'=>r=.returned (.bool (aw1 s))/\Bl u w'):=fun u hu=>aM5 (HX.out u hu).1
 clear h
 cases hc:Md.cfgB s.a s.b s.c s.e with
 | false =>
  simp only[hc]at HP;have HE2:Hid (errS s=1):=by rw[HE.out,hc];trivial
  clear HE HM;go_enter Tryz.func63,Tryz.ntmps63
  go_wp2_with (go_at_call 64;refine(HP.out _).mono ?_;rintro r u1 ⟨rfl,q⟩;have H1:=zH q;clear q HP)
  go_ret;have:=(HX.out _ H1.out).2.2;exact⟨by rw[HE2.out];rfl,this.alloc this.size _⟩
 | true =>
  simp only[hc]at HP
  by_cases q1:(s.st.length:Int)<=s.a
  ·have q1':¬ s.a<(s.st.length:Int):=by omega
   cases hm:aw1 s with
   | true =>
    rw[hm]at HM;have HE2:Hid (errS s=160):=by rw[HE.out,hc,hm,zT q1];trivial
    clear HE;go_enter Tryz.func63,Tryz.ntmps63
    go_wp2_with (first
     | (go_at_call 101;refine(HM.out _ (H1.out.alloc H1.out.size _)).mono ?_;rintro r u2 ⟨rfl,q⟩;have H2:=zH (a06 (H1.out.alloc H1.out.size _) q);clear q HM)
     | (go_at_call 64;refine(HP.out _).mono ?_;rintro r u1 ⟨rfl,q⟩;have H1:=zH q;obtain⟨s0,s1,s2,s3,s4,s5,s6,s7⟩:=a46 (HX.out _ q).2.1;clear q HP))
    go_ret;exact⟨by rw[HE2.out];rfl,(HX.out _ H2.out).2.2⟩
   | false =>
    rw[hm]at HM;have HE2:Hid (errS s=if badT s s.cl.length then 1 else 0):=by rw[HE.out,hc,hm,zT q1];trivial
    clear HE;go_enter Tryz.func63,Tryz.ntmps63
    go_wp2_with (first
     | (go_at_call 101;refine(HM.out _ (H1.out.alloc H1.out.size _)).mono ?_;rintro r u2 ⟨rfl,q⟩;have H2:=zH (a06 (H1.out.alloc H1.out.size _) q);clear s0 s1 s2 s3 s4 s5 s6 s7;obtain⟨s0,s1,s2,s3,s4,s5,s6,s7⟩:=a46 (HX.out _ H2.out).2.1;clear q HM)
     | (go_at_call 64;refine(HP.out _).mono ?_;rintro r u1 ⟨rfl,q⟩;have H1:=zH q;obtain⟨s0,s1,s2,s3,s4,s5,s6,s7⟩:=a46 (HX.out _ q).2.1;clear q HP))
    clear s0 s1 s2 s3 s4 s5 s6 s7 H1
    go_loopw [2,31] (fun v2 v31 wr=>∃ k:Nat,v31=.int .i64 (k:Int)/\v2=.int .i64 0/\k<=s.cl.length/\Hid (Below (w.alloc (suO s p)).heap.size (w.alloc (suO s p)) wr/\badT s k=false)) (fun v2 v31 _=>s.cl.length - (intOf v31).toNat)
    case atStart=>exact⟨0,rfl,rfl,zV _,H2.out,rfl⟩
    case round =>
     obtain⟨k,rfl,rfl,hk,HR⟩:=hrel;clear H2
     by_cases hlt:k<s.cl.length
     ·have hlt':(k:Int)<(s.cl.length:Int):=by omega
      obtain⟨g,o,qa,c,e,hg,c0,ca,ln⟩:=(HX.out _ HR.out.1).1.cl k hlt;have HY:Hid ((badC s (s.cl.getD k []) (s.cl.getD k []).length=true->errS s=1)/\(badC s (s.cl.getD k []) (s.cl.getD k []).length=false->badT s (k+1)=false)):=by
       refine⟨fun q=>?_,fun q=>?_⟩
       ·rw[HE2.out,show badT s s.cl.length=true from(ad3 _ _).2 ⟨k,hlt,q⟩]
        rfl
       ·show (anyU _ k || badC s (s.cl.getD k []) (s.cl.getD k []).length)=false
        rw[q,Bool.or_false];exact HR.out.2
      obtain⟨l,hl⟩:∃ l,s.cl.getD k []=l:=⟨_,rfl⟩
      rw[hl]at c0 ca ln HY;obtain⟨m,hm⟩:∃ m,l.length=m:=⟨_,rfl⟩
      rw[hm]at c0 ln HY;have HCA:=zH ca;have HM:=zH hm;obtain⟨wo,hwo⟩:∃ wo,wo=wr:=⟨_,rfl⟩
      rw[<- hwo]at HR c0 hg HCA ⊢;clear hl hm ca hwo;rw[e];go_wp2_with fail
      go_loopw [2,37] (fun v2 v37 wi=>∃ j:Nat,v37=.int .i64 (j:Int)/\v2=.int .i64 0/\j<=m/\Hid (Bl wo wi/\badC s l j=false)) (fun v2 v37 _=>m - (intOf v37).toNat)
      case atStart=>exact⟨0,rfl,rfl,zV _,zF _ _,rfl⟩
      case round =>
       obtain⟨j,rfl,rfl,hj,HI⟩:=hrel;have HBW:=zH (HR.out.1.trans (HI.out.1.mono HR.out.1.size))
       by_cases hjt:j<m
       ·have hjt':(j:Int)<(m:Int):=by omega
        obtain⟨g2,o2,po,cc,e2,hg2,d0,d1,_,_⟩:=(HCA.out.on HI.out.1) j (by rw[HM.out];exact hjt);obtain⟨x,hx⟩:∃ x,l.getD j (0,[])=x:=⟨_,rfl⟩
        have HZ:Hid ((a58 s.pg.length x=true->badC s l (j+1)=false)/\(a58 s.pg.length x=false->errS s=1)):=by
         refine⟨fun q=>?_,fun q=>HY.out.1 ((ad3 _ _).2 ⟨j,hjt,by rw[hx,q];rfl⟩)⟩
         show (anyU _ j || !a58 s.pg.length (l.getD j (0,[])))=false
         rw[hx,q,Bool.not_true,Bool.or_false];exact HI.out.2
        rw[hx]at d0 d1;have HMB:=zH (fun u:World=>a82 (w:=u) x.1 po x.2.length cc s.pg.length x.2 rfl);rw[show (x.1,x.2)=x from rfl]at HMB;obtain⟨n2,hn2⟩:∃ n2,x.2.length=n2:=⟨_,rfl⟩
        obtain⟨x1,hx1⟩:∃ x1,x.1=x1:=⟨_,rfl⟩
        rw[hn2]at HMB d1;rw[hx1]at HMB d0;clear hx hn2 hx1;have HAL:Hid (∀ ob,Below (w.alloc (suO s p)).heap.size (w.alloc (suO s p)) (wr.alloc ob)/\Bl wo (wr.alloc ob)):=fun ob=>⟨HBW.out.alloc HBW.out.size ob,HI.out.1.alloc HI.out.1.size ob⟩
        obtain⟨s0,s1,s2,s3,s4,s5,s6,s7⟩:=a46 (HX.out _ (HAL.out (.cells #[.int .i64 x1,.slice po n2 cc] 138)).1).2.1;clear s0 s1 s2 s3 s4 s6;subst e2
        cases hb:a58 s.pg.length x with
        | true =>
         rw[hb]at HMB
         go_wp2_with (go_at_call 102;refine(HMB.out _).mono ?_;rintro r u4 ⟨rfl,q⟩;have H4:=zH q;clear q HMB)
         exact⟨⟨j+1,by first | rfl | (congr 1),rfl,by omega,(HAL.out _).2.trans (H4.out.mono (HAL.out _).2.size),HZ.out.1 hb⟩,by simp[intOf];omega⟩
        | false =>
         rw[hb]at HMB
         go_wp2_with (go_at_call 102;refine(HMB.out _).mono ?_;rintro r u4 ⟨rfl,q⟩;have H4:=zH q;clear q HMB)
         go_ret;have z:=(HX.out _ (HAL.out (.cells #[.int .i64 x1,.slice po n2 cc] 138)).1).2.2;exact⟨by rw[HZ.out.2 hb];rfl,z.trans (H4.out.mono z.size)⟩
       ·have hjm:j=m:=by omega
        have hjt':¬ (j:Int)<(m:Int):=by omega
        go_wp2_with fail;exact⟨⟨k+1,by first | rfl | (congr 1),rfl,by omega,HBW.out,HY.out.2 (by rw[<- hjm];exact HI.out.2)⟩,by simp[intOf];omega⟩
     ·have hk':k=s.cl.length:=by omega
      have hlt':¬ (k:Int)<(s.cl.length:Int):=by omega
      go_wp2_with fail;go_ret;exact⟨by rw[HE2.out,<- hk',HR.out.2];rfl,(HX.out _ HR.out.1).2.2⟩
  ·have q1':s.a<(s.st.length:Int):=by omega
   have HE2:Hid (errS s=1):=by rw[HE.out,zU q1,Bool.and_false];trivial
   clear HE HM;go_enter Tryz.func63,Tryz.ntmps63
   go_wp2_with (go_at_call 64;refine(HP.out _).mono ?_;rintro r u1 ⟨rfl,q⟩;have H1:=zH q;obtain⟨s0,s1,s2,s3,s4,s5,s6,s7⟩:=a46 (HX.out _ q).2.1;clear q HP)
   go_ret;have:=(HX.out _ H1.out).2.2;exact⟨by rw[HE2.out];rfl,this.alloc this.size _⟩
end
theorem aw7 {w:World} {g o c n:Nat} {sp:Option Nat} {xs:List Value} (hn:xs.length=n*3) (hx:∀ j u,xs[j]?=some u->w.cell? ((⟨g,o,sp⟩:Addr).add j)=some u) (h1:∀ u∈xs,u.oneCell'=true) (hz:n<=5864062014805):Calls Tryz.prog 107 #[.slice (some ⟨g,o,sp⟩) n c] w fun e w'=>∃ p' c',e=.returned (.slice p' n c')/\w'.ownsRow w.heap.size 133 3 (.slice p' n c') n xs/\Bl w w':=by
 have hq:=fun w c=>Lib.run_eql_slice_nil (P:=Tryz.prog) w 134 133 (some ⟨g,o,sp⟩) n c 0 0 Tryz.underlying134
 have HX:Hid (∀ j u,xs[j]?=some u->(w.alloc (.cells #[] 133)).cell? ((⟨g,o,sp⟩:Addr).add j)=some u):=fun j u hj=>((below_alloc w _).cell (zK w _ (hx j u hj))).trans (hx j u hj)
 have H1:=zH (And.intro h1 (And.intro hn hz));have HO:Hid ((w.alloc (.cells #[] 133)).ownsRow w.heap.size 133 3 (.slice (some ⟨w.heap.size,0,none⟩) 0 0) 0 []):=⟨rfl,.inr ⟨w.heap.size,0,#[],rfl,zE _,zN _ _,zE _,zV _,by simp,by simp⟩⟩;obtain⟨i0,hi,hz0,hz1,hz2⟩:=info_parts aK4;have HZI:=zH (And.intro hi (And.intro hz0 (And.intro hz1 hz2)));clear hi hz0 hz1 hz2 hx h1 hz hn;go_enter Tryz.func107,Tryz.ntmps107
 go_wp2_with (at_builtin;refine wpList_append_own_at _ rfl _ _ 134 rfl w.heap.size 133 i0 _ 3 24 Tryz.underlying134 HZI.out.1 HZI.out.2.1 HZI.out.2.2.1 HZI.out.2.2.2 rfl (by decide) _ 0 [] rfl HO.out ⟨g,o,sp⟩ n _ xs rfl H1.out.2.1 HX.out H1.out.1 (by have:=H1.out.2.2;unfold maxLen;omega) (by have:=H1.out.2.2;omega) (by simp) ?_;intro v w3 hown hgrow hnil hloc;have HS:=zH (And.intro hown hgrow);clear hown hgrow hnil hloc)
 have ho3:=HS.out.1;rw[List.nil_append,Nat.zero_add]at ho3;obtain⟨p',c',hv,ha⟩:=ac6 ho3;subst hv;have hb3:Bl w w3:=(below_alloc w _).grown HS.out.2 (by simp) (fun j hj=>by
  have:=hj
  simp[Act.eval,Value.ownBlock]at this
  omega)
 have HF:=zH (And.intro ho3 hb3);clear ho3 ha hb3 HS H1
 go_wp2
 go_ret;exact⟨_,_,rfl,HF.out.1,HF.out.2⟩
theorem av7 {w:World} {ao:Option Addr} {cap n:Nat} {c:List Ins} (h:a35 w ao c) (hn:c.length=n) (h1:1<=n) (hz:n<=5864062014805):Calls Tryz.prog 107 #[.slice ao n cap] w fun e w'=>∃ p' c',e=.returned (.slice p' n c')/\a35 w' p' c/\Blw w' (fpR p')/\Abv w.heap.size (fpR p')/\Bl w w':=by
 obtain⟨g,o,e,_,_,_,_⟩:=h 0 (by omega);subst e;refine(aw7 (xs:=c.flatMap fun i=>[Value.int .i64 i.op,.int .i64 i.n,.float .f64 i.x]) (by rw[aA1,hn]) (fun j u hj=>?_) (fun u hu=>?_) hz).mono fun e w' ⟨p',c',a1,a2,a3⟩=>?_
 ·have hjl:j<c.length*3:=by
   have:=(List.getElem?_eq_some_iff.1 hj).1;rwa[aA1]at this
  rw[aE8 c j hjl]at hj;obtain⟨g',o',e',_,c0,c1,c2⟩:=h (j / 3) (by omega)
  cases e'
  rw[show (⟨g,o,none⟩:Addr).add j=⟨g,o+j,none⟩ by unfold Addr.add;split <;> simp_all,<- hj]
  by_cases h0:j % 3=0
  ·rw[if_pos h0,show o+j=o+j / 3*3 by omega]
   exact c0
  ·rw[if_neg h0]
   by_cases h1:j % 3=1
   ·rw[if_pos h1,show o+j=o+j / 3*3+1 by omega]
    exact c1
   ·rw[if_neg h1,show o+j=o+j / 3*3+2 by omega]
    exact c2
 ·obtain⟨i,_,hx⟩:=List.mem_flatMap.1 hu
  simp at hx
  rcases hx with rfl | rfl | rfl <;> rfl
 ·rw[<- hn]at a2
  obtain⟨b1,b2,b3⟩:=aN6 a2;exact⟨p',c',a1,b1,b2,b3,a3⟩
theorem aS1 {w:World} {ao:Option Addr} {cap:Nat} {c:List Ins} (h:a35 w ao c) (hp:Pln ao c.length cap) (hz:c.length<=5864062014805):Calls Tryz.prog 107 #[.slice ao c.length cap] w fun e w'=>∃ p' c',e=.returned (.slice p' c.length c')/\a35 w' p' c/\Blw w' (fpR p')/\Abv w.heap.size (fpR p')/\Bl w w':=by
 by_cases h1:1<=c.length
 ·exact av7 h rfl h1 hz
 ·have h0:c.length=0:=by omega
  have hC:∀ (w:World) (p:Option Addr),a35 w p c:=fun w p k hk=>by omega
  rcases hp with⟨rfl,_,rfl⟩ | ⟨g,o,sp,rfl⟩
  ·rw[h0]
   exact(aR7 w).mono fun e w' ⟨a1,a2⟩=>⟨none,0,a1,hC _ _,fun k hk=>by simp[fpR]at hk,fun k hk=>by simp[fpR]at hk,a2 ▸ zF _ _⟩
  ·refine(aw7 (xs:=[]) (by rw[h0];rfl) (fun j u hj=>by cases hj) (fun u hu=>by cases hu) (by omega)).mono fun e w' ⟨p',c',a1,a2,a3⟩=>⟨p',c',a1,hC _ _,fun k hk=>(a2.lt k (a40.1 hk)).2,fun k hk=>(a2.lt k (a40.1 hk)).1,a3⟩
theorem aR9 {w:World} {po:Option Addr} {cap:Nat} {l:List Nat} (h:FlAt w po l) (hp:Pln po l.length cap) (hz:l.length<=1024):Calls Tryz.prog 108 #[.slice po l.length cap] w fun e w'=>∃ p' c',e=.returned (.slice p' l.length c')/\RowAt 71 w' p' c' (fls l)/\Abv w.heap.size (fpR p')/\Bl w w':=by
 rcases hp with⟨rfl,h0,rfl⟩ | ⟨g,o,sp,rfl⟩
 ·obtain rfl:l=[]:=List.length_eq_zero_iff.1 h0
  exact(aw6 w).mono fun e w' ⟨a1,a2⟩=>⟨none,0,a1,⟨World.ownsRow_nil _ _ _ _⟩,fun k hk=>by simp[fpR]at hk,a2 ▸ zF _ _⟩
 ·refine(ar8 (xs:=fls l) (by rw[a26,Nat.mul_one]) (fun j u hj=>?_) (aK0 l) hz).mono fun e w' ⟨p',c',a1,a2,a3⟩=>?_
  ·have hjl:j<l.length:=by
    have:=(List.getElem?_eq_some_iff.1 hj).1;rwa[a26]at this
   obtain⟨g',o',e',_,c0⟩:=h j hjl
   cases e'
   rw[add_plain,c0,<- hj];unfold fls;rw[List.getElem?_map,zG,List.getElem?_eq_getElem hjl]
   rfl
  ·obtain⟨p2,c2,e2,r1,r2⟩:=aB2 a2
   have e2:Value.slice p' l.length c'=.slice p2 l.length c2:=by rw[e2,a26]
   injection e2 with e3 _ e4;subst e3 e4;exact⟨_,_,a1,r1,r2,a3⟩
theorem aN3:(Tryz.prog.info? 138).map (fun i=>(i.zero,i.size,i.bytes))=some (some (.agg #[.int .i64 0,.slice none 0 0]),2,32):=by kernel_rfl
theorem aP5:(Tryz.prog.info? 136).map (fun i=>(i.zero,i.size,i.bytes))=some (some (.agg #[.int .i64 0,.slice none 0 0]),2,32):=by kernel_rfl
theorem bH8 (n:Nat) (hn:n<=512):∃ arr:Array Value,arr.size=n*2/\∀ w:World,(Instr.makeSlice 59 (.int .i64 (n:Int)) (.int .i64 (n:Int))).run Tryz.prog w=.ok (.slice (some ⟨w.heap.size,0,none⟩) n n) (w.alloc (.cells arr 138)):=by
 obtain⟨i,hi,hz0,hz1,hz2⟩:=info_parts aN3;refine⟨madeCells (Value.agg #[.int .i64 0,.slice none 0 0]).cells (n*i.size),by rw[size_madeCells,hz1],fun w=>?_⟩;rw[run_make w 59 138 i _ Tryz.underlying59 hi hz0 .i64 .i64 n n (by omega) (zW _) (by rw[hz2];omega) (by omega)];rw[Int.toNat_natCast]
theorem bL9 (n:Nat) (hn:n<=512):∃ arr:Array Value,arr.size=n*2/\∀ w:World,(Instr.makeSlice 25 (.int .i64 (n:Int)) (.int .i64 (n:Int))).run Tryz.prog w=.ok (.slice (some ⟨w.heap.size,0,none⟩) n n) (w.alloc (.cells arr 136)):=by
 obtain⟨i,hi,hz0,hz1,hz2⟩:=info_parts aP5;refine⟨madeCells (Value.agg #[.int .i64 0,.slice none 0 0]).cells (n*i.size),by rw[size_madeCells,hz1],fun w=>?_⟩;rw[run_make w 25 136 i _ Tryz.underlying25 hi hz0 .i64 .i64 n n (by omega) (zW _) (by rw[hz2];omega) (by omega)];rw[Int.toNat_natCast]
structure OwC (w:World) (B g n k:Nat) (l:List (Int × List Nat)) (P:Nat->Option Addr) (C:Nat->Nat):Prop where
 row:Arr w g 138 2 n k (fun j=>#[.int .i64 (l.getD j (0,[])).1,.slice (P j) (l.getD j (0,[])).2.length (C j)])
 args:∀ j,j<k->RowAt 71 w (P j) (C j) (fls (l.getD j (0,[])).2)/\Abv (g+1) (fpR (P j))
 lo:B<=g
section
variable {w w':World} {g:Nat}
theorem OwC.on {B n k:Nat} {l:List (Int × List Nat)} {P:Nat->Option Addr} {C:Nat->Nat} (h:OwC w B g n k l P C) (q:Bl w w'):OwC w' B g n k l P C:=⟨h.row.on q,fun j hj=>⟨(h.args j hj).1.on q,(h.args j hj).2⟩,h.lo⟩
theorem OwC.next {B n k:Nat} {l:List (Int × List Nat)} {P:Nat->Option Addr} {C:Nat->Nat} (h:OwC w B g n k l P C) (hk:k<n) {u:World} (q:Bl w u) {po:Option Addr} {co:Nat} (hr:RowAt 71 u po co (fls (l.getD k (0,[])).2)) (ha:Abv w.heap.size (fpR po)):∃ arr,u.heap[g]?=some (.cells arr 138 (0,0))/\k*2+2<=arr.size/\∃ P' C',OwC (u.setRow g (ab3 arr (k*2) [.int .i64 (l.getD k (0,[])).1,.slice po (l.getD k (0,[])).2.length co])) B g n (k+1) l P' C':=by
 have hu:=h.on q;have hg:=h.row.lt;obtain⟨arr,a1,a2,a3⟩:=hu.row.next hk (cs:=#[.int .i64 (l.getD k (0,[])).1,.slice po (l.getD k (0,[])).2.length co]) rfl;refine⟨arr,a1,a2,fun j=>if j=k then po else P j,fun j=>if j=k then co else C j,?_,fun j hj=>?_,h.lo⟩
 ·have e:updA (fun j=>#[.int .i64 (l.getD j (0,[])).1,.slice (P j) (l.getD j (0,[])).2.length (C j)]) k #[.int .i64 (l.getD k (0,[])).1,.slice po (l.getD k (0,[])).2.length co]=fun j=>#[Value.int .i64 (l.getD j (0,[])).1,.slice (if j=k then po else P j) (l.getD j (0,[])).2.length (if j=k then co else C j)]:=by
   funext j
   by_cases z:j=k
   ·subst z;rw[a22,if_pos rfl,if_pos rfl]
   ·rw[a37 _ _ z,if_neg z,if_neg z]
  rw[<- e];exact a3
 ·by_cases z:j=k
  ·subst z
   rw[if_pos rfl,if_pos rfl];have ha':Abv (g+1) (fpR po):=ha.mono (by omega);exact⟨hr.keep (a87 fun y=>by have:=ha' g y;omega),ha'⟩
  ·rw[if_neg z,if_neg z]
   have:=hu.args j (by omega);exact⟨this.1.keep (a87 fun y=>by have:=this.2 g y;omega),this.2⟩
theorem OwC.in_ {B n:Nat} {l:List (Int × List Nat)} {P:Nat->Option Addr} {C:Nat->Nat} (h:OwC w B g n n l P C):∃ R,Abv B R/\Blw w R/\∀ j,j<n->ClIn w R (some ⟨g,0,none⟩) j (l.getD j (0,[])):=by
 refine⟨g::(List.range n).flatMap (fun j=>fpR (P j)),fun k hk=>?_,fun k hk=>?_,fun j hj=>⟨g,rfl,by simp,?_,P j,C j,?_,(h.args j hj).1.fl,fun k hk=>?_⟩⟩
 ·simp only[List.mem_cons,List.mem_flatMap,List.mem_range]at hk
  rcases hk with rfl | ⟨j,hj,hk⟩
  ·exact h.lo
  ·have:=(h.args j hj).2 k hk
   have:=h.lo;omega
 ·simp only[List.mem_cons,List.mem_flatMap,List.mem_range]at hk
  rcases hk with rfl | ⟨j,hj,hk⟩
  ·exact h.row.lt
  ·exact(h.args j hj).1.blw k hk
 ·exact(h.row.cell (j:=0) hj (by omega)).trans rfl
 ·exact(h.row.cell (j:=1) hj (by omega)).trans rfl
 ·simp only[List.mem_cons,List.mem_flatMap,List.mem_range]
  exact .inr ⟨j,hj,hk⟩
theorem aG1 {ao:Option Addr} {cap:Nat} {l:List (Int × List Nat)} (h:CaAt w ao l) (hl:l.length<=64) (h8:∀ j,j<l.length->(l.getD j (0,[])).2.length<=8):Calls Tryz.prog 69 #[.slice ao l.length cap] w fun r w'=>∃ g,r=.returned (.slice (some ⟨g,0,none⟩) l.length l.length)/\Hid ((∃ P C,OwC w' w.heap.size g l.length l.length l P C)/\Bl w w'):=by
 obtain⟨n,hn⟩:∃ n,l.length=n:=⟨_,rfl⟩
 rw[hn]at hl h8;have hli:(n:Int)<=64:=by omega
 obtain⟨arr0,hsz,hmk⟩:=bH8 n (by omega);have HC:Hid (∀ u k,Bl w u->k<n->∃ g o po c,ao=some ⟨g,o,none⟩/\g<u.heap.size/\u.cell? ⟨g,o+k*2,none⟩=some (.int .i64 (l.getD k (0,[])).1)/\u.cell? ⟨g,o+k*2+1,none⟩=some (.slice po (l.getD k (0,[])).2.length c)/\(∀ u',Bl u u'->Calls Tryz.prog 108 #[.slice po (l.getD k (0,[])).2.length c] u' fun e w'=>∃ p' c',e=.returned (.slice p' (l.getD k (0,[])).2.length c')/\RowAt 71 w' p' c' (fls (l.getD k (0,[])).2)/\Abv u'.heap.size (fpR p')/\Bl u' w')):=fun u k hu hk=>by
  obtain⟨g,o,po,c,e,hg,c0,c1,c2,c3,_⟩:=(h.on hu) k (by omega);exact⟨g,o,po,c,e,hg,c0,c1,fun u' hu'=>aR9 (c2.on hu') c3 (by have:=h8 k hk;omega)⟩
 rw[hn];clear h h8 hn;go_enter Tryz.func69,Tryz.ntmps69;go_wp2_with fail;obtain⟨g,hg⟩:∃ g,w.heap.size=g:=⟨_,rfl⟩
 rw[hg];have H0:Hid ((∃ P C,OwC (w.alloc (.cells arr0 138)) w.heap.size g n 0 l P C)/\Bl w (w.alloc (.cells arr0 138))):=⟨⟨fun _=>none,fun _=>0,⟨⟨⟨arr0,by rw[<- hg];exact zN _ _,hsz,fun i j hi=>absurd hi (zI _)⟩,zV _,fun i hi=>absurd hi (zI _)⟩,fun i hi=>absurd hi (zI _),Nat.le_of_eq hg⟩⟩,below_alloc _ _⟩;clear hmk hsz hg
 go_loopw [11] (fun v11 wr=>∃ k:Nat,v11=.int .i64 (k:Int)/\k<=n/\Hid ((∃ P C,OwC wr w.heap.size g n k l P C)/\Bl w wr)) (fun v11 _=>n - (intOf v11).toNat)
 case atStart=>exact⟨0,rfl,zV _,H0.out⟩
 case round =>
  obtain⟨k,rfl,hk,HR⟩:=hrel;clear H0
  by_cases hlt:k<n
  ·have hlt':(k:Int)<(n:Int):=by omega
   obtain⟨⟨P,C,z1⟩,z2⟩:=HR.out;have HQ:=zH (And.intro z1 z2);obtain⟨gl,o,po,c,e,hgl,c0,c1,HCL0⟩:=HC.out wr k z2 hlt;have HCL:=zH HCL0;have HN:=zH (fun u (q:Bl wr u) po co hr ha=>z1.next hlt q (po:=po) (co:=co) hr ha);have lg:=z1.row.lt;obtain⟨x1,hx1⟩:∃ x1,(l.getD k (0,[])).1=x1:=⟨_,rfl⟩
   obtain⟨x2,hx2⟩:∃ x2,(l.getD k (0,[])).2.length=x2:=⟨_,rfl⟩
   rw[hx1]at c0 HN;rw[hx2]at c1 HCL HN;clear z1 z2 HC HR HCL0 hx1 hx2;subst e
   go_upto_region 5 with fail
   obtain⟨gb,hgb⟩:∃ gb,wr.heap.size=gb:=⟨_,rfl⟩
   obtain⟨w1,hw1⟩:∃ w1,w1=wr.alloc (.cells #[.int .i64 x1,.slice po x2 c] 138):=⟨_,rfl⟩
   rw[<- hw1,hgb];have H1:Hid (Bl wr w1/\w1.heap[gb]?=some (.cells #[.int .i64 x1,.slice po x2 c] 138 (0,0))):=by
    rw[hw1,<- hgb];exact⟨below_alloc _ _,zN _ _⟩
   have t0:=(zR w1 gb 0 _ _ _ H1.out.2).trans (rfl:_=some (Value.int .i64 x1));have t1:=(zR w1 gb 1 _ _ _ H1.out.2).trans (rfl:_=some (Value.slice po x2 c));have lgb:=lt_of_block H1.out.2;clear hw1 hgb c0 c1;refine a32 (fun u=>u.cell? ⟨gb,0,none⟩=some (.int .i64 x1)/\u.cell? ⟨gb,1,none⟩=some (.slice po x2 c) )  ((0,true)::(1,true)::(2,true)::(3,true)::(4,true)::(5,true)::(6,false)::(7,true)::(8,true)::(9,false)::[])  Md.Cv.follows13 (by kernel_rfl) (fun _ _ _ _ _ h=>h)  ⟨t0,t1⟩ ?_
   (repeat (refine a23 (v:=?_) rfl (by rfl) (fun wq hSq=>?_) ?_;rotate_left;(focus ((try dsimp only at hSq);go_simp;try with_reducible rfl));simp only[Act.put,zA,zB,zC]))
   (refine a20 rfl (by rfl) (fun KK hK=>?_);go_simp)
   refine(HCL.out _ (H1.out.1.trans ((Same.drew w1).below _))).mono ?_;rintro r u2 ⟨p',c',rfl,q1,q2,q3⟩;have B2:Hid (Bl wr u2/\Bl w1 u2):=⟨(H1.out.1.trans ((Same.drew w1).below _)).trans (q3.mono H1.out.1.size),((Same.drew w1).below _).trans q3⟩;obtain⟨arr,a1,a2,P',C',a3⟩:=HN.out u2 B2.out.1 p' c' q1 (q2.mono H1.out.1.size);have HZ:=zH a3;have hb2:u2.heap[gb]?=some (.cells #[.int .i64 x1,.slice po x2 c] 138 (0,0)):=(B2.out.2.block _ lgb).trans H1.out.2;refine hK.out _ _ (fun _=>⟨(zR u2 gb 0 _ _ _ hb2).trans rfl,(zR u2 gb 1 _ _ _ hb2).trans rfl⟩) ?_;clear q1 q2 q3 a3 hb2
   (clear hK KK;try simp only[Act.put,zA,zB,zC])
   (repeat (refine a23 (v:=?_) rfl (by rfl) (fun wq hSq=>?_) ?_;rotate_left;(focus ((try dsimp only at hSq);go_simp;try with_reducible rfl));simp only[Act.put,zA,zB,zC]))
   refine a20 rfl (by rfl) (fun KK hK=>?_);refine ag4 138 _ _ rfl g (k*2) #[.int .i64 x1,.slice p' x2 c'] rfl rfl _ arr a1 (by kernel_rfl) a2 (by simp[Value.oneCell']) ?_;refine hK.out _ _ (fun hn=>absurd rfl hn) ?_
   (clear hK KK;try simp only[Act.put])
   refine a54 ?_;go_wp2_with fail;exact⟨⟨k+1,by first | rfl | (congr 1),by omega,⟨P',C',HZ.out⟩,Md.Ce.bl_setRow (HQ.out.2.trans (B2.out.1.mono HQ.out.2.size)) HQ.out.1.lo _⟩,by simp[intOf];omega⟩
  ·obtain rfl:k=n:=by omega
   have hlt':¬ (k:Int)<(k:Int):=by omega
   clear HC;go_wp2_with fail;go_ret;exact⟨g,rfl,HR.out⟩
end
structure OwP (w:World) (B g n k:Nat) (l:List (Int × List Ins)) (P:Nat->Option Addr) (C:Nat->Nat):Prop where
 row:Arr w g 136 2 n k (fun j=>#[.int .i64 (l.getD j (0,[])).1,.slice (P j) (l.getD j (0,[])).2.length (C j)])
 args:∀ j,j<k->(a35 w (P j) (l.getD j (0,[])).2/\Blw w (fpR (P j)))/\Abv (g+1) (fpR (P j))
 lo:B<=g
section
variable {w w':World} {g:Nat}
theorem OwP.on {B n k:Nat} {l:List (Int × List Ins)} {P:Nat->Option Addr} {C:Nat->Nat} (h:OwP w B g n k l P C) (q:Bl w w'):OwP w' B g n k l P C:=⟨h.row.on q,fun j hj=>⟨⟨(h.args j hj).1.1.on q,fun i hi=>zL ((h.args j hj).1.2 i hi) q.size⟩,(h.args j hj).2⟩,h.lo⟩
theorem OwP.next {B n k:Nat} {l:List (Int × List Ins)} {P:Nat->Option Addr} {C:Nat->Nat} (h:OwP w B g n k l P C) (hk:k<n) {u:World} (q:Bl w u) {po:Option Addr} {co:Nat} (hr:a35 u po (l.getD k (0,[])).2) (hb:Blw u (fpR po)) (ha:Abv w.heap.size (fpR po)):∃ arr,u.heap[g]?=some (.cells arr 136 (0,0))/\k*2+2<=arr.size/\∃ P' C',OwP (u.setRow g (ab3 arr (k*2) [.int .i64 (l.getD k (0,[])).1,.slice po (l.getD k (0,[])).2.length co])) B g n (k+1) l P' C':=by
 have hu:=h.on q;have hg:=h.row.lt;obtain⟨arr,a1,a2,a3⟩:=hu.row.next hk (cs:=#[.int .i64 (l.getD k (0,[])).1,.slice po (l.getD k (0,[])).2.length co]) rfl;refine⟨arr,a1,a2,fun j=>if j=k then po else P j,fun j=>if j=k then co else C j,?_,fun j hj=>?_,h.lo⟩
 ·have e:updA (fun j=>#[.int .i64 (l.getD j (0,[])).1,.slice (P j) (l.getD j (0,[])).2.length (C j)]) k #[.int .i64 (l.getD k (0,[])).1,.slice po (l.getD k (0,[])).2.length co]=fun j=>#[Value.int .i64 (l.getD j (0,[])).1,.slice (if j=k then po else P j) (l.getD j (0,[])).2.length (if j=k then co else C j)]:=by
   funext j
   by_cases z:j=k
   ·subst z;rw[a22,if_pos rfl,if_pos rfl]
   ·rw[a37 _ _ z,if_neg z,if_neg z]
  rw[<- e];exact a3
 ·by_cases z:j=k
  ·subst z
   rw[if_pos rfl];have ha':Abv (g+1) (fpR po):=ha.mono (by omega);exact⟨⟨al2 hr (a87 fun y=>by have:=ha' g y;omega),fun i hi=>by have:=hb i hi;simpa using this⟩,ha'⟩
  ·rw[if_neg z]
   have:=hu.args j (by omega);exact⟨⟨al2 this.1.1 (a87 fun y=>by have:=this.2 g y;omega),fun i hi=>by have:=this.1.2 i hi;simpa using this⟩,this.2⟩
theorem OwP.in_ {B n:Nat} {l:List (Int × List Ins)} {P:Nat->Option Addr} {C:Nat->Nat} (h:OwP w B g n n l P C) (hl:∀ j,j<n->(l.getD j (0,[])).2.length<=9223372036854775807):∃ R,Abv B R/\Blw w R/\g∈R/\∀ j,j<n->PgIn w R g j (l.getD j (0,[])):=by
 refine⟨g::(List.range n).flatMap (fun j=>fpR (P j)),fun k hk=>?_,fun k hk=>?_,by simp,fun j hj=>⟨by simp,?_,P j,C j,?_,(h.args j hj).1.1,fun k hk=>?_,hl j hj⟩⟩
 ·simp only[List.mem_cons,List.mem_flatMap,List.mem_range]at hk
  rcases hk with rfl | ⟨j,hj,hk⟩
  ·exact h.lo
  ·have:=(h.args j hj).2 k hk
   have:=h.lo;omega
 ·simp only[List.mem_cons,List.mem_flatMap,List.mem_range]at hk
  rcases hk with rfl | ⟨j,hj,hk⟩
  ·exact h.row.lt
  ·exact(h.args j hj).1.2 k hk
 ·exact(h.row.cell (j:=0) hj (by omega)).trans rfl
 ·exact(h.row.cell (j:=1) hj (by omega)).trans rfl
 ·simp only[List.mem_cons,List.mem_flatMap,List.mem_range]
  exact .inr ⟨j,hj,hk⟩
theorem au5 {ao:Option Addr} {cap:Nat} {l:List (Int × List Ins)} (h:PrAt w ao l) (hl:l.length<=64):Calls Tryz.prog 68 #[.slice ao l.length cap] w fun r w'=>∃ g,r=.returned (.slice (some ⟨g,0,none⟩) l.length l.length)/\Hid ((∃ P C,OwP w' w.heap.size g l.length l.length l P C)/\Bl w w'):=by
 obtain⟨n,hn⟩:∃ n,l.length=n:=⟨_,rfl⟩
 rw[hn]at hl;have hli:(n:Int)<=64:=by omega
 obtain⟨arr0,hsz,hmk⟩:=bL9 n (by omega);have HC:Hid (∀ u k,Bl w u->k<n->∃ g o po c,ao=some ⟨g,o,none⟩/\g<u.heap.size/\u.cell? ⟨g,o+k*2,none⟩=some (.int .i64 (l.getD k (0,[])).1)/\u.cell? ⟨g,o+k*2+1,none⟩=some (.slice po (l.getD k (0,[])).2.length c)/\(∀ u',Bl u u'->Calls Tryz.prog 107 #[.slice po (l.getD k (0,[])).2.length c] u' fun e w'=>∃ p' c',e=.returned (.slice p' (l.getD k (0,[])).2.length c')/\a35 w' p' (l.getD k (0,[])).2/\Blw w' (fpR p')/\Abv u'.heap.size (fpR p')/\Bl u' w')):=fun u k hu hk=>by
  obtain⟨g,o,po,c,e,hg,c0,c1,c2,c3,c4⟩:=(h.on hu) k (by omega);exact⟨g,o,po,c,e,hg,c0,c1,fun u' hu'=>aS1 (c2.on hu') c3 c4⟩
 rw[hn];clear h hn;go_enter Tryz.func68,Tryz.ntmps68;go_wp2_with fail;obtain⟨g,hg⟩:∃ g,w.heap.size=g:=⟨_,rfl⟩
 rw[hg];have H0:Hid ((∃ P C,OwP (w.alloc (.cells arr0 136)) w.heap.size g n 0 l P C)/\Bl w (w.alloc (.cells arr0 136))):=⟨⟨fun _=>none,fun _=>0,⟨⟨⟨arr0,by rw[<- hg];exact zN _ _,hsz,fun i j hi=>absurd hi (zI _)⟩,zV _,fun i hi=>absurd hi (zI _)⟩,fun i hi=>absurd hi (zI _),Nat.le_of_eq hg⟩⟩,below_alloc _ _⟩;clear hmk hsz hg
 go_loopw [11] (fun v11 wr=>∃ k:Nat,v11=.int .i64 (k:Int)/\k<=n/\Hid ((∃ P C,OwP wr w.heap.size g n k l P C)/\Bl w wr)) (fun v11 _=>n - (intOf v11).toNat)
 case atStart=>exact⟨0,rfl,zV _,H0.out⟩
 case round =>
  obtain⟨k,rfl,hk,HR⟩:=hrel;clear H0
  by_cases hlt:k<n
  ·have hlt':(k:Int)<(n:Int):=by omega
   obtain⟨⟨P,C,z1⟩,z2⟩:=HR.out;have HQ:=zH (And.intro z1 z2);obtain⟨gl,o,po,c,e,hgl,c0,c1,HCL0⟩:=HC.out wr k z2 hlt;have HCL:=zH HCL0;have HN:=zH (fun u (q:Bl wr u) po co hr hb ha=>z1.next hlt q (po:=po) (co:=co) hr hb ha);have lg:=z1.row.lt;obtain⟨x1,hx1⟩:∃ x1,(l.getD k (0,[])).1=x1:=⟨_,rfl⟩
   obtain⟨x2,hx2⟩:∃ x2,(l.getD k (0,[])).2.length=x2:=⟨_,rfl⟩
   rw[hx1]at c0 HN;rw[hx2]at c1 HCL HN;clear z1 z2 HC HR HCL0 hx1 hx2;subst e
   go_upto_region 5 with fail
   obtain⟨gb,hgb⟩:∃ gb,wr.heap.size=gb:=⟨_,rfl⟩
   obtain⟨w1,hw1⟩:∃ w1,w1=wr.alloc (.cells #[.int .i64 x1,.slice po x2 c] 136):=⟨_,rfl⟩
   rw[<- hw1,hgb];have H1:Hid (Bl wr w1/\w1.heap[gb]?=some (.cells #[.int .i64 x1,.slice po x2 c] 136 (0,0))):=by
    rw[hw1,<- hgb];exact⟨below_alloc _ _,zN _ _⟩
   have t0:=(zR w1 gb 0 _ _ _ H1.out.2).trans (rfl:_=some (Value.int .i64 x1));have t1:=(zR w1 gb 1 _ _ _ H1.out.2).trans (rfl:_=some (Value.slice po x2 c));have lgb:=lt_of_block H1.out.2;clear hw1 hgb c0 c1;refine a32 (fun u=>u.cell? ⟨gb,0,none⟩=some (.int .i64 x1)/\u.cell? ⟨gb,1,none⟩=some (.slice po x2 c) )  ((0,true)::(1,true)::(2,true)::(3,true)::(4,true)::(5,true)::(6,false)::(7,true)::(8,true)::(9,false)::[])  Md.Cv.follows13 (by kernel_rfl) (fun _ _ _ _ _ h=>h)  ⟨t0,t1⟩ ?_
   (repeat (refine a23 (v:=?_) rfl (by rfl) (fun wq hSq=>?_) ?_;rotate_left;(focus ((try dsimp only at hSq);go_simp;try with_reducible rfl));simp only[Act.put,zA,zB,zC]))
   (refine a20 rfl (by rfl) (fun KK hK=>?_);go_simp)
   refine(HCL.out _ (H1.out.1.trans ((Same.drew w1).below _))).mono ?_;rintro r u2 ⟨p',c',rfl,q1,qb,q2,q3⟩;have B2:Hid (Bl wr u2/\Bl w1 u2):=⟨(H1.out.1.trans ((Same.drew w1).below _)).trans (q3.mono H1.out.1.size),((Same.drew w1).below _).trans q3⟩;obtain⟨arr,a1,a2,P',C',a3⟩:=HN.out u2 B2.out.1 p' c' q1 qb (q2.mono H1.out.1.size);have HZ:=zH a3;have hb2:u2.heap[gb]?=some (.cells #[.int .i64 x1,.slice po x2 c] 136 (0,0)):=(B2.out.2.block _ lgb).trans H1.out.2;refine hK.out _ _ (fun _=>⟨(zR u2 gb 0 _ _ _ hb2).trans rfl,(zR u2 gb 1 _ _ _ hb2).trans rfl⟩) ?_;clear q1 qb q2 q3 a3 hb2
   (clear hK KK;try simp only[Act.put,zA,zB,zC])
   (repeat (refine a23 (v:=?_) rfl (by rfl) (fun wq hSq=>?_) ?_;rotate_left;(focus ((try dsimp only at hSq);go_simp;try with_reducible rfl));simp only[Act.put,zA,zB,zC]))
   refine a20 rfl (by rfl) (fun KK hK=>?_);refine ag4 136 _ _ rfl g (k*2) #[.int .i64 x1,.slice p' x2 c'] rfl rfl _ arr a1 (by kernel_rfl) a2 (by simp[Value.oneCell']) ?_;refine hK.out _ _ (fun hn=>absurd rfl hn) ?_
   (clear hK KK;try simp only[Act.put])
   refine a54 ?_;go_wp2_with fail;exact⟨⟨k+1,by first | rfl | (congr 1),by omega,⟨P',C',HZ.out⟩,Md.Ce.bl_setRow (HQ.out.2.trans (B2.out.1.mono HQ.out.2.size)) HQ.out.1.lo _⟩,by simp[intOf];omega⟩
  ·obtain rfl:k=n:=by omega
   have hlt':¬ (k:Int)<(k:Int):=by omega
   clear HC;go_wp2_with fail;go_ret;exact⟨g,rfl,HR.out⟩
end
end Go.Proofs.YtlkldgopliablaaGreatDoor.En
namespace Go.Proofs.YtlkldgopliablaaGreatDoor
section
variable {P:Program} {ops:Array Oper} {Q:Exit->Act->World->Prop} {md:Region.Mode} {S:World->Prop}
def aV8 (P:Program) (ops:Array Oper) (Q:Exit->Act->World->Prop) (S:World->Prop) (i:Nat) (ri:List (Nat × Bool)) (j:Nat) (rj:List (Nat × Bool)):List Nat->Act->World->Prop
 | [],a,w=>wpOp P ops Q i (fun a' w'=>S w'/\ag3 P ops Q S ri a' w') a w/\wpOp P ops Q j (fun a' w'=>S w'/\ag3 P ops Q S rj a' w') a w
 | x::rest,a,w=>∃ o v,ops[x]?=some o/\YieldsIf P ops S o v a/\aV8 P ops Q S i ri j rj rest (a.put o.dst v) w
def twoB (md:Region.Mode) (ops:Array Oper) (i:Nat) (ri:List (Nat × Bool)) (j:Nat) (rj:List (Nat × Bool)):Array Bool->List Nat->Bool
 | listed,[]=>Region.ready md ops listed == [i,j] && seqB md ops (listed.setIfInBounds i true) ri && seqB md ops (listed.setIfInBounds j true) rj
 | listed,x::rest=>(Region.ready md ops listed).contains x && Region.free md ops listed x && twoB md ops i ri j rj (listed.setIfInBounds x true) rest
theorem an6 (hs:Region.noSelect ops=true) (hQ:∀ c t t' d w,Q (.panic c) ⟨t,d⟩ w->Q (.panic c) ⟨t',d⟩ w) {i j:Nat} {ri rj:List (Nat × Bool)} (hlen:rj.length=ri.length):∀ (l:List Nat) (listed:Array Bool) (a:Act) (w:World),twoB md ops i ri j rj listed l=true->S w->aV8 P ops Q S i ri j rj l a w->wpAnyH P md ops Q S (ri.length+1+l.length) listed a w
 | [],listed,a,w,hb,_,h=>by
  simp only[twoB,Bool.and_eq_true,beq_iff_eq]at hb;refine wpAnyH_all (rs:=[i,j]) hb.1.1 (by simp) fun x hx=>?_
  by_cases e:x=i
  ·subst e
   exact wpOp_mono (fun a' w' h'=>⟨h'.1,a66 hs hQ ri _ _ _ hb.1.2 h'.1 h'.2⟩) h.1
  ·have e2:x=j:=by simpa[e]using hx
   subst e2;refine wpOp_mono (fun a' w' h'=>⟨h'.1,?_⟩) h.2;have:=a66 (Q:=Q) hs hQ rj _ _ _ hb.2 h'.1 h'.2;rw[hlen]at this;exact this
 | x::rest,listed,a,w,hb,hS,h=>by
  simp only[twoB,Bool.and_eq_true]at hb;obtain⟨o,v,ho,hy,hr⟩:=h;exact wpAnyH_take ho hs hb.1.2 hb.1.1 (fun c a w h=>am4 hQ h) hy hS (an6 hs hQ hlen rest _ _ _ hb.2 hS hr)
theorem an8 {id:Nat} {a:Act} {w:World} (S:World->Prop) (l:List Nat) (i:Nat) (ri:List (Nat × Bool)) (j:Nat) (rj:List (Nat × Bool)) (hm:P.follows .mixedOrders=true) (hb:(Region.noSelect ops && rj.length == ri.length && ri.length+1+l.length == ops.size && twoB .any ops i ri j rj (Array.replicate ops.size false) l)=true) (hQ:∀ c t t' d w,Q (.panic c) ⟨t,d⟩ w->Q (.panic c) ⟨t',d⟩ w) (hS:S w.drew) (h:aV8 P ops Q S i ri j rj l a w.drew):(Code.region id ops true).wp P Q a w:=by
 simp only[Bool.and_eq_true,beq_iff_eq]at hb;refine wp_region_held (S:=S) hm ?_;rw[<- hb.1.2];have:=an6 (Q:=Q) (S:=S) hb.1.1.1 hQ hb.1.1.2 l _ a w.drew hb.2 hS h;rw[<- hb.1.2]at this;exact this
theorem ay2 {x i j:Nat} {ri rj:List (Nat × Bool)} {rest:List Nat} {o:Oper} {v:Value} {a:Act} {w:World} (ho:nth ops.toList x=some o) (hw:Region.wanted o (yielded ops a.tmps)=true) (hy:∀ w,S w->(execOp a.eval o).run P w=.ok (.value v) w) (h:aV8 P ops Q S i ri j rj rest (a.put o.dst v) w):aV8 P ops Q S i ri j rj (x::rest) a w:=⟨o,v,aF8 ho,.inl ⟨hw,hy⟩,h⟩
theorem aI5 {i j:Nat} {ri rj:List (Nat × Bool)} {a:Act} {w:World} (h1:ag3 P ops Q S ((i,false)::ri) a w) (h2:ag3 P ops Q S ((j,false)::rj) a w):aV8 P ops Q S i ri j rj [] a w:=⟨h1,h2⟩
end
end Go.Proofs.YtlkldgopliablaaGreatDoor
namespace Go.Proofs.YtlkldgopliablaaGreatDoor.En
open Go.ChangeShapes Go.WideShapes Go.ChangeAt Go.RowKit Num Ww
open Rr (Rx a25 InX okW u64B Alike step_in newX a30)
theorem aB3 {ws:List Int} {i x:Int} (h:okW ws) (hx:u64B x):okW (Md.poked ws i x)/\(Md.poked ws i x).length=ws.length:=by
 unfold Md.poked
 split
 ·refine⟨fun v hv=>?_,List.length_set ..⟩
  rcases List.mem_or_eq_of_mem_set hv with q | q
  ·exact h v q
  ·rw[q];exact hx
 ·exact⟨h,rfl⟩
theorem bd3 {x:Nat} (h:x<18446744073709551616):u64B (fixB x:Int):=by
 have:=(ac4 h).2;unfold u64B;omega
theorem aH6 {ws:List Int} {p:Int} {l:List Nat} (h:okW ws) (hl:∀ x∈l,x<18446744073709551616):∀ k,okW (Md.Ce.startL ws p l k)/\(Md.Ce.startL ws p l k).length=ws.length
 | 0=>⟨h,rfl⟩
 | k+1=>by
  obtain⟨h1,h2⟩:=aH6 h hl k;have hx:u64B (fixB (l.getD k 0):Int):=bd3 (by
   rw[zG]
   cases e:l[k]? with
   | none=>decide
   | some x=>exact hl x (List.mem_of_getElem? e))
  have z:u64B 0:=by unfold u64B;omega
  have a:=aB3 (i:=Md.Ce.placeI p k 0) h1 z;have b:=aB3 (i:=Md.Ce.placeI p k 1) a.1 hx;have c:=aB3 (i:=Md.Ce.placeI p k 2) b.1 z;exact⟨c.1,c.2.trans (b.2.trans (a.2.trans h2))⟩
theorem aI2 {s:Su} (hs:SuIn s):okW (ag7 s)/\((ag7 s).length:Int)=3+s.b+3*s.a:=by
 have hz:okW (List.replicate (3+s.b+3*s.a).toNat 0):=fun v hv=>by
  rw[(List.mem_replicate.1 hv).2];unfold u64B;omega
 have:=hs.b8;have:=hs.a256;unfold ag7 Md.Ce.startW
 split
 ·obtain⟨h1,h2⟩:=aH6 (p:=3+s.b) hz hs.st s.st.length
  refine⟨h1,?_⟩;rw[h2,List.length_replicate];omega
 ·refine⟨hz,?_⟩
  rw[List.length_replicate];omega
theorem bp4:∀ n,su (fun _=>0) n=0
 | 0=>rfl
 | n+1=>by show su (fun _=>0) n+0=0;rw[bp4 n]
theorem WI0 {s:Su} (hs:SuIn s):WI s (X0 s) :=
 ⟨rfl,rfl,rfl,(aI2 hs).1,(aI2 hs).2,fun t y _ h=>(by cases h),fun t _=>zV _,(bp4 _).symm,fun t y _ h=>(by cases h),fun i hi=>absurd hi (zI _),fun i hi=>absurd hi (zI _)⟩
section
variable {w:World} {s:Su} {p:Sp}
theorem bu8 (h:SuAt w s p) (he:¬ errS s=0):Calls Tryz.prog 28 #[.agg (suC s p)] w fun r w'=>r=.returned (.tuple #[.pointer none,.int .i64 (errS s)])/\Bl w w':=by
 have HB:=zH (ao9 w s p);have HF:=zH (aE1 (h.on HB.out.1));obtain⟨e,hee⟩:∃ e,errS s=e:=⟨_,rfl⟩
 rw[hee]at HF he ⊢;have heb:(e != 0)=true:=by simpa using he
 clear h hee he;go_enter Tryz.func28,Tryz.ntmps28
 go_wp2_with (go_at_call 63;refine HF.out.mono ?_;rintro r u1 ⟨rfl,q⟩;have H1:=zH q;clear q HF)
 go_ret2;exact⟨rfl,HB.out.1.trans (H1.out.mono HB.out.1.size)⟩
theorem bt9 {z:Array Value} {sz m k j:Nat} (hz:z.size=sz) (hk:k<m) (hj:j<sz):(madeCells z (m*sz))[k*sz+j]?=z[j]?:=by
 have hi:=aX1 hk hj (zE _);have hm:(k*sz+j) % sz=j:=by rw[Nat.mul_comm,Nat.mul_add_mod,Nat.mod_eq_of_lt hj]
 rw[Array.getElem?_eq_getElem (by rw[size_madeCells];exact hi),Array.getElem?_eq_getElem (by omega)];simp only[madeCells,Array.getElem_map,Array.getElem_range,hz,hm];rw[getElem!_pos z j (by omega)]
theorem bB0 (n:Nat) (hn:n<=8):∃ arr:Array Value,arr.size=n*3/\(∀ i j,i<n->j<3->arr[i*3+j]?=(#[Value.slice none 0 0,.int .i64 0,.int .i64 0]:Array Value)[j]?)/\∀ w:World,(Instr.makeSlice 88 (.int .i64 (n:Int)) (.int .i64 (n:Int))).run Tryz.prog w=.ok (.slice (some ⟨w.heap.size,0,none⟩) n n) (w.alloc (.cells arr 94)):=by
 have info:(Tryz.prog.info? 94).map (fun i=>(i.zero,i.size,i.bytes))=some (some (.agg #[.slice none 0 0,.int .i64 0,.int .i64 0]),3,40):=by kernel_rfl
 obtain⟨i,hi,hz0,hz1,hz2⟩:=info_parts info;refine⟨madeCells (Value.agg #[.slice none 0 0,.int .i64 0,.int .i64 0]).cells (n*i.size),by rw[size_madeCells,hz1],fun k j hk hj=>?_,fun w=>?_⟩
 ·rw[hz1]
  exact bt9 (z:=#[.slice none 0 0,.int .i64 0,.int .i64 0]) rfl hk hj
 ·rw[run_make w 88 94 i _ Tryz.underlying88 hi hz0 .i64 .i64 n n (by omega) (zW _) (by rw[hz2];omega) (by omega)]
  rw[Int.toNat_natCast]
end
def Su.upto (s:Su) (i:Nat):Su:={ s with cl:=s.cl.take i }
theorem ak3 (s:Su) (i t:Nat):(s.upto i).cs t=if t<i then s.cs t else []:=by
 show (s.cl.take i).getD t []=if t<i then s.cl.getD t [] else []
 rw[zG,List.getElem?_take]
 by_cases q:t<i
 ·rw[if_pos q,if_pos q,zG]
 ·rw[if_neg q,if_neg q];rfl
theorem aC1 {s:Su} {i:Nat} (h:s.cl.length<=i):s.upto i=s:=by
 unfold Su.upto;rw[List.take_of_length_le h]
def rdI (s:Su) (i:Nat):Sd.Rd:={ n:=s.n,g:=fun k=>decide (k<s.n) && !(decide (k<i) && decide ((s.cs k).length=0)),s:=Sd.noneF,o:=0 }
theorem bw4 {s:Su} {i:Nat} (hi:i<s.n):Alk (if (s.cs i).length=0 then Sd.finN (rdI s i) i else rdI s i) (rdI s (i+1)):=by
 have hg:(rdI s i).g i=true:=by
  show (decide (i<s.n) && !(decide (i<i) && _))=true
  rw[zT hi,zU (Nat.lt_irrefl i)]
  rfl
 have G:∀ k,k≠i->(rdI s (i+1)).g k=(rdI s i).g k:=fun k hk=>by
  show (decide (k<s.n) && !(decide (k<i+1) && _))=(decide (k<s.n) && !(decide (k<i) && _))
  rw[show decide (k<i+1)=decide (k<i) from decide_eq_decide.2 ⟨fun q=>by omega,fun q=>by omega⟩]
 by_cases q:(s.cs i).length=0
 ·rw[if_pos q]
  have gi:(rdI s (i+1)).g i=false:=by
   show (decide (i<s.n) && !(decide (i<i+1) && decide ((s.cs i).length=0)))=false
   rw[zT (Nat.lt_succ_self i),zT q]
   simp
  unfold Sd.finN;rw[if_pos hg];have no:Sd.overB { rdI s i with g:=Sd.putF (rdI s i).g i false,s:=Sd.putF (rdI s i).s i false }=false:=by
   rw[Bool.eq_false_iff];unfold Sd.overB;rw[Ne,Bool.and_eq_true,Sd.eq8_iff];rintro⟨z1,z2⟩;rw[Bool.not_eq_true',Bool.eq_false_iff]at z1
   apply z1
   refine(Sd.eq8_iff _ _).2 fun k hk=>?_
   have:=z2 k hk;rw[<- this]
   show (if k=i then false else false)=false
   simp
  unfold Sd.settleM;rw[no,if_neg Bool.false_ne_true];refine⟨rfl,rfl,fun k hk=>?_,fun k hk=>?_⟩
  ·show (if k=i then false else (rdI s i).g k)=_
   by_cases e:k=i
   ·rw[if_pos e,e,gi]
   ·rw[if_neg e,G k e]
  ·show (if k=i then false else false)=false
   simp
 ·rw[if_neg q]
  refine⟨rfl,rfl,fun k hk=>?_,fun k hk=>rfl⟩
  by_cases e:k=i
  ·rw[e,hg]
   show true=(decide (i<s.n) && !(decide (i<i+1) && decide ((s.cs i).length=0)))
   rw[zT hi,zU q]
   simp
  ·exact(G k e).symm
theorem bw3 (s:Su):Alk (rdI s s.n) (rdZ s (X0 s)):=by
 refine⟨rfl,rfl,fun k hk=>?_,fun k hk=>?_⟩
 ·show (decide (k<s.n) && !(decide (k<s.n) && decide ((s.cs k).length=0)))=(decide (k<s.n) && !finB (X0 s).H.E k)
  have e:finB (X0 s).H.E k=decide ((s.cs k).length=0):=by
   rw[as3 rfl]
   show decide (0=(s.cs k).length)=_
   exact decide_eq_decide.2 ⟨fun q=>q.symm,fun q=>q.symm⟩
  rw[e]
  cases decide (k<s.n) <;> rfl
 ·show false=(decide (k<s.n) && (false && _))
  simp
section
variable {w w':World} {f:Ex} {v:Ev} {s:Su} {d:Ed} {i:Nat}
theorem EnAt.setK (h:EnAt w f v (s.upto i) d) (hi:i<s.n) (hil:i<s.cl.length) {R:List Nat} {gl:Nat} (k:Bl w w') (a:Abv w.heap.size R) (b:Blw w' R) (hR:∀ j,j<(s.cs i).length->ClIn w' R (some ⟨gl,0,none⟩) j ((s.cs i).getD j (0,[]))) {n c:Nat} (hn:(s.cs i).length=n) :
  EnAt (w'.setCell ⟨f.gc,i*3,none⟩ (.slice (some ⟨gl,0,none⟩) n c)) f { v with R:=R ++ v.R } (s.upto (i+1)) { d with cr:=updA d.cr i ((d.cr i).setIfInBounds 0 (.slice (some ⟨gl,0,none⟩) n c)) }/\Ext f v { v with R:=R ++ v.R } w (w'.setCell ⟨f.gc,i*3,none⟩ (.slice (some ⟨gl,0,none⟩) n c)):=by
 obtain⟨h1,x1⟩:=h.grow k a b;have hin:i<(s.upto i).n:=hi;have tt:Turn (own f { v with R:=R ++ v.R } 3) (own f { v with R:=R ++ v.R } 3) w' (w'.setCell ⟨f.gc,i*3,none⟩ (.slice (some ⟨gl,0,none⟩) n c)):=a24 w' f.gc _ _;have kk:=h1.but tt;have k5:=kk 5 (by omega);have A:=h1.crs.put hin (j:=0) (by omega) (.slice (some ⟨gl,0,none⟩) n c);have hsz:=h1.crs.sz i hin;refine⟨⟨h1.kBox (kk 0 (by omega)),h1.kMem (kk 1 (by omega)),h1.kRds (kk 2 (by omega)),A,h1.kTrn (kk 4 (by omega)),h1.tsz,⟨av2 h1.fx.tab k5 h1.fx.tin,h1.fx.tin,fun j hj=>(h1.fx.prg j hj).keep k5 fun _ q=>q,fun t ht=>?_⟩,fun _ _ e=>h1.kTx k5 e (kk _ (by omega)),h1.no,h1.kDl k5,h1.kBl k5,h1.apart⟩,x1.trans (as1 h1 (by omega) tt)⟩;rw[ak3]
 by_cases q:t=i
 ·subst q
  rw[if_pos (Nat.lt_succ_self _)];refine⟨some ⟨gl,0,none⟩,c,?_,fun j hj=>?_⟩
  ·dsimp only
   rw[a22,Array.getElem?_setIfInBounds_self_of_lt (by omega),hn]
  ·have e:(s.upto (t+1)).call t j=(s.cs t).getD j (0,[]):=by
    show ((s.upto (t+1)).cs t).getD j (0,[])=_
    rw[ak3,if_pos (Nat.lt_succ_self _)]
   rw[e];exact(hR j hj).keep ⟨k5.1,fun z hz=>k5.2 z (List.mem_append.2 (.inl hz))⟩ fun z hz=>List.mem_append.2 (.inl hz)
 ·obtain⟨qa,qc,e1,e2⟩:=h1.fx.cls t ht
  rw[ak3]at e1 e2;have ec:(if t<i then s.cs t else [])=(if t<i+1 then s.cs t else []):=by
   by_cases z:t<i
   ·rw[if_pos z,if_pos (by omega)]
   ·rw[if_neg z,if_neg (by omega)]
  rw[<- ec];refine⟨qa,qc,?_,fun j hj=>?_⟩
  ·dsimp only
   rw[a37 _ _ q];exact e1
  ·have e:(s.upto (i+1)).call t j=(s.upto i).call t j:=by
    show ((s.upto (i+1)).cs t).getD j (0,[])=((s.upto i).cs t).getD j (0,[])
    rw[ak3,ak3,ec]
   rw[e];exact(e2 j hj).keep k5 fun _ z=>z
end
structure Frs (B:Nat) (f:Ex) (v:Ev):Prop where
 own:∀ k∈fF f v,B<=k
 ro:∀ k∈v.R,k=1∨B<=k
section
variable {w w':World} {f:Ex} {v v':Ev} {s:Su} {d:Ed} {B i:Nat}
theorem Frs.ext (h:Frs B f v) (hB:B<=w.heap.size) (x:Ext f v v' w w'):Frs B f v'/\Below B w w' :=
 ⟨⟨fun k hk=>(x.turn.own k hk).elim (h.own k) (zQ hB),fun k hk=>(x.ro k hk).elim (h.ro k) (fun q=>.inr (zQ hB q))⟩,
  ⟨x.turn.os,x.turn.tape,x.turn.output,x.turn.size,fun k hk=>x.turn.block k (zL hk hB) fun q=>by have:=h.own k q;omega⟩⟩
def d0 (s:Su):Ed:=⟨0,ag7 s,0,rdI s 0,fun _=>#[.slice none 0 0,.int .i64 0,.int .i64 0],0,fun _=>#[],fun _=>none,fun _=>none⟩
def v0 (R:List Nat):Ev:=⟨none,0,fun _=>0,fun _=>[],1::R⟩
theorem aP9 (h:Shaped5 w):1<w.heap.size:=zK w _ (h.shp 0 (by decide)).1
theorem bc4 {b mb mg rb gc pp:Nat} {R:List Nat} (hb:w.heap[b]?=some (.cells (eBox s ⟨b,mb,mg,rb,gc,pp⟩ (v0 R) (d0 s)) 91 (0,0))) (hm:MemAt 145 w mb mg (ag7 s) false 0) (hr:Sd.RdAt w rb (Sd.newR s.n)) (hc:Arr w gc 94 3 s.n s.n (d0 s).cr) (hT:Shaped5 w) (hp:∀ i,i<s.pg.length->PgIn w R pp i (s.pg.getD i (0,[]))) (hR:Blw w R)
  (n1:b≠mb/\b≠mg/\b≠rb/\b≠gc/\mb≠rb/\mb≠gc/\mg≠rb/\mg≠gc/\rb≠gc) (n2:∀ k∈1::R,k≠b/\k≠mb/\k≠mg/\k≠rb/\k≠gc):EnAt w ⟨b,mb,mg,rb,gc,pp⟩ (v0 R) (s.upto 0) (d0 s):=by
 have C:∃ c:Nat->Nat,∀ i k,k∈own ⟨b,mb,mg,rb,gc,pp⟩ (v0 R) i->c k=i:=by
  refine⟨fun k=>if k=b then 0 else if k=mb∨k=mg then 1 else if k=rb then 2 else if k=gc then 3 else 5,fun i k hk=>?_⟩;dsimp only
  match i,hk with
  | 0,hk=>have e:k=b:=(by simpa[own]using hk);rw[if_pos e]
  | 1,hk=>have e:k=mb∨k=mg:=(by simpa[own]using hk);rw[if_neg (by omega),if_pos e]
  | 2,hk=>have e:k=rb:=(by simpa[own]using hk);rw[if_neg (by omega),if_neg (by omega),if_pos e]
  | 3,hk=>have e:k=gc:=(by simpa[own]using hk);rw[if_neg (by omega),if_neg (by omega),if_neg (by omega),if_pos e]
  | 4,hk=>simp[own,v0,fpR]at hk
  | 5,hk=>obtain⟨z0,z1,z2,z3,z4⟩:=n2 k hk;rw[if_neg z0,if_neg (by omega),if_neg z3,if_neg z4]
  | t+6,hk=>simp[own,v0]at hk
 obtain⟨c,C⟩:=C;have al:Alk (Sd.newR s.n) (rdI s 0):=⟨rfl,rfl,fun k _=>by show decide (k<s.n)=(decide (k<s.n) && !(decide (k<0) && _));simp,fun _ _=>rfl⟩;refine⟨hb,⟨false,hm⟩,al.at_ hr,hc,World.ownsRow_nil _ _ _ _,fun i hi=>absurd hi (zI _),⟨hT,List.mem_cons_self ..,fun i hi=>(hp i hi).keep ⟨zE _,fun _ _=>rfl⟩ (fun k hk=>List.mem_cons_of_mem _ hk),fun t ht=>⟨none,0,?_,fun j hj=>?_⟩⟩,fun t y e=>(by cases e),fun _ _=>rfl,fun i D a m e=>(by cases e),fun k hk=>?_,fun i j hij k h1 h2=>hij ((C i k h1).symm.trans (C j k h2))⟩
 ·rw[ak3,if_neg (zI _)]
  rfl
 ·rw[ak3,if_neg (zI _)]at hj
  exact absurd hj (zI _)
 ·rcases List.mem_cons.1 hk with rfl | q
  ·exact aP9 hT
  ·exact hR k q
structure Beg (w:World) (f:Ex) (v:Ev) (s:Su) (d:Ed) (i B:Nat):Prop where
 en:EnAt w f v (s.upto i) d
 N:d.N=0
 ws:d.ws=ag7 s
 cnt:d.cnt=0
 rd:d.rd=rdI s i
 T:d.T=fun _=>none
 dn:d.dn=0
 lo:∀ t,t<i->∃ qa qc,d.cr t=#[.slice qa (s.cs t).length qc,.int .i64 0,.int .i64 (-1)]
 hi:∀ t,i<=t->d.cr t=#[.slice none 0 0,.int .i64 0,.int .i64 0]
 fr:Frs B f v
theorem beg0 {b mb mg rb gc pp:Nat} {R:List Nat} (h:EnAt w ⟨b,mb,mg,rb,gc,pp⟩ (v0 R) (s.upto 0) (d0 s)) (h1:B<=b/\B<=mb/\B<=mg/\B<=rb/\B<=gc) (h2:Abv B R):Beg w ⟨b,mb,mg,rb,gc,pp⟩ (v0 R) s (d0 s) 0 B:=by
 refine⟨h,rfl,rfl,rfl,rfl,rfl,rfl,fun t ht=>absurd ht (zI _),fun _ _=>rfl,⟨fun k hk=>?_,fun k hk=>?_⟩⟩
 ·obtain⟨j,_,_,hk⟩:=ao5.1 hk
  match j,hk with
  | 0,hk=>have e:k=b:=(by simpa[own]using hk);omega
  | 1,hk=>have e:k=mb∨k=mg:=(by simpa[own]using hk);omega
  | 2,hk=>have e:k=rb:=(by simpa[own]using hk);omega
  | 3,hk=>have e:k=gc:=(by simpa[own]using hk);omega
  | 4,hk=>simp[own,v0,fpR]at hk
  | 5,hk=>omega
  | t+6,hk=>simp[own,v0]at hk
 ·rcases List.mem_cons.1 hk with q | q
  ·exact .inl q
  ·exact .inr (h2 k q)
theorem SuIn.upto (h:SuIn s) (i:Nat):SuIn (s.upto i) :=
 ⟨⟨h.st,h.pg,fun l hl=>h.cl l (List.mem_of_mem_take hl)⟩,h.cfg,h.sl,h.pl,by have:=h.tl;show (((s.cl.take i).length:Nat):Int)<=s.b;rw[List.length_take];omega,fun l hl=>h.ml l (List.mem_of_mem_take hl),fun l hl=>h.may l (List.mem_of_mem_take hl)⟩
theorem Beg.all (h:Beg w f v s d s.n B) (hs:SuIn s):Eng w f v s (Z0 s):=by
 have e:=h.en;rw[aC1 (by have:=hs.tl;have:=hs.nb;omega)]at e;have al:=bw3 s;rw[<- h.rd]at al;refine⟨⟨_,e.reRd al,⟨h.N,h.ws,h.cnt,rfl,h.T,h.dn,fun t ht=>?_,fun i hi=>absurd hi (zI _),fun i hi=>absurd hi (zI _)⟩⟩,WI0 hs,zE _⟩;obtain⟨qa,qc,q⟩:=h.lo t ht;exact⟨qa,qc,q⟩
theorem Beg.mark (h:Beg w f v s d i B) (hi:i<s.n):∃ d',EnAt (w.setCell ⟨f.gc,i*3+2,none⟩ (.int .i64 (-1))) f v (s.upto i) d'/\Ext f v v w (w.setCell ⟨f.gc,i*3+2,none⟩ (.int .i64 (-1)))/\d'={ d with cr:=updA d.cr i #[.slice none 0 0,.int .i64 0,.int .i64 (-1)] }:=by
 obtain⟨e,x⟩:=h.en.setC (t:=i) (j:=2) hi (by omega) (by omega) (.int .i64 (-1));rw[h.hi i (zE _)]at e;exact⟨_,e,x,rfl⟩
theorem Beg.next {w1:World} {v1:Ev} {d1:Ed} {qa:Option Addr} {qc:Nat} (h:Beg w f v s d i B) (hi:i<s.n) (hd:d1={ d with cr:=updA d.cr i #[.slice qa (s.cs i).length qc,.int .i64 0,.int .i64 (-1)] }) (fr:Frs B f v1) (e:EnAt w1 f v1 (s.upto (i+1)) { d1 with rd:=if finI 0 (-1) (s.cs i).length then Sd.finN d1.rd i else d1.rd }):Beg w1 f v1 s { d1 with rd:=rdI s (i+1) } (i+1) B:=by
 subst hd;have al:=bw4 (s:=s) hi;have ef:(if (s.cs i).length=0 then Sd.finN (rdI s i) i else rdI s i)=(if finI 0 (-1) (s.cs i).length then Sd.finN d.rd i else d.rd):=by
  rw[h.rd];unfold finI
  by_cases q:(s.cs i).length=0
  ·rw[if_pos q,if_pos (by simp;omega)]
  ·rw[if_neg q,if_neg (by simp;omega)]
 rw[ef]at al;refine⟨e.reRd al,h.N,h.ws,h.cnt,rfl,h.T,h.dn,fun t ht=>?_,fun t ht=>?_,fr⟩
 ·dsimp only
  by_cases q:t=i
  ·subst q
   rw[a22];exact⟨_,_,rfl⟩
  ·rw[a37 _ _ q]
   exact h.lo t (by omega)
 ·dsimp only
  rw[a37 _ _ (by omega)];exact h.hi t (by omega)
end
abbrev bxO (s:Su) (p4 n5:Int) (mb rb gc pp:Nat):Obj:=.cells #[.int .i64 s.a,.int .i64 s.b,.int .i64 s.c,.int .i64 s.e,.slice (some ⟨pp,0,none⟩) s.pg.length s.pg.length,.int .i64 0,.int .i64 1,.int .i64 2,.int .i64 3,.int .i64 p4,.int .i64 n5,.pointer (some ⟨mb,0,none⟩),.pointer (some ⟨rb,0,none⟩),.slice (some ⟨gc,0,none⟩) s.n s.n,.slice none 0 0,.int .i64 0] 91
structure Mde (u wc:World) (s:Su) (p4 n5:Int) (mb rb b gc pp:Nat) (R:List Nat):Prop where
 box:wc.heap[b]?=some (bxO s p4 n5 mb rb gc pp)
 crs:Arr wc gc 94 3 s.n s.n (d0 s).cr
 prg:∀ i,i<s.pg.length->PgIn wc R pp i (s.pg.getD i (0,[]))
 blw:Blw wc R
 abv:Abv u.heap.size R
 n1:gc∉R
 n2:b∉R
 l1:u.heap.size<=gc
 l2:u.heap.size<=b
 n3:b≠gc
 bel:Bl u wc
section
variable {u5 u6 v1:World} {s:Su} {p4 n5:Int} {mb rb pp:Nat} {R:List Nat} {arr0:Array Value}
theorem bK8 (hA:∀ u u':World,u'.heap[u.heap.size]?=some (.cells arr0 94 (0,0))->Arr u' u.heap.size 94 3 s.n s.n (d0 s).cr) (k6:Bl u5 u6) (r1:Abv u5.heap.size R) (r2:Blw u6 R) (r3:∀ j,j<s.pg.length->PgIn u6 R pp j (s.pg.getD j (0,[]))):Mde u5 ((u6.alloc (.cells arr0 94)).alloc (bxO s p4 n5 mb rb u6.heap.size pp)) s p4 n5 mb rb (u6.heap.size+1) u6.heap.size pp R:=by
 have b1:=below_alloc u6 (.cells arr0 94);have b2:=b1.alloc b1.size (bxO s p4 n5 mb rb u6.heap.size pp);have e1:(u6.alloc (.cells arr0 94)).heap.size=u6.heap.size+1:=by simp
 have x1:(u6.alloc (.cells arr0 94)).heap[u6.heap.size]?=some (.cells arr0 94 (0,0)):=zN _ _;have x2:((u6.alloc (.cells arr0 94)).alloc (bxO s p4 n5 mb rb u6.heap.size pp)).heap[u6.heap.size+1]?=some (bxO s p4 n5 mb rb u6.heap.size pp):=by rw[<- e1];exact zN _ _
 refine⟨x2,hA u6 _ ((Below.heap_alloc _ _ _ (lt_of_block x1)).trans x1),fun i hi=>(r3 i hi).keep (a27 b2 r2) fun _ q=>q,fun k hk=>zL (r2 k hk) b2.size,r1,fun q=>absurd (r2 _ q) (Nat.lt_irrefl _),fun q=>absurd (r2 _ q) (by omega),k6.size,by have:=k6.size;omega,by omega,k6.trans (b2.mono k6.size)⟩
theorem bK9 (hA:∀ u u':World,u'.heap[u.heap.size]?=some (.cells arr0 94 (0,0))->Arr u' u.heap.size 94 3 s.n s.n (d0 s).cr) (k5:Bl u5 v1) (hv:v1.heap[u5.heap.size]?=some (.cells arr0 94 (0,0))) (k6:Bl v1 u6) (r1:Abv v1.heap.size R) (r2:Blw u6 R) (r3:∀ j,j<s.pg.length->PgIn u6 R pp j (s.pg.getD j (0,[]))):Mde u5 (u6.alloc (bxO s p4 n5 mb rb u5.heap.size pp)) s p4 n5 mb rb u6.heap.size u5.heap.size pp R:=by
 have b2:=below_alloc u6 (bxO s p4 n5 mb rb u5.heap.size pp);have x2:(u6.alloc (bxO s p4 n5 mb rb u5.heap.size pp)).heap[u6.heap.size]?=some (bxO s p4 n5 mb rb u5.heap.size pp):=zN _ _;have l1:=lt_of_block hv;have l2:=k6.size;refine⟨x2,hA u5 _ ((b2.block _ (by omega)).trans ((k6.block _ l1).trans hv)),fun i hi=>(r3 i hi).keep (a27 b2 r2) fun _ q=>q,fun k hk=>zL (r2 k hk) b2.size,fun k hk=>by have:=r1 k hk;omega,fun q=>by have:=r1 _ q;omega,fun q=>absurd (r2 _ q) (Nat.lt_irrefl _),zE _,by omega,by omega,(k5.trans (k6.mono k5.size)).trans (b2.mono (by omega))⟩
end
section
variable {w w2:World} {f:Ex} {v:Ev} {s:Su} {d:Ed} {i B:Nat}
def Lai (w2:World) (f:Ex) (s:Su) (d:Ed) (i B:Nat):Prop:=∃ v1 qa qc,EnAt w2 f v1 (s.upto (i+1)) { d with cr:=updA d.cr i #[.slice qa (s.cs i).length qc,.int .i64 0,.int .i64 (-1)] }/\Frs B f v1
theorem bz7 (c:Nat->Array Value) (i:Nat) (x y:Array Value):updA (updA c i x) i y=updA c i y:=by
 funext k
 by_cases q:k=i
 ·rw[q,a22,a22]
 ·rw[a37 _ _ q,a37 _ _ q,a37 _ _ q]
theorem Beg.yes (h:Beg w f v s d i B) (hB:B<=w.heap.size) (hi:i<s.n) (hl:i<s.cl.length) {u:World} {R:List Nat} {gl:Nat} (k:Below (w.setCell ⟨f.gc,i*3+2,none⟩ (.int .i64 (-1))).heap.size (w.setCell ⟨f.gc,i*3+2,none⟩ (.int .i64 (-1))) u) (a:Abv (w.setCell ⟨f.gc,i*3+2,none⟩ (.int .i64 (-1))).heap.size R) (b:Blw u R) (hR:∀ j,j<(s.cs i).length->ClIn u R (some ⟨gl,0,none⟩) j ((s.cs i).getD j (0,[]))) :
  Lai (u.setCell ⟨f.gc,i*3,none⟩ (.slice (some ⟨gl,0,none⟩) (s.cs i).length (s.cs i).length)) f s d i B/\Below B w (u.setCell ⟨f.gc,i*3,none⟩ (.slice (some ⟨gl,0,none⟩) (s.cs i).length (s.cs i).length)):=by
 obtain⟨d1,e1,x1,hd⟩:=h.mark hi;obtain⟨e2,x2⟩:=e1.setK hi hl k a b hR rfl;obtain⟨f2,b2⟩:=h.fr.ext hB (x1.trans x2);subst hd;dsimp only at e2;rw[a22,bz7]at e2;exact⟨⟨_,_,_,e2,f2⟩,b2⟩
theorem Beg.no (h:Beg w f v s d i B) (hB:B<=w.heap.size) (hi:i<s.n) (hl:¬ i<s.cl.length):Lai (w.setCell ⟨f.gc,i*3+2,none⟩ (.int .i64 (-1))) f s d i B/\Below B w (w.setCell ⟨f.gc,i*3+2,none⟩ (.int .i64 (-1))):=by
 obtain⟨d1,e1,x1,hd⟩:=h.mark hi;obtain⟨f2,b2⟩:=h.fr.ext hB x1;subst hd;have e:s.upto i=s.upto (i+1):=by rw[aC1 (by omega),aC1 (by omega)]
 have c:s.cs i=[]:=by
  unfold Su.cs;rw[zG,List.getElem?_eq_none (by omega)]
  rfl
 rw[e]at e1;refine⟨⟨v,none,0,?_,f2⟩,b2⟩;rw[c];exact e1
theorem Lai.note (l:Lai w2 f s d i B) (h:Beg w f v s d i B) (hs:SuIn s) (hi:i<s.n) (hB:B<=w2.heap.size):Calls Tryz.prog 70 #[.pointer (some ⟨f.b,0,none⟩),.int .i64 (i:Int)] w2 fun r w3=>r=.returned (.tuple #[])/\Hid ((∃ v' d',Beg w3 f v' s d' (i+1) B)/\Below B w2 w3):=by
 obtain⟨v1,qa,qc,e,fr⟩:=l;refine(ar3 e (hs.upto (i+1)) hi (by show d.rd.n=s.n;rw[h.rd];rfl) (by show d.rd.o<_;rw[h.rd];exact(by decide:0<9223372036854775807)) (a22 _ _ _)).mono ?_;rintro r w3 ⟨rfl,q⟩;obtain⟨f3,b3⟩:=fr.ext hB q.out.2;exact⟨rfl,⟨_,_,h.next hi rfl f3 q.out.1⟩,b3⟩
theorem Beg.reads (h:Beg w f v s d i B) (hi:i<s.n):w.cell? ⟨f.gc,i*3+2,none⟩=some (.int .i64 0)/\w.cell? ⟨f.gc,i*3,none⟩=some (.slice none 0 0)/\w.frozen? ⟨f.gc,i*3+2,none⟩=false/\w.frozen? ⟨f.gc,i*3,none⟩=false/\f.gc<w.heap.size:=by
 have c:=h.hi i (zE _);have e:∀ j,j<3->w.cell? ⟨f.gc,i*3+j,none⟩=(d.cr i)[j]?:=fun j hj=>h.en.crs.cell hi hj
 rw[c]at e;exact⟨(e 2 (by omega)).trans rfl,(e 0 (by omega)).trans rfl,h.en.crs.free _,h.en.crs.free _,h.en.crs.lt⟩
end
section
variable {w w':World} {f:Ex} {v:Ev} {s:Su} {d:Ed} {i:Nat}
theorem bo8 {p:Sp} (h:SuAt w s p) (hT:Shaped5 w) (he:errS s=0):Calls Tryz.prog 28 #[.agg (suC s p)] w fun r w'=>∃ f v,r=.returned (.tuple #[.pointer (some ⟨Ex.b f,0,none⟩),.int .i64 0])/\Hid (Eng w' f v s (Z0 s)/\Frs w.heap.size f v/\Bl w w'):=by
 have hs:=suIn h.ok he;have HS0:=zH hs;have HTT:=zH hT;have HB:=zH (ao9 w s p);have HF:=zH (aE1 (h.on HB.out.1));rw[he]at HF;have b8:=hs.b8;have a256:=hs.a256;have hnb:=hs.nb;have HX:Hid (∀ u,Below (w.alloc (suO s p)).heap.size (w.alloc (suO s p)) u->SuAt u s p/\u.heap[w.heap.size]?=some (suO s p)/\Bl w u):=fun u hu=>⟨(h.on HB.out.1).on hu,(hu.block _ (lt_of_block HB.out.2)).trans HB.out.2,HB.out.1.trans (hu.mono HB.out.1.size)⟩
 have HP:=zH (fun u=>Md.place_any s.a s.b s.c s.e u);simp only[hs.cfg]at HP;obtain⟨p4,hp4⟩:∃ p4,3+s.b=p4:=⟨_,rfl⟩
 obtain⟨n5,hn5⟩:∃ n5:Nat,p4+3*s.a=(n5:Int):=⟨(p4+3*s.a).toNat,by omega⟩
 rw[hp4,hn5]at HP;have HM:=zH (fun u=>Md.new_some n5 (by omega) (by omega) u);have HSD:=zH (fun u=>Sd.new_yes s.n (by omega) (by omega) u);rw[hnb]at HSD;have HST:Hid (∀ u mb mg,Below (w.alloc (suO s p)).heap.size (w.alloc (suO s p)) u->(w.alloc (suO s p)).heap.size<=mb->(w.alloc (suO s p)).heap.size<=mg->MemAt 145 u mb mg (List.replicate n5 0) false 0->Calls Tryz.prog 66 #[.pointer (some ⟨mb,0,none⟩),plV p4 (n5:Int),.slice p.ps s.st.length p.cs] u fun e w'=>e=.returned (.int .i64 (Md.Ce.startE (List.replicate n5 0) p4 s.st))/\MemAt 145 w' mb mg (ag7 s) false 0/\Chg mb mg u w'):=fun u mb mg hu h1 h2 hm=>by
  have e0:ag7 s=Md.Ce.startW (List.replicate n5 0) p4 s.st:=by unfold ag7;rw[hp4,hn5,Int.toNat_natCast]
  rw[e0];refine Md.Ce.start_any hm (fun k hk=>?_) 0 1 2 3 p4 n5;obtain⟨g,o,e,hg,c⟩:=(HX.out u hu).1.st k hk;obtain⟨g',o',e',hg',_⟩:=h.st k hk;have eg:g=g':=by rw[e]at e';injection e' with e';injection e'
  have hb:=HB.out.1.size;refine⟨g,o,e,hg,fun q=>?_,c⟩;simp only[List.mem_cons,List.not_mem_nil,or_false]at q;omega
 have HOP:Hid (∀ u,Below (w.alloc (suO s p)).heap.size (w.alloc (suO s p)) u->Calls Tryz.prog 68 #[.slice p.pp s.pg.length p.cp] u fun r w'=>∃ g,r=.returned (.slice (some ⟨g,0,none⟩) s.pg.length s.pg.length)/\Hid (∃ R,Abv u.heap.size R/\Blw w' R/\(∀ j,j<s.pg.length->PgIn w' R g j (s.pg.getD j (0,[])))/\Bl u w')):=fun u hu=>by
  refine(au5 (HX.out u hu).1.pg hs.pl).mono ?_;rintro r w' ⟨g,rfl,q⟩;obtain⟨⟨P,C,q1⟩,q2⟩:=q.out;obtain⟨R,r1,r2,_,r4⟩:=q1.in_ (fun j hj=>by obtain⟨_,_,_,_,_,_,_,_,_,_,e⟩:=h.pg j hj;omega);exact⟨g,rfl,R,r1,r2,r4,q2⟩
 have HOC:Hid (∀ u i,Below (w.alloc (suO s p)).heap.size (w.alloc (suO s p)) u->i<s.cl.length->∃ g o qa c,p.pt=some ⟨g,o,none⟩/\g<u.heap.size/\g<w.heap.size/\u.cell? ⟨g,o+i,none⟩=some (.slice qa (s.cs i).length c)/\∀ u',Below (w.alloc (suO s p)).heap.size (w.alloc (suO s p)) u'->Calls Tryz.prog 69 #[.slice qa (s.cs i).length c] u' fun r w'=>∃ g,r=.returned (.slice (some ⟨g,0,none⟩) (s.cs i).length (s.cs i).length)/\Hid (∃ R,Abv u'.heap.size R/\Blw w' R/\(∀ j,j<(s.cs i).length->ClIn w' R (some ⟨g,0,none⟩) j ((s.cs i).getD j (0,[])))/\Bl u' w')):=fun u i hu hi=>by
  obtain⟨g,o,qa,c,e1,e2,e3,e4,e5⟩:=h.cl i hi;refine⟨g,o,qa,c,e1,zL e2 (HX.out u hu).2.2.size,e2,((HX.out u hu).2.2.cell (p:=⟨g,_,none⟩) e2).trans e3,fun u' hu'=>?_⟩;have hlen:=hs.few i;refine(aG1 (l:=s.cs i) (e4.on (HX.out u' hu').2.2) hlen (fun j hj=>?_)).mono ?_
  ·have m:=Su.csIn (s:=s) (t:=i) (j:=j) hj
   have:=hs.may _ m.1 _ m.2;unfold a58 at this;simp only[Bool.and_eq_true,decide_eq_true_eq]at this;exact this.2
  ·rintro r w' ⟨g,rfl,q⟩
   obtain⟨⟨P,C,q1⟩,q2⟩:=q.out;obtain⟨R,r1,r2,r4⟩:=q1.in_;exact⟨g,rfl,R,r1,r2,r4,q2⟩
 obtain⟨arr0,ha1,ha2,hmk⟩:=bB0 s.n (by omega);rw[hnb]at hmk;have HAR:Hid (∀ u:World,∀ u',u'.heap[u.heap.size]?=some (.cells arr0 94 (0,0))->Arr u' u.heap.size 94 3 s.n s.n (d0 s).cr):=fun u u' hu=>⟨⟨arr0,hu,ha1,ha2⟩,zE _,fun _ _=>rfl⟩
 clear h he ha1 ha2 hs hT;go_enter Tryz.func28,Tryz.ntmps28
 go_upto_region 8 with(first
  | (go_at_call 67;refine(HSD.out _).mono ?_;rintro r u5 ⟨rfl,q1,q2⟩;have H5:Hid (Sd.RdAt u5 u4.heap.size (Sd.newR s.n)/\MemAt 145 u5 (u2.heap.size+1+1) (u2.heap.size+1) (ag7 s) false 0/\Below (w.alloc (suO s p)).heap.size (w.alloc (suO s p)) u5/\u5.heap[u2.heap.size]?=some (plO p4 (n5:Int))/\u2.heap.size+1+1<u4.heap.size/\(w.alloc (suO s p)).heap.size<=u2.heap.size/\u4.heap.size<u5.heap.size):=⟨q1,H4.out.1.on q2,H4.out.2.1.trans (q2.mono H4.out.2.1.size),(q2.block _ (lt_of_block H4.out.2.2.1)).trans H4.out.2.2.1,H4.out.1.ltB,H4.out.2.2.2,q1.lt⟩;clear q1 q2 HSD H4 s1)
  | (go_at_call 66;refine(HST.out u3 (u2.heap.size+1+1) (u2.heap.size+1) H3.out.2.1 (by have:=H3.out.2.2.2;omega) (by have:=H3.out.2.2.2;omega) H3.out.1).mono ?_;rintro r u4 ⟨rfl,q1,q2⟩;have H4:Hid (MemAt 145 u4 (u2.heap.size+1+1) (u2.heap.size+1) (ag7 s) false 0/\Below (w.alloc (suO s p)).heap.size (w.alloc (suO s p)) u4/\u4.heap[u2.heap.size]?=some (plO p4 (n5:Int))/\(w.alloc (suO s p)).heap.size<=u2.heap.size):=⟨q1,⟨q2.os.trans H3.out.2.1.os,q2.tape.trans H3.out.2.1.tape,q2.output.trans H3.out.2.1.output,zQ H3.out.2.1.size q2.size,fun j hj=>(q2.block j (zL hj H3.out.2.1.size) (by have:=H3.out.2.2.2;omega) (by have:=H3.out.2.2.2;omega)).trans (H3.out.2.1.block j hj)⟩,(q2.block _ (lt_of_block H3.out.2.2.1) (by omega) (by omega)).trans H3.out.2.2.1,H3.out.2.2.2⟩;clear q1 q2 HST H3 t0 t1 t2 t3 t4 t5 s4;obtain⟨_,s1,_,_,_,_,_,_⟩:=a46 (HX.out _ H4.out.2.1).2.1)
  | (go_at_call 65;refine(HM.out _).mono ?_;rintro r u3 ⟨rfl,q1,q2⟩;have e9:(u2.alloc (plO p4 (n5:Int))).heap.size=u2.heap.size+1:=(by simp);rw[e9]at q1;have q2:Below (u2.alloc (plO p4 (n5:Int))).heap.size (u2.alloc (plO p4 (n5:Int))) u3:=q2;rw[e9]at q2;have b9:Below (w.alloc (suO s p)).heap.size (w.alloc (suO s p)) (u2.alloc (plO p4 (n5:Int))):=H2.out.alloc H2.out.size _;have H3:Hid (MemAt 145 u3 (u2.heap.size+1+1) (u2.heap.size+1) (List.replicate n5 0) false 0/\Below (w.alloc (suO s p)).heap.size (w.alloc (suO s p)) u3/\u3.heap[u2.heap.size]?=some (plO p4 (n5:Int))/\(w.alloc (suO s p)).heap.size<=u2.heap.size):=⟨q1,b9.trans (q2.mono (by have:=b9.size;omega)),(q2.block _ (by omega)).trans (zN _ _),H2.out.size⟩;clear q1 q2 HM e9 b9;obtain⟨t0,t1,t2,t3,t4,t5⟩:=a90 H3.out.2.2.1;obtain⟨_,_,_,_,s4,_,_,_⟩:=a46 (HX.out _ H3.out.2.1).2.1)
  | (go_at_call 64;refine(HP.out _).mono ?_;rintro r u2 ⟨rfl,q⟩;have H2:=zH (a06 H1.out q);clear q HP s0 s1 s2 s3 s4 s5 s6 s7)
  | (go_at_call 63;refine HF.out.mono ?_;rintro r u1 ⟨rfl,q⟩;have H1:=zH q;obtain⟨s0,s1,s2,s3,s4,s5,s6,s7⟩:=a46 (HX.out _ q).2.1;clear q HF))
 obtain⟨g2,hg2⟩:∃ g2,u2.heap.size=g2:=⟨_,rfl⟩
 obtain⟨g4,hg4⟩:∃ g4,u4.heap.size=g4:=⟨_,rfl⟩
 rw[hg2,hg4]at H5 ⊢;clear H1 H2 hg2 hg4
 go_cut [11] (fun v11 wc=>∃ b gc pp R,v11=.pointer (some ⟨b,0,none⟩)/\Hid (Mde u5 wc s p4 (n5:Int) (g2+1+1) g4 b gc pp R))
 case first =>
  have HSS:Hid (∀ u,Bl u5 u->(u.cell? ⟨w.heap.size,0,none⟩=some (.int .i64 s.a)/\u.cell? ⟨w.heap.size,1,none⟩=some (.int .i64 s.b)/\u.cell? ⟨w.heap.size,2,none⟩=some (.int .i64 s.c)/\u.cell? ⟨w.heap.size,3,none⟩=some (.int .i64 s.e)/\u.cell? ⟨w.heap.size,5,none⟩=some (.slice p.pp s.pg.length p.cp))/\u.cell? ⟨g2,0,none⟩=some (.int .i64 0)/\u.cell? ⟨g2,1,none⟩=some (.int .i64 1)/\u.cell? ⟨g2,2,none⟩=some (.int .i64 2)/\u.cell? ⟨g2,3,none⟩=some (.int .i64 3)/\u.cell? ⟨g2,4,none⟩=some (.int .i64 p4)/\u.cell? ⟨g2,5,none⟩=some (.int .i64 (n5:Int))):=fun u hu=>by
   obtain⟨s0,s1,s2,s3,_,s5,_,_⟩:=a46 (HX.out _ (a06 H5.out.2.2.1 hu)).2.1;exact⟨⟨s0,s1,s2,s3,s5⟩,a90 ((hu.block _ (lt_of_block H5.out.2.2.2.1)).trans H5.out.2.2.2.1)⟩
  refine an8 (fun u=>(u.cell? ⟨w.heap.size,0,none⟩=some (.int .i64 s.a)/\u.cell? ⟨w.heap.size,1,none⟩=some (.int .i64 s.b)/\u.cell? ⟨w.heap.size,2,none⟩=some (.int .i64 s.c)/\u.cell? ⟨w.heap.size,3,none⟩=some (.int .i64 s.e)/\u.cell? ⟨w.heap.size,5,none⟩=some (.slice p.pp s.pg.length p.cp))/\u.cell? ⟨g2,0,none⟩=some (.int .i64 0)/\u.cell? ⟨g2,1,none⟩=some (.int .i64 1)/\u.cell? ⟨g2,2,none⟩=some (.int .i64 2)/\u.cell? ⟨g2,3,none⟩=some (.int .i64 3)/\u.cell? ⟨g2,4,none⟩=some (.int .i64 p4)/\u.cell? ⟨g2,5,none⟩=some (.int .i64 (n5:Int))) [0,1,2,3,5,6,7,8,9,10] 4 [(11,false),(12,true),(13,false),(14,true)] 11 [(4,false),(12,true),(13,false),(14,true)] Md.Cv.follows13 (by kernel_rfl) (fun _ _ _ _ _ h=>h) (HSS.out _ ((Same.drew u5).below _)) ?_
  repeat (refine ay2 (v:=?_) rfl (by rfl) (fun wq hSq=>?_) ?_;rotate_left;(focus ((try dsimp only at hSq);go_simp;try with_reducible rfl));simp only[Act.put,zA,zB,zC])
  refine aI5 ?_ ?_
  ·(refine a04 rfl (by rfl) (fun KK hK=>?_);go_simp)
   refine(HOP.out _ (H5.out.2.2.1.trans ((Same.drew u5).below _))).mono ?_;rintro r u6 ⟨pp,rfl,q⟩;obtain⟨R,r1,r2,r3,r4⟩:=q.out;have k6:Bl u5 u6:=((Same.drew u5).below _).trans r4;refine hK.out _ _ (HSS.out _ k6) ?_
   (clear hK KK;try simp only[Act.put,zA,zB,zC])
   (refine a04 rfl (by rfl) (fun KK hK=>?_);go_simp)
   refine hK.out _ _ (HSS.out _ (k6.alloc k6.size _)) ?_
   (clear hK KK;try simp only[Act.put,zA,zB,zC])
   (repeat ((first | (refine a02 (v:=?_) rfl (by rfl) (fun wq hSq=>?_) ?_;rotate_left;(focus ((try dsimp only at hSq);go_simp;try with_reducible rfl))) | refine a03 rfl (by rfl) ?_);simp only[Act.put,zA,zB,zC]))
   (refine a04 rfl (by rfl) (fun KK hK=>?_);go_simp)
   have k7:=k6.alloc k6.size (.cells arr0 94);refine hK.out _ _ (HSS.out _ (k7.alloc k7.size _)) ?_
   (clear hK KK;try simp only[Act.put,zA,zB,zC])
   (repeat ((first | (refine a02 (v:=?_) rfl (by rfl) (fun wq hSq=>?_) ?_;rotate_left;(focus ((try dsimp only at hSq);go_simp;try with_reducible rfl))) | refine a03 rfl (by rfl) ?_);simp only[Act.put,zA,zB,zC]))
   refine a07 ?_;have HH:=zH (bK8 (p4:=p4) (n5:=(n5:Int)) (mb:=g2+1+1) (rb:=g4) HAR.out k6 r1 r2 r3);go_wp2_with fail
   go_meet
   exact⟨_,_,_,R,rfl,HH.out⟩
  ·(refine a04 rfl (by rfl) (fun KK hK=>?_);go_simp)
   obtain⟨v1,hv1⟩:∃ v1,v1=(u5.alloc (.cells arr0 94)).drew:=⟨_,rfl⟩
   have k5:Bl u5 v1:=by rw[hv1];exact(below_alloc _ _).trans ((Same.drew _).below _)
   have x5:v1.heap[u5.heap.size]?=some (.cells arr0 94 (0,0)):=by rw[hv1];exact zN _ _
   rw[<- hv1];clear hv1;refine hK.out _ _ (HSS.out _ k5) ?_
   (clear hK KK;try simp only[Act.put,zA,zB,zC])
   (refine a04 rfl (by rfl) (fun KK hK=>?_);go_simp)
   refine(HOP.out _ (a06 H5.out.2.2.1 k5)).mono ?_;rintro r u6 ⟨pp,rfl,q⟩;obtain⟨R,r1,r2,r3,r4⟩:=q.out;have k6:Bl u5 u6:=k5.trans (r4.mono k5.size);refine hK.out _ _ (HSS.out _ k6) ?_
   (clear hK KK;try simp only[Act.put,zA,zB,zC])
   (repeat ((first | (refine a02 (v:=?_) rfl (by rfl) (fun wq hSq=>?_) ?_;rotate_left;(focus ((try dsimp only at hSq);go_simp;try with_reducible rfl))) | refine a03 rfl (by rfl) ?_);simp only[Act.put,zA,zB,zC]))
   (refine a04 rfl (by rfl) (fun KK hK=>?_);go_simp)
   refine hK.out _ _ (HSS.out _ (k6.alloc k6.size _)) ?_
   (clear hK KK;try simp only[Act.put,zA,zB,zC])
   (repeat ((first | (refine a02 (v:=?_) rfl (by rfl) (fun wq hSq=>?_) ?_;rotate_left;(focus ((try dsimp only at hSq);go_simp;try with_reducible rfl))) | refine a03 rfl (by rfl) ?_);simp only[Act.put,zA,zB,zC]))
   refine a07 ?_;have HH:=zH (bK9 (p4:=p4) (n5:=(n5:Int)) (mb:=g2+1+1) (rb:=g4) HAR.out k5 x5 r4 r1 r2 r3);go_wp2_with fail
   go_meet
   exact⟨_,_,_,R,rfl,HH.out⟩
 case rest =>
  obtain⟨b,gc,pp,R,rfl,HMD⟩:=hcut;obtain⟨W0,hW0⟩:∃ W0,W0=w.alloc (suO s p):=⟨_,rfl⟩
  rw[<- hW0]at HX HB HOC H5;have HBG:Hid (Beg wc ⟨b,g2+1+1,g2+1,g4,gc,pp⟩ (v0 R) s (d0 s) 0 W0.heap.size/\Bl W0 wc):=by
   have m:=HMD.out;obtain⟨z1,z2,z3,z4,z5,z6,z7⟩:=H5.out;have l1:=m.l1;have l2:=m.l2;have lz:=z3.size;have hsh:Shaped5 wc:=(HTT.out.on HB.out.1).on (a06 z3 m.bel);have gv:1<w.heap.size:=aP9 HTT.out;have lw:=HB.out.1.size;refine⟨beg0 (bc4 ?_ (z2.on m.bel) (z1.on m.bel) m.crs hsh m.prg m.blw ?_ ?_) (by omega) (fun k hk=>by have:=m.abv k hk;omega),a06 z3 m.bel⟩
   ·rw[m.box]
    unfold eBox;dsimp only;rw[hp4,hn5]
    rfl
   ·have:=m.n3
    omega
   ·intro k hk
    rcases List.mem_cons.1 hk with rfl | q
    ·omega
    ·have:=m.abv k q
     have e1:k≠b:=fun e=>m.n2 (e ▸ q)
     have e2:k≠gc:=fun e=>m.n1 (e ▸ q)
     omega
  have HCC:Hid (∀ u v d i,Beg u ⟨b,g2+1+1,g2+1,g4,gc,pp⟩ v s d i W0.heap.size->Bl W0 u->u.cell? ⟨b,13,none⟩=some (.slice (some ⟨gc,0,none⟩) s.n s.n)/\u.cell? ⟨w.heap.size,6,none⟩=some (.slice p.pt s.cl.length p.ct)/\b<u.heap.size/\w.heap.size<u.heap.size):=fun u v d i h1 h2=>by
   obtain⟨_,_,_,_,_,_,c6,c7⟩:=a46 (HX.out u h2).2.1;exact⟨(h1.en.cell 13).trans rfl,c6,h1.en.ltB,c7⟩
  have hn8:(s.n:Int)<=8:=by omega
  have hcl:s.cl.length<=s.n:=by have:=HS0.out.tl;omega
  obtain⟨k13,k6,lb,ls⟩:=HCC.out _ _ _ _ HBG.out.1 HBG.out.2;clear H5 HOP HAR hmk HMD HTT hn5 hp4;go_wp2_with fail;clear k13 k6 lb ls
  go_loopw [61] (fun v61 wr=>∃ i:Nat,v61=.int .i64 (i:Int)/\i<=s.n/\Hid (∃ v d,Beg wr ⟨b,g2+1+1,g2+1,g4,gc,pp⟩ v s d i W0.heap.size/\Bl W0 wr)) (fun v61 _=>s.n - (intOf v61).toNat)
  case atStart=>exact⟨0,rfl,zV _,_,_,HBG.out⟩
  case round =>
   obtain⟨i,rfl,hin,HR⟩:=hrel;clear HBG;obtain⟨v,d,h1,h2⟩:=HR.out;have H1:=zH (And.intro h1 h2);obtain⟨k13,k6,lb,ls⟩:=HCC.out _ _ _ _ h1 h2
   by_cases hi:i<s.n
   ·have hi':(i:Int)<(s.n:Int):=by omega
    obtain⟨y1,y2,y3,y4,y5⟩:=h1.reads hi;dsimp only at y1 y2 y3 y4 y5;obtain⟨w1,hw1⟩:∃ w1,w1=wr.setCell ⟨gc,i*3+2,none⟩ (.int .i64 (-1)):=⟨_,rfl⟩
    have HL:Hid (∀ u,Bl w1 u->(u.cell? ⟨b,13,none⟩=some (.slice (some ⟨gc,0,none⟩) s.n s.n)/\u.cell? ⟨w.heap.size,6,none⟩=some (.slice p.pt s.cl.length p.ct))/\u.cell? ⟨gc,i*3,none⟩=some (.slice none 0 0)/\u.frozen? ⟨gc,i*3,none⟩=false/\gc<u.heap.size/\b<u.heap.size/\w.heap.size<u.heap.size/\Bl W0 u):=fun u hu=>by
     obtain⟨d1,e1,x1,hd1⟩:=h1.mark hi;have e1':EnAt w1 ⟨b,g2+1+1,g2+1,g4,gc,pp⟩ v (s.upto i) d1:=by rw[hw1];exact e1
     have bw:Bl W0 w1:=by rw[hw1];exact h2.trans (h1.fr.ext h2.size x1).2
     have eu:=e1'.on hu;have bu:=bw.trans (hu.mono bw.size);obtain⟨_,_,_,_,_,_,c6,c7⟩:=a46 (HX.out u bu).2.1;have ec:=eu.crs.cell (i:=i) (j:=0) hi (by omega);rw[hd1]at ec;dsimp only at ec;rw[a22]at ec;exact⟨⟨(eu.cell 13).trans rfl,c6⟩,ec.trans rfl,eu.crs.free _,eu.crs.lt,eu.ltB,c7,bu⟩
    have HNF:Hid (∀ w2,Lai w2 ⟨b,g2+1+1,g2+1,g4,gc,pp⟩ s d i W0.heap.size/\Below W0.heap.size wr w2->Calls Tryz.prog 70 #[.pointer (some ⟨b,0,none⟩),.int .i64 (i:Int)] w2 fun r w3=>r=.returned (.tuple #[])/\Hid (∃ v' d',Beg w3 ⟨b,g2+1+1,g2+1,g4,gc,pp⟩ v' s d' (i+1) W0.heap.size/\Bl W0 w3)):=fun w2 q=>by
     have b2:=h2.trans q.2;refine(q.1.note h1 HS0.out hi b2.size).mono ?_;rintro r w3 ⟨rfl,z⟩;obtain⟨⟨v',d',z1⟩,z2⟩:=z.out;exact⟨rfl,v',d',z1,b2.trans z2⟩
    by_cases hl:i<s.cl.length
    ·have hl':(i:Int)<(s.cl.length:Int):=by omega
     have HY:Hid (∀ u R gl,Bl w1 u->Abv w1.heap.size R->Blw u R->(∀ j,j<(s.cs i).length->ClIn u R (some ⟨gl,0,none⟩) j ((s.cs i).getD j (0,[])))->Lai (u.setCell ⟨gc,i*3,none⟩ (.slice (some ⟨gl,0,none⟩) (s.cs i).length (s.cs i).length)) ⟨b,g2+1+1,g2+1,g4,gc,pp⟩ s d i W0.heap.size/\Below W0.heap.size wr (u.setCell ⟨gc,i*3,none⟩ (.slice (some ⟨gl,0,none⟩) (s.cs i).length (s.cs i).length))):=by
      intro u R gl z1 z2 z3 z4;rw[hw1]at z1 z2;exact h1.yes h2.size hi hl z1 z2 z3 z4
     obtain⟨g,o,qa,c,ep,hg,hgw,c0,HCL0⟩:=HOC.out w1 i (HL.out w1 (zF _ _)).2.2.2.2.2.2 hl;have HCL:=zH HCL0;have HTC:Hid (∀ u,Bl w1 u->u.cell? ⟨g,o+i,none⟩=some (.slice qa (s.cs i).length c)/\g<u.heap.size):=fun u hu=>⟨(hu.cell (p:=⟨g,_,none⟩) hg).trans c0,zL hg hu.size⟩
     obtain⟨m,hm⟩:∃ m,(s.cs i).length=m:=⟨_,rfl⟩
     rw[hm]at HY HTC HCL;have HMM:=zH hm;rw[ep]at HL k6;clear h1 h2 HCL0 c0 hg hgw hm
     go_upto_region 13 with fail
     rw[<- hw1];clear hw1 k13 k6 lb ls y1 y2 y3 y4 y5;obtain⟨⟨k13,k6⟩,y2,y4,y5,lb,ls,_⟩:=HL.out w1 (zF _ _);obtain⟨c0,hg⟩:=HTC.out w1 (zF _ _)
     go_upto_region 14 with fail
     refine a32 (fun u=>u.cell? ⟨b,13,none⟩=some (.slice (some ⟨gc,0,none⟩) s.n s.n)/\u.cell? ⟨w.heap.size,6,none⟩=some (.slice (some ⟨g,o,none⟩) s.cl.length p.ct)/\u.cell? ⟨g,o+i,none⟩=some (.slice qa m c) )  ((0,true)::(1,true)::(2,true)::(3,true)::(4,true)::(5,true)::(6,true)::(7,true)::(8,true)::(9,true)::(10,false)::(11,true)::(12,true)::(13,false)::[])  Md.Cv.follows13 (by kernel_rfl) (fun _ _ _ _ _ h=>h)  ⟨k13,k6,c0⟩ ?_
     (repeat (refine a23 (v:=?_) rfl (by rfl) (fun wq hSq=>?_) ?_;rotate_left;(focus ((try dsimp only at hSq);go_simp;try with_reducible rfl));simp only[Act.put,zA,zB,zC]))
     (refine a20 rfl (by rfl) (fun KK hK=>?_);go_simp)
     refine(HCL.out _ ((HL.out w1 (zF _ _)).2.2.2.2.2.2.trans ((Same.drew w1).below _))).mono ?_;rintro r u2 ⟨gl,rfl,q⟩;obtain⟨R',r1,r2,r3,r4⟩:=q.out;have k2:Bl w1 u2:=((Same.drew w1).below _).trans r4;have HQ:=zH (HY.out u2 R' gl k2 r1 r2 r3);refine hK.out _ _ (fun _=>⟨(HL.out u2 k2).1.1,(HL.out u2 k2).1.2,(HTC.out u2 k2).1⟩) ?_;clear k13 k6 y2 y4 y5 lb ls c0 hg;obtain⟨_,y2,y4,y5,lb,ls,_⟩:=HL.out u2 k2
     (clear hK KK;try simp only[Act.put,zA,zB,zC])
     (repeat (refine a23 (v:=?_) rfl (by rfl) (fun wq hSq=>?_) ?_;rotate_left;(focus ((try dsimp only at hSq);go_simp;try with_reducible rfl));simp only[Act.put,zA,zB,zC]))
     (refine a20 rfl (by rfl) (fun KK hK=>?_);go_simp)
     refine hK.out _ _ (fun hn=>absurd rfl hn) ?_
     (clear hK KK;try simp only[Act.put])
     refine a54 ?_
     go_wp2_with (go_at_call 70;refine(HNF.out _ HQ.out).mono ?_;rintro r u3 ⟨rfl,q⟩;have H3:=zH q.out;clear q)
     exact⟨⟨i+1,by first | rfl | (congr 1),by omega,H3.out⟩,by simp[intOf];omega⟩
    ·have hl':¬ (i:Int)<(s.cl.length:Int):=by omega
     have HQ:Hid (Lai w1 ⟨b,g2+1+1,g2+1,g4,gc,pp⟩ s d i W0.heap.size/\Below W0.heap.size wr w1):=by rw[hw1];exact h1.no h2.size hi hl
     clear h1 h2
     go_upto_region 13 with fail
     rw[<- hw1];clear hw1 k13 k6 lb ls y1 y2 y3 y4 y5;obtain⟨⟨k13,k6⟩,y2,y4,y5,lb,ls,_⟩:=HL.out w1 (zF _ _)
     go_wp2_with (go_at_call 70;refine(HNF.out _ HQ.out).mono ?_;rintro r u3 ⟨rfl,q⟩;have H3:=zH q.out;clear q)
     exact⟨⟨i+1,by first | rfl | (congr 1),by omega,H3.out⟩,by simp[intOf];omega⟩
   ·have hi':¬ (i:Int)<(s.n:Int):=by omega
    have e:i=s.n:=by omega
    have HZ:Hid (Eng wr ⟨b,g2+1+1,g2+1,g4,gc,pp⟩ v s (Z0 s)/\Frs w.heap.size ⟨b,g2+1+1,g2+1,g4,gc,pp⟩ v/\Bl w wr):=by
     subst e;have l:=HB.out.1.size;exact⟨h1.all HS0.out,⟨fun k hk=>zQ l (h1.fr.own k hk),fun k hk=>(h1.fr.ro k hk).imp id (zQ l)⟩,(HX.out _ h2).2.2⟩
    clear h1 h2;go_wp2_with fail;go_ret2;exact⟨⟨b,g2+1+1,g2+1,g4,gc,pp⟩,rfl,v,HZ.out⟩
end
def Cpy (B:Nat) (w':World) (e:TypeId) (sz:Nat) (p:Option Addr) (n c:Nat):Prop:=(p=none/\n=0/\c=0)∨∃ g arr,p=some ⟨g,0,none⟩/\B<=g/\w'.heap[g]?=some (.cells arr e (0,0))/\arr.size=c*sz/\n<=c
theorem aW8 {t e ty:TypeId} {i:TypeInfo} {z:Value} (ht:Tryz.prog.underlying t=some (.slice e)) (hi:Tryz.prog.info? e=some i) (hz:i.zero=some z) (hzs:z.cells.size=i.size) {w:World} {news:List Value} {n:Nat} {x:Value} (hs:Src Tryz.prog i.size t x n news w) (hb:n*i.bytes<=140737488355328) (h63:n<=9223372036854775807) :
  ∃ v w',(Builtin.append_ #[t,t] ty #[.slice none 0 0,x]).run Tryz.prog w=.ok v w'/\∃ p c,v=.slice p n c/\Cpy w.heap.size w' e i.size p n c/\Ro w' p news/\Bl w w':=by
 by_cases h0:n=0
 ·subst h0
  have hn:news=[]:=by have:=hs.newsLen;simpa using this
  refine⟨.slice none 0 0,w,?_,none,0,rfl,.inl ⟨rfl,rfl,rfl⟩,by rw[hn];exact Ro.nil w,zF _ _⟩
  simp[Builtin.append_,run_underlying ht,sizeOf,typeInfo,hi,hs.len,hs.cells,hn]
 ·have hold:(Builtin.firstCells i.size 0 (.slice none 0 0)).run Tryz.prog w.drew=.ok ([]:List Value).toArray w.drew:=run_firstCells_none _ _ _ _ _
  refine⟨_,_,run_append_grow_src w t t ty e i z ht hi hz none 0 0 [] hold x n news hs (by omega) (by omega) (growslice_fits (by omega) (by simpa using hb)),some ⟨w.heap.size,0,none⟩,grownCap w (0+n) 0 e,by rw[Nat.zero_add],.inr ⟨w.heap.size,_,rfl,zE _,a73 (w:=w.drew) (g:=w.heap.size) rfl,?_,by have:=grownCap_ge w (0+n) 0 e;omega⟩,.inr ⟨_,_,rfl,fun j v hv=>?_⟩,((Same.drew w).below _).trans (below_alloc w.drew _)⟩
  ·have hg:=grownCap_ge w (0+n) 0 e
   have hl:=hs.newsLen;rw[Array.size_append,size_zeroCells,hzs,List.size_toArray,List.nil_append,hl,<- Nat.add_mul,show n+(grownCap w (0+n) 0 e - (0+n))=grownCap w (0+n) 0 e by omega]
  ·have hj:=(List.getElem?_eq_some_iff.1 hv).1
   refine(zR _ w.heap.size (0+j) _ _ _ (a73 (w:=w.drew) (g:=w.heap.size) rfl)).trans ?_;rw[Nat.zero_add,Array.getElem?_append_left (by simpa using hj)]
   simpa using hv
theorem Cpy.mono {B B':Nat} {w:World} {e:TypeId} {sz n c:Nat} {p:Option Addr} (h:Cpy B w e sz p n c) (k:B'<=B):Cpy B' w e sz p n c:=by
 rcases h with h | ⟨g,arr,h1,h0,h2⟩
 ·exact .inl h
 ·exact .inr ⟨g,arr,h1,zQ k h0,h2⟩
theorem bw9 {w:World} {p:Option Addr} {cs:List Ins} (h:Ro w p (cs.flatMap insC)):a35 w p cs:=by
 rcases h with⟨rfl,h⟩ | ⟨g,o,rfl,h⟩
 ·have:cs=[]:=by
   have:=congrArg List.length h;rw[aA0]at this;exact List.eq_nil_of_length_eq_zero (by simp only[List.length_nil]at this;omega)
  subst this;intro i hi
  simp at hi
 ·cases cs with
  | nil=>intro i hi;simp at hi
  | cons i cs=>exact aD5 (zK w _ (h 0 _ rfl)) h
def Kt (T:TypeId) (w w':World):Prop:=w.heap.size<=w'.heap.size/\∀ (g:Nat) (arr:Array Value) (U:TypeId),U≠T->w.heap[g]?=some (.cells arr U (0,0))->w'.heap[g]?=some (.cells arr U (0,0))
theorem Kt.of_below {T:TypeId} {w w':World} (k:Bl w w'):Kt T w w':=⟨k.size,fun g _ _ _ h=>(k.block g (lt_of_block h)).trans h⟩
theorem Cpy.kt {B:Nat} {w w':World} {T e:TypeId} {sz n c:Nat} {p:Option Addr} (h:Cpy B w e sz p n c) (k:Kt T w w') (hT:e≠T):Cpy B w' e sz p n c/\Kept (fpR p) w w':=by
 rcases h with⟨rfl,h⟩ | ⟨g,arr,rfl,h0,h2,h3⟩
 ·exact⟨.inl ⟨rfl,h⟩,k.1,fun i hi=>by simp[fpR]at hi⟩
 ·have e:=k.2 g arr _ hT h2
  refine⟨.inr ⟨g,arr,rfl,h0,e,h3⟩,k.1,fun i hi=>?_⟩;obtain rfl:i=g:=by simpa[fpR]using hi
  rw[e,h2]
def CFl (B:Nat) (w:World) (l:List Nat) (x:Option Addr × Nat):Prop:=Cpy B w 71 1 x.1 l.length x.2/\FlAt w x.1 l
def CCd (B:Nat) (w:World) (l:List Ins) (x:Option Addr × Nat):Prop:=Cpy B w 133 3 x.1 l.length x.2/\a35 w x.1 l
theorem CFl.kt {B:Nat} {w w':World} {T:TypeId} {l:List Nat} {x:Option Addr × Nat} (h:CFl B w l x) (k:Kt T w w') (hT:71≠T):CFl B w' l x:=by
 obtain⟨h1,h2⟩:=h.1.kt k hT;exact⟨h1,b07 h.2 h2⟩
theorem CCd.kt {B:Nat} {w w':World} {T:TypeId} {l:List Ins} {x:Option Addr × Nat} (h:CCd B w l x) (k:Kt T w w') (hT:133≠T):CCd B w' l x:=by
 obtain⟨h1,h2⟩:=h.1.kt k hT;exact⟨h1,al2 h.2 h2⟩
structure Rw (B:Nat) (w:World) (T:TypeId) (sz:Nat) (x:Option Addr × Nat) (k:Nat) (r:Nat->Option Addr × Nat->Array Value) (S:World->Nat->Option Addr × Nat->Prop) (e:Nat->Option Addr × Nat):Prop where
 own:w.ownsRow B T sz (.slice x.1 k x.2) k (ac2 (fun j=>r j (e j)) k)
 sub:∀ j,j<k->S w j (e j)
section
variable {B:Nat} {w w':World} {T:TypeId} {sz k:Nat} {x:Option Addr × Nat} {r:Nat->Option Addr × Nat->Array Value} {S:World->Nat->Option Addr × Nat->Prop} {e:Nat->Option Addr × Nat}
theorem aP7 (B:Nat) (w:World) (T:TypeId) (sz:Nat) (r:Nat->Option Addr × Nat->Array Value) (S:World->Nat->Option Addr × Nat->Prop) (e:Nat->Option Addr × Nat):Rw B w T sz (none,0) 0 r S e:=⟨World.ownsRow_nil _ _ _ _,fun _ hj=>absurd hj (zI _)⟩
theorem Rw.kt {U:TypeId} (h:Rw B w T sz x k r S e) (q:Kt U w w') (hT:T≠U) (hS:∀ j y,S w j y->S w' j y):Rw B w' T sz x k r S e:=by
 refine⟨⟨h.own.1,?_⟩,fun j hj=>hS j _ (h.sub j hj)⟩
 rcases h.own.2 with z | ⟨g,cap,cur,hv,hb,hg,rest⟩
 ·exact .inl z
 ·exact .inr ⟨g,cap,cur,hv,hb,q.2 g _ _ hT hg,rest⟩
theorem Rw.app (h:Rw B w T sz x k r S e) (hr:∀ j y,(r j y).size=sz/\∀ u∈(r j y).toList,u.oneCell'=true) (hS:∀ w' j y,Kt T w w'->S w j y->S w' j y) {t:TypeId} {i:TypeInfo} {z:Value} {bytes:Nat} (ht:Tryz.prog.underlying t=some (.slice T)) (hi:Tryz.prog.info? T=some i) (hz:i.zero=some z) (hsize:i.size=sz) (hby:i.bytes=bytes) (hzs:z.cells.size=sz) (hsz:0<sz)
  {y:Option Addr × Nat} (hy:S w k y) {gx:Nat} (hx:w.heap[gx]?=some (.cells (r k y) T (0,0))) (h63:k+1<=maxLen) (hb:(k+1)*bytes<=140737488355328) (hB:B<=w.heap.size) (ty:TypeId) :
  ∃ v w',(Builtin.append_ #[t,t] ty #[.slice x.1 k x.2,.slice (some ⟨gx,0,none⟩) 1 1]).run Tryz.prog w=.ok v w'/\∃ g c,v=.slice (some ⟨g,0,none⟩) (k+1) c/\(∃ e',Rw B w' T sz (some ⟨g,0,none⟩,c) (k+1) r S e')/\Below B w w'/\Kt T w w'/\∀ g,g<w.heap.size->g∉fpR x.1->w'.heap[g]?=w.heap[g]?:=by
 obtain⟨v,w',h1,h2,h3,h4,h5⟩:=run_append_own_at (P:=Tryz.prog) (w:=w) B t ty T i z sz bytes ht hi hz hsize hby hzs hsz (.slice x.1 k x.2) k _ h.own ⟨gx,0,none⟩ 1 1 (r k y).toList (by rw[Array.length_toList,(hr k y).1,Nat.one_mul]) (fun j u hu=>by
  rw[zJ,zR _ _ _ _ _ _ hx,Nat.zero_add]
  simpa using hu) (hr k y).2 h63 hb hB
 have ko:∀ (g:Nat) (arr:Array Value) (U:TypeId),U≠T->w.heap[g]?=some (.cells arr U (0,0))->w'.heap[g]?=some (.cells arr U (0,0)):=fun g arr U hU hg=>by
  refine(h3.block g (lt_of_block hg) (fun q=>?_)).trans hg
  rcases h.own.2 with⟨z,_⟩ | ⟨g',cap,cur,hv,hb,hg',rest⟩
  ·rw[z]at q;cases q
  ·rw[hv]at q
   simp[Value.ownBlock]at q
   subst q;rw[hg]at hg';injection hg' with hg';injection hg' with _ hg';exact hU hg'
 have kt:Kt T w w':=⟨h3.size,ko⟩;have bl:Below B w w':=⟨h3.os,h3.tape,h3.output,h3.size,fun j hj=>h3.block j (zL hj hB) (fun q=>by
  rcases h.own.2 with⟨z,_⟩ | ⟨g',cap,cur,hv,hb,hg',rest⟩
  ·rw[z]at q;cases q
  ·rw[hv]at q
   simp[Value.ownBlock]at q
   omega)⟩
 have hf:ac2 (fun j=>r j (e j)) k ++ (r k y).toList=ac2 (fun j=>r j ((fun j=>if j=k then y else e j) j)) (k+1):=by
  show _=ac2 (fun j=>r j (if j=k then y else e j)) k ++ (r k (if k=k then y else e k)).toList
  rw[if_pos rfl,ao4 (f:=fun j=>r j (e j)) (f':=fun j=>r j (if j=k then y else e j)) k (fun i hi=>by show r i (e i)=r i (if i=k then y else e i);rw[if_neg (by omega)])]
 rw[hf]at h2
 rcases h2.2 with⟨_,q⟩ | ⟨g,cap,cur,hv,rest⟩
 ·omega
 ·refine⟨v,w',h1,g,cap,hv,⟨fun j=>if j=k then y else e j,by rw[hv]at h2;exact h2,fun j hj=>hS w' j _ kt ?_⟩,bl,kt,fun g hg hn=>h3.block g hg fun q=>hn (a40.2 q.symm)⟩
  by_cases q:j=k
  ·rw[if_pos q,q];exact hy
  ·rw[if_neg q];exact h.sub j (by omega)
theorem Rw.cell (h:Rw B w T sz x k r S e) (hr:∀ j y,(r j y).size=sz) {i:Nat} (hi:i<k):∃ g,x.1=some ⟨g,0,none⟩/\B<=g/\g<w.heap.size/\∀ j,j<sz->w.cell? ⟨g,i*sz+j,none⟩=(r i (e i))[j]?:=by
 obtain⟨g,c,hv,_,A⟩:=bn7 ⟨h.own.1,h.own.2.imp id (fun ⟨g,cap,cur,hv,hb,rest⟩=>⟨g,cap,cur,hv,zV _,rest⟩)⟩ (by omega) (fun j _=>hr j _)
 rcases h.own.2 with⟨_,q⟩ | ⟨g',cap,cur,hv',hb,hg,_⟩
 ·omega
 ·rw[hv]at hv'
  injection hv' with e1 _ _;injection e1 with e1;injection e1 with e1;subst e1;injection hv with e2 _ _;exact⟨g,e2,hb,A.lt,fun j hj=>A.cell hi hj⟩
end
def rP (l:List (Int × List Ins)) (j:Nat) (x:Option Addr × Nat):Array Value:=#[.int .i64 (l.getD j (0,[])).1,.slice x.1 (l.getD j (0,[])).2.length x.2]
def rC (l:List (Int × List Nat)) (j:Nat) (x:Option Addr × Nat):Array Value:=#[.int .i64 (l.getD j (0,[])).1,.slice x.1 (l.getD j (0,[])).2.length x.2]
def rT (l:List (List (Int × List Nat))) (j:Nat) (x:Option Addr × Nat):Array Value:=#[.slice x.1 (l.getD j []).length x.2]
def SP (B:Nat) (l:List (Int × List Ins)) (w:World) (j:Nat) (x:Option Addr × Nat):Prop:=CCd B w (l.getD j (0,[])).2 x
def SC (B:Nat) (l:List (Int × List Nat)) (w:World) (j:Nat) (x:Option Addr × Nat):Prop:=CFl B w (l.getD j (0,[])).2 x
def ST (B:Nat) (l:List (List (Int × List Nat))) (w:World) (j:Nat) (x:Option Addr × Nat):Prop:=∃ e,Rw B w 138 2 x (l.getD j []).length (rC (l.getD j [])) (SC B (l.getD j [])) e
theorem b47 (l:List (Int × List Ins)) (j:Nat) (x:Option Addr × Nat):(rP l j x).size=2/\∀ u∈(rP l j x).toList,u.oneCell'=true:=⟨rfl,fun u hu=>by simp[rP]at hu;rcases hu with rfl | rfl <;> rfl⟩
theorem b46 (l:List (Int × List Nat)) (j:Nat) (x:Option Addr × Nat):(rC l j x).size=2/\∀ u∈(rC l j x).toList,u.oneCell'=true:=⟨rfl,fun u hu=>by simp[rC]at hu;rcases hu with rfl | rfl <;> rfl⟩
theorem b48 (l:List (List (Int × List Nat))) (j:Nat) (x:Option Addr × Nat):(rT l j x).size=1/\∀ u∈(rT l j x).toList,u.oneCell'=true:=⟨rfl,fun u hu=>by simp[rT]at hu;subst hu;rfl⟩
section
variable {B:Nat} {w w':World} {T:TypeId}
theorem SP.kt {l:List (Int × List Ins)} {j:Nat} {x:Option Addr × Nat} (h:SP B l w j x) (k:Kt T w w') (hT:133≠T):SP B l w' j x:=CCd.kt h k hT
theorem SC.kt {l:List (Int × List Nat)} {j:Nat} {x:Option Addr × Nat} (h:SC B l w j x) (k:Kt T w w') (hT:71≠T):SC B l w' j x:=CFl.kt h k hT
theorem ST.kt {l:List (List (Int × List Nat))} {j:Nat} {x:Option Addr × Nat} (h:ST B l w j x) (k:Kt T w w') (h1:71≠T) (h2:138≠T):ST B l w' j x:=by
 obtain⟨e,q⟩:=h;exact⟨e,q.kt k h2 fun j y z=>SC.kt z k h1⟩
structure SuNw (B:Nat) (w:World) (s:Su) (p:Sp):Prop where
 st:CFl B w s.st (p.ps,p.cs)
 pg:∃ e,Rw B w 136 2 (p.pp,p.cp) s.pg.length (rP s.pg) (SP B s.pg) e
 cl:∃ e,Rw B w 59 1 (p.pt,p.ct) s.cl.length (rT s.cl) (ST B s.cl) e
structure SuSz (s:Su):Prop where
 st:s.st.length*8<=140737488355328
 pg:s.pg.length*32<=140737488355328
 cd:∀ p∈s.pg,p.2.length*24<=140737488355328
 cl:s.cl.length*24<=140737488355328
 ca:∀ l∈s.cl,l.length*32<=140737488355328
 ar:∀ l∈s.cl,∀ x∈l,x.2.length*8<=140737488355328
theorem Cpy.pln {e:TypeId} {sz n c:Nat} {p:Option Addr} (h:Cpy B w e sz p n c):Pln p n c:=by
 rcases h with h | ⟨g,_,h,_⟩
 ·exact .inl h
 ·exact .inr ⟨g,0,none,h⟩
theorem aa4 {α:Type} {l:List α} {i:Nat} (d:α) (h:i<l.length):l.getD i d∈l:=by
 rw[zG,List.getElem?_eq_getElem h];exact List.getElem_mem _
theorem SuNw.at_ {s:Su} {p:Sp} (h:SuNw B w s p) (ok:SuOk s) (z:SuSz s):SuAt w s p:=by
 obtain⟨e1,h1⟩:=h.pg;obtain⟨e2,h2⟩:=h.cl;refine⟨h.st.2,fun i hi=>?_,fun i hi=>?_,by have:=z.st;omega,by have:=z.pg;omega,by have:=z.cl;omega,ok⟩
 ·obtain⟨g,q1,_,q2,q3⟩:=h1.cell (fun j y=>(b47 _ j y).1) hi
  have s1:=h1.sub i hi;have:=z.cd _ (aa4 (0,[]) hi);exact⟨g,0,(e1 i).1,(e1 i).2,q1,q2,by rw[Nat.zero_add];exact(q3 0 (by omega)).trans rfl,by rw[Nat.zero_add];exact(q3 1 (by omega)).trans rfl,s1.2,s1.1.pln,by omega⟩
 ·obtain⟨g,q1,_,q2,q3⟩:=h2.cell (fun j y=>(b48 _ j y).1) hi
  obtain⟨e3,s1⟩:=h2.sub i hi;have:=z.ca _ (aa4 [] hi);refine⟨g,0,(e2 i).1,(e2 i).2,q1,q2,by rw[Nat.zero_add];have:=(q3 0 (by omega));rw[Nat.mul_one]at this;exact this.trans rfl,fun j hj=>?_,by omega⟩;obtain⟨g',r1,_,r2,r3⟩:=s1.cell (fun j y=>(b46 _ j y).1) hj;have s2:=s1.sub j hj;have:=z.ar _ (aa4 [] hi) _ (aa4 (0,[]) hj);exact⟨g',0,(e3 j).1,(e3 j).2,r1,r2,by rw[Nat.zero_add];exact(r3 0 (by omega)).trans rfl,by rw[Nat.zero_add];exact(r3 1 (by omega)).trans rfl,s2.2,s2.1.pln,by omega⟩
end
structure Spl (B:Nat) (w0 w u:World):Prop where
 os:u.os=w.os
 tape:u.tape=w.tape
 output:u.output=w.output
 size:w.heap.size<=u.heap.size
 out:∀ k,k<w.heap.size->k<B∨w0.heap.size<=k->u.heap[k]?=w.heap[k]?
 row:∀ k T arr,B<=k->w0.heap[k]?=some (.cells arr T (0,0))->∃ arr',u.heap[k]?=some (.cells arr' T (0,0))/\arr'.size=arr.size/\(T=136->arr'=arr)/\(T=59->arr'=arr)/\(T=138->∀ j,arr'[j*2+1]?=arr[j*2+1]?)
section
variable {B:Nat} {w0 w u u':World}
theorem Spl.refl (k:Bl w0 w):Spl B w0 w w:=⟨rfl,rfl,rfl,zE _,fun _ _ _=>rfl,fun g _ arr _ h=>⟨arr,(k.block g (lt_of_block h)).trans h,rfl,fun _=>rfl,fun _=>rfl,fun _ _=>rfl⟩⟩
theorem Spl.on (h:Spl B w0 w u) (k:Bl u u'):Spl B w0 w u' :=
 ⟨k.os.trans h.os,k.tape.trans h.tape,k.output.trans h.output,zQ h.size k.size,fun g hg q=>(k.block g (zL hg h.size)).trans (h.out g hg q),fun g T arr hB e=>by
  obtain⟨arr',e1,e2⟩:=h.row g T arr hB e;exact⟨arr',(k.block g (lt_of_block e1)).trans e1,e2⟩⟩
theorem Spl.put (h:Spl B w0 w u) {g j:Nat} {T:TypeId} {arr:Array Value} (v:Value) (hB:B<=g) (hg:w0.heap[g]?=some (.cells arr T (0,0))) (h1:T≠136) (h2:T≠59) (h3:T=138->j % 2=0):Spl B w0 w (u.setCell ⟨g,j,none⟩ v):=by
 refine⟨h.os,h.tape,h.output,by simpa using h.size,fun k hk q=>?_,fun k U a hk e=>?_⟩
 ·have:=lt_of_block hg
  exact(zO _ _ _ _ (show k≠g by omega)).trans (h.out k hk q)
 ·obtain⟨arr',e1,e2,e3,e4,e5⟩:=h.row k U a hk e
  by_cases q:k=g
  ·subst q
   rw[e]at hg;injection hg with hg;injection hg with hg1 hg2;subst hg1 hg2;refine⟨_,zS u k j _ _ v e1,by simpa using e2,fun z=>absurd z h1,fun z=>absurd z h2,fun z i=>?_⟩;have:=h3 z;rw[Array.getElem?_setIfInBounds_ne (by omega)];exact e5 z i
  ·exact⟨arr',(zO _ _ _ _ q).trans e1,e2,e3,e4,e5⟩
end
section
variable {B:Nat} {w:World} {T:TypeId} {sz k:Nat} {x:Option Addr × Nat} {r:Nat->Option Addr × Nat->Array Value} {S:World->Nat->Option Addr × Nat->Prop} {e:Nat->Option Addr × Nat}
theorem Rw.blk (h:Rw B w T sz x k r S e) (hr:∀ j y,(r j y).size=sz) (hk:0<k):∃ g arr,x.1=some ⟨g,0,none⟩/\B<=g/\w.heap[g]?=some (.cells arr T (0,0))/\k*sz<=arr.size/\∀ i j,i<k->j<sz->arr[i*sz+j]?=(r i (e i))[j]?:=by
 obtain⟨g,h1,h2,h3,h4⟩:=h.cell hr hk
 rcases h.own.2 with⟨_,q⟩ | ⟨g',cap,cur,hv',hb,hg,hc,_,hs,_⟩
 ·omega
 ·injection hv' with e1 _ _
  rw[h1]at e1;injection e1 with e1;injection e1 with e1;subst e1;refine⟨g,cur,h1,h2,hg,by rw[hs];exact Nat.mul_le_mul_right _ hc,fun i j hi hj=>?_⟩;obtain⟨g2,z1,_,_,z4⟩:=h.cell hr hi;rw[h1]at z1;injection z1 with z1;injection z1 with z1;subst z1;rw[<- z4 j hj,zR w g _ _ _ _ hg]
theorem Cpy.blk {n c:Nat} {p:Option Addr} (h:Cpy B w T sz p n c) (hn:0<n):∃ g arr,p=some ⟨g,0,none⟩/\B<=g/\w.heap[g]?=some (.cells arr T (0,0))/\n*sz<=arr.size:=by
 rcases h with⟨_,h,_⟩ | ⟨g,arr,h1,h0,h2,h3,h4⟩
 ·omega
 ·exact⟨g,arr,h1,h0,h2,by rw[h3];exact Nat.mul_le_mul_right _ h4⟩
end
section
variable {B:Nat} {w0 w u:World} {s:Su} {p:Sp}
theorem Spl.spot (h:Spl B w0 w u) {g j:Nat} {T:TypeId} {arr:Array Value} (hB:B<=g) (hg:w0.heap[g]?=some (.cells arr T (0,0))) (hj:j<arr.size):(∃ v,u.cell? ⟨g,j,none⟩=some v)/\u.frozen? ⟨g,j,none⟩=false/\g<u.heap.size:=by
 obtain⟨arr',e1,e2,_⟩:=h.row g T arr hB hg;refine⟨?_,zZ u g _ _ _ e1,lt_of_block e1⟩;rw[zR u g _ _ _ _ e1];exact⟨_,Array.getElem?_eq_getElem (by omega)⟩
theorem Spl.prog (h:Spl B w0 w u) (q:SuNw B w0 s p) {i:Nat} (hi:i<s.pg.length):∃ g po c,p.pp=some ⟨g,0,none⟩/\g<u.heap.size/\u.cell? ⟨g,i*2,none⟩=some (.int .i64 (s.pg.getD i (0,[])).1)/\u.cell? ⟨g,i*2+1,none⟩=some (.slice po (s.pg.getD i (0,[])).2.length c)/\CCd B w0 (s.pg.getD i (0,[])).2 (po,c):=by
 obtain⟨e,q1⟩:=q.pg;obtain⟨g,arr,r1,r2,r3,r4,r5⟩:=q1.blk (fun j y=>(b47 _ j y).1) (by omega);obtain⟨arr',e1,e2,e3,_⟩:=h.row g _ arr r2 r3;rw[e3 rfl]at e1;exact⟨g,(e i).1,(e i).2,r1,lt_of_block e1,by rw[zR u g _ _ _ _ e1];exact(r5 i 0 hi (by omega)).trans rfl,by rw[zR u g _ _ _ _ e1];exact(r5 i 1 hi (by omega)).trans rfl,q1.sub i hi⟩
theorem Spl.thread (h:Spl B w0 w u) (q:SuNw B w0 s p) {i:Nat} (hi:i<s.cl.length):∃ g po c,p.pt=some ⟨g,0,none⟩/\g<u.heap.size/\u.cell? ⟨g,i,none⟩=some (.slice po (s.cl.getD i []).length c)/\ST B s.cl w0 i (po,c):=by
 obtain⟨e,q1⟩:=q.cl;obtain⟨g,arr,r1,r2,r3,r4,r5⟩:=q1.blk (fun j y=>(b48 _ j y).1) (by omega);obtain⟨arr',e1,e2,_,e4,_⟩:=h.row g _ arr r2 r3;rw[e4 rfl]at e1;refine⟨g,(e i).1,(e i).2,r1,lt_of_block e1,?_,q1.sub i hi⟩;rw[zR u g _ _ _ _ e1];have:=r5 i 0 hi (by omega);rw[Nat.mul_one]at this;exact this.trans rfl
theorem bq9 {l:List (List (Int × List Nat))} {i:Nat} {y:Option Addr × Nat} (q:ST B l w0 i y) {j:Nat} (hj:j<(l.getD i []).length):∃ g arr po c,y.1=some ⟨g,0,none⟩/\B<=g/\w0.heap[g]?=some (.cells arr 138 (0,0))/\j*2+2<=arr.size/\arr[j*2+1]?=some (.slice po ((l.getD i []).getD j (0,[])).2.length c)/\CFl B w0 ((l.getD i []).getD j (0,[])).2 (po,c):=by
 obtain⟨e,q1⟩:=q;obtain⟨g,arr,r1,r2,r3,r4,r5⟩:=q1.blk (fun j y=>(b46 _ j y).1) (by omega);exact⟨g,arr,(e j).1,(e j).2,r1,r2,r3,by omega,(r5 j 1 hj (by omega)).trans rfl,q1.sub j hj⟩
theorem Spl.odd (h:Spl B w0 w u) {g j:Nat} {arr:Array Value} {v:Value} (hB:B<=g) (hg:w0.heap[g]?=some (.cells arr 138 (0,0))) (e:arr[j*2+1]?=some v):u.cell? ⟨g,j*2+1,none⟩=some v/\g<u.heap.size:=by
 obtain⟨arr',e1,e2,_,_,e5⟩:=h.row g _ arr hB hg;exact⟨by rw[zR u g _ _ _ _ e1,e5 rfl];exact e,lt_of_block e1⟩
end
section
variable {B:Nat} {w0 w w1 u:World} {s:Su} {p:Sp}
theorem Spl.from_ (h:Spl B w0 w1 u) (k:Bl w w1):Spl B w0 w u:=⟨h.os.trans k.os,h.tape.trans k.tape,h.output.trans k.output,zQ k.size h.size,fun g hg q=>(h.out g (zL hg k.size) q).trans (k.block g hg),h.row⟩
attribute [local go_sem] a00
theorem aH5 (h:SuNw B w0 s p) (z:SuSz s) (k0:Bl w0 w):Calls Tryz.prog 32 #[.agg (suC s p)] w fun r w'=>r=.returned (.tuple #[])/\Hid (Spl B w0 w w'):=by
 have HB:=zH (ao9 w s p);have HN:=zH (And.intro h z);have b0:Bl w0 (w.alloc (suO s p)):=k0.alloc k0.size _;have HX:Hid (∀ u,Spl B w0 (w.alloc (suO s p)) u->u.cell? ⟨w.heap.size,4,none⟩=some (.slice p.ps s.st.length p.cs)/\u.cell? ⟨w.heap.size,5,none⟩=some (.slice p.pp s.pg.length p.cp)/\u.cell? ⟨w.heap.size,6,none⟩=some (.slice p.pt s.cl.length p.ct)/\w.heap.size<u.heap.size):=fun u hu=>by
  have l:=lt_of_block HB.out.2;have e:=(hu.out w.heap.size l (.inr k0.size)).trans HB.out.2;obtain⟨_,_,_,_,c4,c5,c6,c7⟩:=a46 e;exact⟨c4,c5,c6,c7⟩
 have H0:=zH (Spl.refl (B:=B) b0);have HZ:Hid (∀ u,Spl B w0 (w.alloc (suO s p)) u->Spl B w0 w u):=fun u hu=>hu.from_ HB.out.1
 have HS0:=zH k0.size;have l1:(s.st.length:Int)<=9223372036854775807:=by have:=z.st;omega
 have l2:(s.pg.length:Int)<=9223372036854775807:=by have:=z.pg;omega
 have l3:(s.cl.length:Int)<=9223372036854775807:=by have:=z.cl;omega
 clear h z k0 b0 HB;obtain⟨gs,hgs⟩:∃ gs,w.heap.size=gs:=⟨_,rfl⟩
 obtain⟨v1,hv1⟩:∃ v1,v1=w.alloc (suO s p):=⟨_,rfl⟩
 go_enter Tryz.func32,Tryz.ntmps32
 go_upto_region 1 with fail
 rw[show w.alloc (.cells (suC s p) 28)=v1 from hv1.symm];rw[<- hv1]at HX H0 HZ;rw[hgs]at HX HS0;clear hv1 hgs;obtain⟨c4,c5,c6,cl⟩:=HX.out _ H0.out;go_wp2_with fail;clear c4 c5 c6 cl
 go_loopw [13] (fun v13 u=>∃ k:Nat,v13=.int .i64 (k:Int)/\k<=s.st.length/\Hid (Spl B w0 v1 u)) (fun v13 _=>s.st.length - (intOf v13).toNat)
 case atStart=>exact⟨0,rfl,zV _,H0.out⟩
 case round =>
  obtain⟨k,rfl,hk,HR⟩:=hrel;clear H0
  rename_i u
  obtain⟨c4,c5,c6,cl⟩:=HX.out _ HR.out
  by_cases hlt:k<s.st.length
  ·have hlt':(k:Int)<(s.st.length:Int):=by omega
   obtain⟨g,arr,e1,e2,e3,e4⟩:=HN.out.1.st.1.blk (by omega);rw[Nat.mul_one]at e4;obtain⟨⟨v,hv⟩,hf,hg⟩:=HR.out.spot (j:=k) e2 e3 (by omega);have HP:=zH (HR.out.put (j:=k) (.float .f64 13858561215837503488) e2 e3 (by decide) (by decide) (fun q=>absurd q (by decide)));dsimp only at e1;rw[e1]at c4;clear e2 e3 e4;go_wp2_with fail;exact⟨⟨k+1,by first | rfl | (congr 1),by omega,HP.out⟩,by simp[intOf];omega⟩
  ·have hlt':¬ (k:Int)<(s.st.length:Int):=by omega
   go_wp2_with fail;clear c4 c5 c6 cl hlt hlt' hk l1
   go_loopw [24] (fun v24 u=>∃ k:Nat,v24=.int .i64 (k:Int)/\k<=s.pg.length/\Hid (Spl B w0 v1 u)) (fun v24 _=>s.pg.length - (intOf v24).toNat)
   case atStart=>exact⟨0,rfl,zV _,HR.out⟩
   case round =>
    clear HR;obtain⟨k,rfl,hk,HR⟩:=hrel;obtain⟨c4,c5,c6,cl⟩:=HX.out _ HR.out
    by_cases hlt:k<s.pg.length
    ·have hlt':(k:Int)<(s.pg.length:Int):=by omega
     obtain⟨g,po,c,ep,hg,d0,d1,cc⟩:=HR.out.prog HN.out.1 hlt;have lx:=HN.out.2.cd _ (aa4 (0,[]) hlt);have HCC:=zH cc;obtain⟨x1,hx1⟩:∃ x1,(s.pg.getD k (0,[])).1=x1:=⟨_,rfl⟩
     obtain⟨x2,hx2⟩:∃ x2,(s.pg.getD k (0,[])).2.length=x2:=⟨_,rfl⟩
     rw[hx1]at d0;rw[hx2]at d1 lx;have HX2:=zH hx2;have lx':(x2:Int)<=9223372036854775807:=by omega
     clear cc hx1 hx2 lx;rw[ep]
     go_upto_region 9 with fail
     obtain⟨w2,hw2⟩:∃ w2,w2=wr.alloc (.cells #[.int .i64 x1,.slice po x2 c] 136):=⟨_,rfl⟩
     obtain⟨gb,hgb⟩:∃ gb,wr.heap.size=gb:=⟨_,rfl⟩
     rw[<- hw2,hgb];have H2:Hid (Spl B w0 v1 w2/\w2.heap[gb]?=some (.cells #[.int .i64 x1,.slice po x2 c] 136 (0,0))):=by
      rw[hw2,<- hgb];exact⟨HR.out.on (below_alloc _ _),zN _ _⟩
     have HGB:Hid (w0.heap.size<=gb):=by
      have a1:=HS0.out;have a2:=(HX.out _ HR.out).2.2.2;exact(by omega:w0.heap.size<=gb)
     clear hw2 hgb d0 d1 c4 c5 c6 cl hg;have t1:=(zR w2 gb 1 _ _ _ H2.out.2).trans (rfl:_=some (Value.slice po x2 c));have lgb:=lt_of_block H2.out.2;go_wp2_with fail;clear t1 lgb
     go_loopw [31] (fun v31 wi=>∃ j:Nat,v31=.int .i64 (j:Int)/\j<=x2/\Hid (Spl B w0 v1 wi/\wi.heap[gb]?=some (.cells #[.int .i64 x1,.slice po x2 c] 136 (0,0)))) (fun v31 _=>x2 - (intOf v31).toNat)
     case atStart=>exact⟨0,rfl,zV _,H2.out⟩
     case round =>
      obtain⟨j,rfl,hj,HI⟩:=hrel;clear H2 HR;have t1:=(zR _ gb 1 _ _ _ HI.out.2).trans (rfl:_=some (Value.slice po x2 c));have lgb:=lt_of_block HI.out.2
      by_cases hjt:j<x2
      ·have hjt':(j:Int)<(x2:Int):=by omega
       obtain⟨gc,arr,e1,e2,e3,e4⟩:=HCC.out.1.blk (by rw[HX2.out];omega);rw[HX2.out]at e4;dsimp only at e1;obtain⟨⟨y0,z0⟩,f0,lg⟩:=HI.out.1.spot (j:=j*3) e2 e3 (by omega);obtain⟨⟨y1,z1⟩,f1,_⟩:=HI.out.1.spot (j:=j*3+1) e2 e3 (by omega);obtain⟨⟨y2,z2⟩,f2,_⟩:=HI.out.1.spot (j:=j*3+2) e2 e3 (by omega);have HP:Hid (Spl B w0 v1 (((wr.setCell ⟨gc,j*3,none⟩ (.int .i64 19)).setCell ⟨gc,j*3+1,none⟩ (.int .i64 50)).setCell ⟨gc,j*3+2,none⟩ (.float .f64 0))/\(((wr.setCell ⟨gc,j*3,none⟩ (.int .i64 19)).setCell ⟨gc,j*3+1,none⟩ (.int .i64 50)).setCell ⟨gc,j*3+2,none⟩ (.float .f64 0)).heap[gb]?=some (.cells #[.int .i64 x1,.slice po x2 c] 136 (0,0))):=by
        have l0:=lt_of_block e3;have l1:=HGB.out;have ne:gb≠gc:=by omega
        refine⟨(((HI.out.1.put _ e2 e3 (by decide) (by decide) (fun q=>absurd q (by decide))).put _ e2 e3 (by decide) (by decide) (fun q=>absurd q (by decide))).put _ e2 e3 (by decide) (by decide) (fun q=>absurd q (by decide))),?_⟩;exact(zO _ _ _ _ ne).trans ((zO _ _ _ _ ne).trans ((zO _ _ _ _ ne).trans HI.out.2))
       subst e1;clear e2 e3 e4;go_wp2_with fail;exact⟨⟨j+1,by first | rfl | (congr 1),by omega,HP.out⟩,by simp[intOf];omega⟩
      ·have hjt':¬ (j:Int)<(x2:Int):=by omega
       go_wp2_with fail;exact⟨⟨k+1,by first | rfl | (congr 1),by omega,HI.out.1⟩,by simp[intOf];omega⟩
    ·have hlt':¬ (k:Int)<(s.pg.length:Int):=by omega
     go_wp2_with fail;clear c4 c5 c6 cl hlt hlt' hk l2
     go_loopw [44] (fun v44 u=>∃ k:Nat,v44=.int .i64 (k:Int)/\k<=s.cl.length/\Hid (Spl B w0 v1 u)) (fun v44 _=>s.cl.length - (intOf v44).toNat)
     case atStart=>exact⟨0,rfl,zV _,HR.out⟩
     case round =>
      clear HR;obtain⟨k,rfl,hk,HR⟩:=hrel
      by_cases hlt:k<s.cl.length
      ·have hlt':(k:Int)<(s.cl.length:Int):=by omega
       obtain⟨g,po,c,ep,hg,d0,cc⟩:=HR.out.thread HN.out.1 hlt;have lx:=HN.out.2.ca _ (aa4 [] hlt);have HCC:=zH cc;obtain⟨m,hm⟩:∃ m,(s.cl.getD k []).length=m:=⟨_,rfl⟩
       rw[hm]at d0 lx;have HM:=zH hm;have lx':(m:Int)<=9223372036854775807:=by omega
       clear cc hm lx;rw[ep];go_wp2_with fail;clear d0 hg
       go_loopw [50] (fun v50 wi=>∃ i:Nat,v50=.int .i64 (i:Int)/\i<=m/\Hid (Spl B w0 v1 wi)) (fun v50 _=>m - (intOf v50).toNat)
       case atStart=>exact⟨0,rfl,zV _,HR.out⟩
       case round =>
        clear HR;obtain⟨i,rfl,hi,HI⟩:=hrel
        by_cases hit:i<m
        ·have hit':(i:Int)<(m:Int):=by omega
         obtain⟨gl,arr,pa,ca,e1,e2,e3,e4,e5,e6⟩:=bq9 HCC.out (j:=i) (by rw[HM.out];exact hit);have ly:=HN.out.2.ar _ (aa4 [] hlt) _ (aa4 (0,[]) (show i<(s.cl.getD k []).length by rw[HM.out];exact hit));obtain⟨n2,hn2⟩:∃ n2,((s.cl.getD k []).getD i (0,[])).2.length=n2:=⟨_,rfl⟩
         rw[hn2]at e5 ly;have HN2:=zH hn2;have HC6:=zH e6;have ly':(n2:Int)<=9223372036854775807:=by omega
         have HOD:Hid (∀ u,Spl B w0 v1 u->(u.cell? ⟨gl,i*2+1,none⟩=some (.slice pa n2 ca)/\gl<u.heap.size)/\(∃ y,u.cell? ⟨gl,i*2,none⟩=some y)/\u.frozen? ⟨gl,i*2,none⟩=false):=fun u hu=>⟨hu.odd e2 e3 e5,(hu.spot (j:=i*2) e2 e3 (by omega)).1,(hu.spot (j:=i*2) e2 e3 (by omega)).2.1⟩
         have HPU:Hid (∀ u,Spl B w0 v1 u->Spl B w0 v1 (u.setCell ⟨gl,i*2,none⟩ (.int .i64 (-1)))):=fun u hu=>hu.put _ e2 e3 (by decide) (by decide) (fun _=>by omega)
         dsimp only at e1;clear e2 e3 e4 e5 e6 hn2 ly;subst e1;obtain⟨⟨t1,lg⟩,_,_⟩:=HOD.out _ HI.out;go_wp2_with fail;clear t1 lg
         go_loopw [59] (fun v59 wk=>∃ j:Nat,v59=.int .i64 (j:Int)/\j<=n2/\Hid (Spl B w0 v1 wk)) (fun v59 _=>n2 - (intOf v59).toNat)
         case atStart=>exact⟨0,rfl,zV _,HI.out⟩
         case round =>
          clear HI;obtain⟨j,rfl,hj,HI⟩:=hrel;obtain⟨⟨t1,lg⟩,⟨y0,t0⟩,f0⟩:=HOD.out _ HI.out
          by_cases hjt:j<n2
          ·have hjt':(j:Int)<(n2:Int):=by omega
           obtain⟨ga,arr,e1,e2,e3,e4⟩:=HC6.out.1.blk (by rw[HN2.out];omega);rw[HN2.out,Nat.mul_one]at e4;dsimp only at e1;obtain⟨⟨y1,z1⟩,f1,lga⟩:=HI.out.spot (j:=j) e2 e3 (by omega);have HP:=zH (HI.out.put (j:=j) (.float .f64 13858561215837503488) e2 e3 (by decide) (by decide) (fun q=>absurd q (by decide)));subst e1;clear e2 e3 e4 t0 f0;go_wp2_with fail;exact⟨⟨j+1,by first | rfl | (congr 1),by omega,HP.out⟩,by simp[intOf];omega⟩
          ·have hjt':¬ (j:Int)<(n2:Int):=by omega
           have HP:=zH (HPU.out _ HI.out);go_wp2_with fail;exact⟨⟨i+1,by first | rfl | (congr 1),by omega,HP.out⟩,by simp[intOf];omega⟩
        ·have hit':¬ (i:Int)<(m:Int):=by omega
         go_wp2_with fail;exact⟨⟨k+1,by first | rfl | (congr 1),by omega,HI.out⟩,by simp[intOf];omega⟩
      ·have hlt':¬ (k:Int)<(s.cl.length:Int):=by omega
       go_wp2_with fail
       go_end0
       exact⟨rfl,HZ.out _ HR.out⟩
end
theorem bE8:(Tryz.prog.info? 59).map (fun i=>(i.zero,i.size,i.bytes))=some (some (.slice none 0 0),1,24):=by kernel_rfl
theorem Rw.mono {B B':Nat} {w:World} {T:TypeId} {sz k:Nat} {x:Option Addr × Nat} {r:Nat->Option Addr × Nat->Array Value} {S S':World->Nat->Option Addr × Nat->Prop} {e:Nat->Option Addr × Nat} (h:Rw B w T sz x k r S e) (hB:B'<=B) (hS:∀ j y,S w j y->S' w j y):Rw B' w T sz x k r S' e :=
 ⟨⟨h.own.1,h.own.2.imp id fun ⟨g,cap,cur,hv,hb,rest⟩=>⟨g,cap,cur,hv,zQ hB hb,rest⟩⟩,fun j hj=>hS j _ (h.sub j hj)⟩
theorem CFl.mono {B B':Nat} {w:World} {l:List Nat} {x:Option Addr × Nat} (h:CFl B w l x) (hB:B'<=B):CFl B' w l x:=⟨h.1.mono hB,h.2⟩
theorem CCd.mono {B B':Nat} {w:World} {l:List Ins} {x:Option Addr × Nat} (h:CCd B w l x) (hB:B'<=B):CCd B' w l x:=⟨h.1.mono hB,h.2⟩
theorem aO4 {w:World} {T:TypeId} {g j:Nat} {arr:Array Value} (h:w.heap[g]?=some (.cells arr T (0,0))) (v:Value):Kt T w (w.setCell ⟨g,j,none⟩ v):=⟨by simp,fun k a U hU e=>by
 by_cases q:k=g
 ·subst q
  rw[h]at e;injection e with e;injection e with _ e;exact absurd e.symm hU
 ·exact(zO _ _ _ _ q).trans e⟩
abbrev lnO (s:Su) (x y t:Option Addr × Nat) (kp kt:Nat):Obj:=.cells #[.int .i64 s.a,.int .i64 s.b,.int .i64 s.c,.int .i64 s.e,.slice x.1 s.st.length x.2,.slice y.1 kp y.2,.slice t.1 kt t.2] 28
abbrev lz:Obj:=.cells #[.int .i64 0,.int .i64 0,.int .i64 0,.int .i64 0,.slice none 0 0,.slice none 0 0,.slice none 0 0] 28
structure Ln (W0 wr:World) (s:Su) (g3:Nat) (x y t:Option Addr × Nat) (kp kt:Nat):Prop where
 bx:wr.heap[g3]?=some (lnO s x y t kp kt)
 b2:wr.heap[W0.heap.size]?=some lz
 st:CFl W0.heap.size wr s.st x
 pg:∃ e,Rw W0.heap.size wr 136 2 y kp (rP s.pg) (SP W0.heap.size s.pg) e
 cl:∃ e,Rw W0.heap.size wr 59 1 t kt (rT s.cl) (ST W0.heap.size s.cl) e
 bl:Bl W0 wr
 l3:W0.heap.size<g3
section
variable {W0 wr u:World} {s:Su} {g3:Nat} {x y t:Option Addr × Nat} {kp kt:Nat}
theorem Ln.on (h:Ln W0 wr s g3 x y t kp kt) (k:Bl wr u):Ln W0 u s g3 x y t kp kt:=by
 obtain⟨e1,h1⟩:=h.pg;obtain⟨e2,h2⟩:=h.cl;exact⟨(k.block _ (lt_of_block h.bx)).trans h.bx,(k.block _ (lt_of_block h.b2)).trans h.b2,h.st.kt (T:=3) (Kt.of_below k) (by decide),⟨e1,h1.kt (U:=3) (Kt.of_below k) (by decide) fun j y q=>SP.kt (T:=3) q (Kt.of_below k) (by decide)⟩,⟨e2,h2.kt (U:=3) (Kt.of_below k) (by decide) fun j y q=>ST.kt (T:=3) q (Kt.of_below k) (by decide) (by decide)⟩,h.bl.trans (k.mono h.bl.size),h.l3⟩
theorem Ln.ap_prog (h:Ln W0 u s g3 x y t kp kt) (z:SuSz s) (hk:kp<s.pg.length) {q:Option Addr × Nat} (hq:CCd W0.heap.size u (s.pg.getD kp (0,[])).2 q) {gx:Nat} (hx:u.heap[gx]?=some (.cells (rP s.pg kp q) 136 (0,0))) (ty:TypeId) :
  ∃ v w',(Builtin.append_ #[25,25] ty #[.slice y.1 kp y.2,.slice (some ⟨gx,0,none⟩) 1 1]).run Tryz.prog u=.ok v w'/\∃ g c,v=.slice (some ⟨g,0,none⟩) (kp+1) c/\Ln W0 (w'.setCell ⟨g3,5,none⟩ v) s g3 x (some ⟨g,0,none⟩,c) t (kp+1) kt/\w'.heap[g3]?=some (lnO s x y t kp kt)/\u.heap.size<=w'.heap.size/\∀ g,g<u.heap.size->g∉fpR y.1->w'.heap[g]?=u.heap[g]?:=by
 obtain⟨i,hi,hz0,hz1,hz2⟩:=info_parts aP5;obtain⟨e1,h1⟩:=h.pg;obtain⟨e2,h2⟩:=h.cl;obtain⟨v,w',a1,g,c,a2,⟨e',a3⟩,a4,a5,a6⟩:=h1.app (b47 s.pg) (fun w' j y k q=>SP.kt q k (by decide)) (t:=25) Tryz.underlying25 hi hz0 hz1 hz2 rfl (by decide) (y:=q) hq hx (by have:=z.pg;unfold maxLen;omega) (by have:=z.pg;omega) h.bl.size ty;have b3:=a5.2 g3 _ _ (by decide) h.bx;have ks:=aO4 (j:=5) b3 v;refine⟨v,w',a1,g,c,a2,⟨?_,?_,(h.st.kt a5 (by decide)).kt ks (by decide),⟨e',a3.kt ks (by decide) fun j y q=>SP.kt q ks (by decide)⟩,⟨e2,(h2.kt a5 (by decide) fun j y q=>ST.kt q a5 (by decide) (by decide)).kt ks (by decide) fun j y q=>ST.kt q ks (by decide) (by decide)⟩,?_,h.l3⟩,b3,a5.1,a6⟩
 ·rw[a2]
  exact(zS w' g3 5 _ _ _ b3).trans rfl
 ·have:=h.l3
  exact(zO _ _ _ _ (show W0.heap.size≠g3 by omega)).trans (a5.2 _ _ _ (by decide) h.b2)
 ·exact(h.bl.trans a4).setCell (Nat.le_of_lt h.l3) _
theorem Ln.ap_thr (h:Ln W0 u s g3 x y t kp kt) (z:SuSz s) (hk:kt<s.cl.length) {q:Option Addr × Nat} (hq:ST W0.heap.size s.cl u kt q) {gx:Nat} (hx:u.heap[gx]?=some (.cells (rT s.cl kt q) 59 (0,0))) (ty:TypeId) :
  ∃ v w',(Builtin.append_ #[26,26] ty #[.slice t.1 kt t.2,.slice (some ⟨gx,0,none⟩) 1 1]).run Tryz.prog u=.ok v w'/\∃ g c,v=.slice (some ⟨g,0,none⟩) (kt+1) c/\Ln W0 (w'.setCell ⟨g3,6,none⟩ v) s g3 x y (some ⟨g,0,none⟩,c) kp (kt+1)/\w'.heap[g3]?=some (lnO s x y t kp kt)/\u.heap.size<=w'.heap.size:=by
 obtain⟨i,hi,hz0,hz1,hz2⟩:=info_parts bE8;obtain⟨e1,h1⟩:=h.pg;obtain⟨e2,h2⟩:=h.cl;obtain⟨v,w',a1,g,c,a2,⟨e',a3⟩,a4,a5,_⟩:=h2.app (b48 s.cl) (fun w' j y k q=>ST.kt q k (by decide) (by decide)) (t:=26) Tryz.underlying26 hi hz0 hz1 hz2 rfl (by decide) (y:=q) hq hx (by have:=z.cl;unfold maxLen;omega) (by have:=z.cl;omega) h.bl.size ty;have b3:=a5.2 g3 _ _ (by decide) h.bx;have ks:=aO4 (j:=6) b3 v;refine⟨v,w',a1,g,c,a2,⟨?_,?_,(h.st.kt a5 (by decide)).kt ks (by decide),⟨e1,(h1.kt a5 (by decide) fun j y q=>SP.kt q a5 (by decide)).kt ks (by decide) fun j y q=>SP.kt q ks (by decide)⟩,⟨e',a3.kt ks (by decide) fun j y q=>ST.kt q ks (by decide) (by decide)⟩,?_,h.l3⟩,b3,a5.1⟩
 ·rw[a2]
  exact(zS w' g3 6 _ _ _ b3).trans rfl
 ·have:=h.l3
  exact(zO _ _ _ _ (show W0.heap.size≠g3 by omega)).trans (a5.2 _ _ _ (by decide) h.b2)
 ·exact(h.bl.trans a4).setCell (Nat.le_of_lt h.l3) _
def Cs (wo wi:World) (l:List (Int × List Nat)) (q:Option Addr × Nat) (j:Nat):Prop:=(∃ e,Rw wo.heap.size wi 138 2 q j (rC l) (SC wo.heap.size l) e)/\Bl wo wi
theorem Cs.on {wo wi u:World} {l:List (Int × List Nat)} {q:Option Addr × Nat} {j:Nat} (h:Cs wo wi l q j) (k:Bl wi u):Cs wo u l q j:=by
 obtain⟨⟨e,h1⟩,h2⟩:=h;exact⟨⟨e,h1.kt (U:=3) (Kt.of_below k) (by decide) fun j y q=>SC.kt (T:=3) q (Kt.of_below k) (by decide)⟩,h2.trans (k.mono h2.size)⟩
theorem Cs.app {wo wi:World} {l:List (Int × List Nat)} {q:Option Addr × Nat} {j:Nat} (h:Cs wo wi l q j) (hl:l.length*32<=140737488355328) (hj:j<l.length) {y:Option Addr × Nat} (hy:CFl wo.heap.size wi (l.getD j (0,[])).2 y) {gx:Nat} (hx:wi.heap[gx]?=some (.cells (rC l j y) 138 (0,0))) (ty:TypeId) :
  ∃ v w',(Builtin.append_ #[59,59] ty #[.slice q.1 j q.2,.slice (some ⟨gx,0,none⟩) 1 1]).run Tryz.prog wi=.ok v w'/\∃ g c,v=.slice (some ⟨g,0,none⟩) (j+1) c/\Cs wo w' l (some ⟨g,0,none⟩,c) (j+1)/\∀ g,g<wi.heap.size->g∉fpR q.1->w'.heap[g]?=wi.heap[g]?:=by
 obtain⟨i,hi,hz0,hz1,hz2⟩:=info_parts aN3;obtain⟨⟨e,h1⟩,h2⟩:=h;obtain⟨v,w',a1,g,c,a2,a3,a4,_,a5⟩:=h1.app (b46 l) (fun w' j y k q=>SC.kt q k (by decide)) (t:=59) Tryz.underlying59 hi hz0 hz1 hz2 rfl (by decide) (y:=y) hy hx (by unfold maxLen;omega) (by omega) h2.size ty;exact⟨v,w',a1,g,c,a2,⟨a3,h2.trans a4⟩,a5⟩
theorem Cs.blw {wo wi:World} {l:List (Int × List Nat)} {q:Option Addr × Nat} {j:Nat} (h:Cs wo wi l q j):Blw wi (fpR q.1):=by
 obtain⟨⟨e,h1⟩,_⟩:=h;exact fun k hk=>(h1.own.lt k (a40.1 hk)).2
theorem Ln.blw (h:Ln W0 wr s g3 x y t kp kt):Blw wr (fpR y.1):=by
 obtain⟨e,h1⟩:=h.pg;exact fun k hk=>(h1.own.lt k (a40.1 hk)).2
theorem Cs.st {wo wi:World} {k:Nat} {q:Option Addr × Nat} (h:Cs wo wi (s.cl.getD k []) q (s.cl.getD k []).length) (hB:W0.heap.size<=wo.heap.size):ST W0.heap.size s.cl wi k q:=by
 obtain⟨⟨e,h1⟩,_⟩:=h;exact⟨e,h1.mono hB fun j y z=>CFl.mono z hB⟩
end
section
variable {w:World} {s:Su} {p:Sp}
theorem bn6 {u:World} {po:Option Addr} {l:List Nat} (co:Nat) (h:FlAt u po l) (hb:l.length*8<=140737488355328):∃ v w',(Builtin.append_ #[24,24] 24 #[.slice none 0 0,.slice po l.length co]).run Tryz.prog u=.ok v w'/\∃ p c,v=.slice p l.length c/\CFl u.heap.size w' l (p,c)/\Bl u w':=by
 obtain⟨i1,hi1,hz1,hs1,hb1⟩:=info_parts az2;obtain⟨v,w',a1,p,c,a2,a3,a4,a5⟩:=aW8 (ty:=24) (i:=i1) (z:=.float .f64 0) Tryz.underlying24 hi1 hz1 (by rw[hs1];rfl) (by rw[hs1];exact bF2 co h) (by rw[hb1];exact hb) (by omega);rw[hs1]at a3;exact⟨v,w',a1,p,c,a2,⟨a3,a4.fl⟩,a5⟩
theorem bA2 {u:World} {po:Option Addr} {l:List Ins} (co:Nat) (h:a35 u po l) (hb:l.length*24<=140737488355328):∃ v w',(Builtin.append_ #[134,134] 134 #[.slice none 0 0,.slice po l.length co]).run Tryz.prog u=.ok v w'/\∃ p c,v=.slice p l.length c/\CCd u.heap.size w' l (p,c)/\Bl u w':=by
 obtain⟨i1,hi1,hz1,hs1,hb1⟩:=info_parts aK4;obtain⟨v,w',a1,p,c,a2,a3,a4,a5⟩:=aW8 (ty:=134) (i:=i1) (z:=.agg #[.int .i64 0,.int .i64 0,.float .f64 0]) Tryz.underlying134 hi1 hz1 (by rw[hs1];rfl) (by rw[hs1];exact bl1 co h) (by rw[hb1];exact hb) (by omega);rw[hs1]at a3;exact⟨v,w',a1,p,c,a2,⟨a3,bw9 a4⟩,a5⟩
theorem bo6 {W0 wc:World} {g3:Nat} {x:Option Addr × Nat} (hb:wc.heap[g3]?=some (lnO s x (none,0) (none,0) 0 0)) (h2:wc.heap[W0.heap.size]?=some lz) (st:CFl W0.heap.size wc s.st x) (bl:Bl W0 wc) (l3:W0.heap.size<g3):Ln W0 wc s g3 x (none,0) (none,0) 0 0:=⟨hb,h2,st,⟨fun _=>(none,0),aP7 _ _ _ _ _ _ _⟩,⟨fun _=>(none,0),aP7 _ _ _ _ _ _ _⟩,bl,l3⟩
theorem Ln.new {W0 wr:World} {g3:Nat} {x y t:Option Addr × Nat} (h:Ln W0 wr s g3 x y t s.pg.length s.cl.length):SuNw W0.heap.size wr s ⟨x.1,x.2,y.1,y.2,t.1,t.2⟩:=⟨h.st,h.pg,h.cl⟩
theorem SuNw.on {B:Nat} {w u:World} {p:Sp} (h:SuNw B w s p) (k:Kt 28 w u):SuNw B u s p:=by
 obtain⟨e1,h1⟩:=h.pg;obtain⟨e2,h2⟩:=h.cl;exact⟨h.st.kt k (by decide),⟨e1,h1.kt k (by decide) fun j y q=>SP.kt q k (by decide)⟩,⟨e2,h2.kt k (by decide) fun j y q=>ST.kt q k (by decide) (by decide)⟩⟩
theorem bG6 {w:World} {x:Nat} (h:w.heap[x]?=some lz):(w.cell? ⟨x,0,none⟩=some (.int .i64 0)/\w.cell? ⟨x,1,none⟩=some (.int .i64 0)/\w.cell? ⟨x,2,none⟩=some (.int .i64 0)/\w.cell? ⟨x,3,none⟩=some (.int .i64 0)/\w.cell? ⟨x,4,none⟩=some (.slice none 0 0)/\w.cell? ⟨x,5,none⟩=some (.slice none 0 0)/\w.cell? ⟨x,6,none⟩=some (.slice none 0 0)/\x<w.heap.size)/\w.frozen? ⟨x,0,none⟩=false/\w.frozen? ⟨x,1,none⟩=false/\w.frozen? ⟨x,2,none⟩=false/\w.frozen? ⟨x,3,none⟩=false/\w.frozen? ⟨x,4,none⟩=false/\w.frozen? ⟨x,5,none⟩=false/\w.frozen? ⟨x,6,none⟩=false :=
 ⟨⟨(zR w x 0 _ _ _ h).trans rfl,(zR w x 1 _ _ _ h).trans rfl,(zR w x 2 _ _ _ h).trans rfl,(zR w x 3 _ _ _ h).trans rfl,(zR w x 4 _ _ _ h).trans rfl,(zR w x 5 _ _ _ h).trans rfl,(zR w x 6 _ _ _ h).trans rfl,lt_of_block h⟩,zZ w x 0 _ _ h,zZ w x 1 _ _ h,zZ w x 2 _ _ h,zZ w x 3 _ _ h,zZ w x 4 _ _ h,zZ w x 5 _ _ h,zZ w x 6 _ _ h⟩
theorem set7 {w:World} {x:Nat} {u0 u1 u2 u3 u4 u5 u6:Value} (h:w.heap[x]?=some lz):(((((((w.setCell ⟨x,0,none⟩ u0).setCell ⟨x,1,none⟩ u1).setCell ⟨x,2,none⟩ u2).setCell ⟨x,3,none⟩ u3).setCell ⟨x,4,none⟩ u4).setCell ⟨x,5,none⟩ u5).setCell ⟨x,6,none⟩ u6).heap[x]?=some (.cells #[u0,u1,u2,u3,u4,u5,u6] 28 (0,0)):=by
 have e0:=zS w x 0 _ _ u0 h;have e1:=zS _ x 1 _ _ u1 e0;have e2:=zS _ x 2 _ _ u2 e1;have e3:=zS _ x 3 _ _ u3 e2;have e4:=zS _ x 4 _ _ u4 e3;have e5:=zS _ x 5 _ _ u5 e4;exact(zS _ x 6 _ _ u6 e5).trans rfl
theorem oth7 {w:World} {x y:Nat} {u0 u1 u2 u3 u4 u5 u6:Value} (h:y≠x):(((((((w.setCell ⟨x,0,none⟩ u0).setCell ⟨x,1,none⟩ u1).setCell ⟨x,2,none⟩ u2).setCell ⟨x,3,none⟩ u3).setCell ⟨x,4,none⟩ u4).setCell ⟨x,5,none⟩ u5).setCell ⟨x,6,none⟩ u6).heap[y]?=w.heap[y]?:=by
 rw[zO _ _ _ _ h,zO _ _ _ _ h,zO _ _ _ _ h,zO _ _ _ _ h,zO _ _ _ _ h,zO _ _ _ _ h,zO _ _ _ _ h]
theorem aO5 (h:SuAt w s p) (z:SuSz s):Calls Tryz.prog 30 #[.agg (suC s p)] w fun r w'=>∃ p',r=.returned (.agg (suC s p'))/\Hid (SuNw (w.heap.size+1) w' s p'/\Bl w w'):=by
 have HB:=zH (ao9 w s p);obtain⟨W0,hW0⟩:∃ W0,W0=w.alloc (suO s p):=⟨_,rfl⟩
 have hsz0:W0.heap.size=w.heap.size+1:=by rw[hW0];simp
 rw[<- hW0]at HB;have HX:Hid (∀ u,Bl W0 u->SuAt u s p/\u.heap[w.heap.size]?=some (suO s p)/\Bl w u):=fun u hu=>⟨(h.on HB.out.1).on hu,(hu.block _ (lt_of_block HB.out.2)).trans HB.out.2,HB.out.1.trans (hu.mono HB.out.1.size)⟩
 have HZ:=zH z;have HA1:Hid (∀ u,Bl W0 u->∃ v w',(Builtin.append_ #[24,24] 24 #[.slice none 0 0,.slice p.ps s.st.length p.cs]).run Tryz.prog u=.ok v w'/\∃ p c,v=.slice p s.st.length c/\CFl u.heap.size w' s.st (p,c)/\Bl u w'):=fun u hu=>bn6 p.cs (HX.out u hu).1.st z.st
 have l1:=h.l1;have l2:=h.l2;have l3:=h.l3;clear h z;go_enter Tryz.func30,Tryz.ntmps30
 go_upto_region 1 with fail
 rw[show w.alloc (.cells (suC s p) 28)=W0 from hW0.symm];clear hW0;obtain⟨W1,hW1⟩:∃ W1,W1=W0.alloc lz:=⟨_,rfl⟩
 rw[show W0.alloc (.cells #[.int .i64 0,.int .i64 0,.int .i64 0,.int .i64 0,.slice none 0 0,.slice none 0 0,.slice none 0 0] 28)=W1 from hW1.symm];have HW1:Hid (Bl W0 W1/\W1.heap[W0.heap.size]?=some lz):=by rw[hW1];exact⟨below_alloc _ _,zN _ _⟩
 clear hW1
 go_cut [3] (fun v3 wc=>∃ g3 p1 c1,v3=.pointer (some ⟨g3,0,none⟩)/\Hid (Ln W0 wc s g3 (p1,c1) (none,0) (none,0) 0 0))
 case first =>
  have HSS:Hid (∀ u,Bl W1 u->u.cell? ⟨w.heap.size,0,none⟩=some (.int .i64 s.a)/\u.cell? ⟨w.heap.size,1,none⟩=some (.int .i64 s.b)/\u.cell? ⟨w.heap.size,2,none⟩=some (.int .i64 s.c)/\u.cell? ⟨w.heap.size,3,none⟩=some (.int .i64 s.e)/\u.cell? ⟨w.heap.size,4,none⟩=some (.slice p.ps s.st.length p.cs)):=fun u hu=>by
   obtain⟨s0,s1,s2,s3,s4,_,_,_⟩:=a46 (HX.out u (a06 HW1.out.1 hu)).2.1;exact⟨s0,s1,s2,s3,s4⟩
  refine an8 (fun u=>u.cell? ⟨w.heap.size,0,none⟩=some (.int .i64 s.a)/\u.cell? ⟨w.heap.size,1,none⟩=some (.int .i64 s.b)/\u.cell? ⟨w.heap.size,2,none⟩=some (.int .i64 s.c)/\u.cell? ⟨w.heap.size,3,none⟩=some (.int .i64 s.e)/\u.cell? ⟨w.heap.size,4,none⟩=some (.slice p.ps s.st.length p.cs)) [0,1,2,3] 4 [(5,true),(6,false),(7,false)] 6 [(4,false),(5,true),(7,false)] Md.Cv.follows13 (by kernel_rfl) (fun _ _ _ _ _ h=>h) (HSS.out _ ((Same.drew W1).below _)) ?_
  repeat (refine ay2 (v:=?_) rfl (by rfl) (fun wq hSq=>?_) ?_;rotate_left;(focus ((try dsimp only at hSq);go_simp;try with_reducible rfl));simp only[Act.put,zA,zB,zC])
  refine aI5 ?_ ?_
  ·refine a04 rfl (by rfl) (fun KK hK=>?_)
   refine a57 _ _ 24 24 rfl (.slice none 0 0) (.slice p.ps s.st.length p.cs) rfl rfl (HA1.out _ (HW1.out.1.trans ((Same.drew W1).below _))) ?_;rintro v u2 ⟨p1,c1,rfl,q1,q3⟩;have q4:Bl W1 u2:=((Same.drew W1).below _).trans q3;refine hK.out _ _ (HSS.out _ q4) ?_
   (clear hK KK;try simp only[Act.put,zA,zB,zC])
   (repeat ((first | (refine a02 (v:=?_) rfl (by rfl) (fun wq hSq=>?_) ?_;rotate_left;(focus ((try dsimp only at hSq);go_simp;try with_reducible rfl))) | refine a03 rfl (by rfl) ?_);simp only[Act.put,zA,zB,zC]))
   (refine a04 rfl (by rfl) (fun KK hK=>?_);go_simp)
   refine hK.out _ _ (HSS.out _ (q4.alloc q4.size _)) ?_
   (clear hK KK;try simp only[Act.put,zA,zB,zC])
   (refine a04 rfl (by rfl) (fun KK hK=>?_);go_simp)
   refine hK.out _ _ (HSS.out _ (q4.alloc q4.size _)) ?_
   (clear hK KK;try simp only[Act.put])
   refine a07 ?_;have HH:Hid (Ln W0 (u2.alloc (lnO s (p1,c1) (none,0) (none,0) 0 0)) s u2.heap.size (p1,c1) (none,0) (none,0) 0 0):=by
    have l:=lt_of_block HW1.out.2;have l1:=q4.size;have b:=q4.alloc q4.size (lnO s (p1,c1) (none,0) (none,0) 0 0);exact bo6 (zN _ _) ((b.block _ l).trans HW1.out.2) ((q1.mono (show W0.heap.size<=W1.heap.size from HW1.out.1.size)).kt (T:=3) (Kt.of_below (below_alloc _ _)) (by decide)) (a06 HW1.out.1 b) (by omega)
   go_wp2_with fail
   go_meet
   exact⟨_,p1,c1,rfl,HH.out⟩
  ·(refine a04 rfl (by rfl) (fun KK hK=>?_);go_simp)
   obtain⟨v1,hv1⟩:∃ v1,v1=(W1.alloc lz).drew:=⟨_,rfl⟩
   have k5:Bl W1 v1:=by rw[hv1];exact(below_alloc _ _).trans ((Same.drew _).below _)
   have x5:v1.heap[W1.heap.size]?=some lz:=by rw[hv1];exact zN _ _
   rw[<- hv1];clear hv1;refine hK.out _ _ (HSS.out _ k5) ?_
   (clear hK KK;try simp only[Act.put,zA,zB,zC])
   refine a04 rfl (by rfl) (fun KK hK=>?_);refine a57 _ _ 24 24 rfl (.slice none 0 0) (.slice p.ps s.st.length p.cs) rfl rfl (HA1.out _ (a06 HW1.out.1 k5)) ?_;rintro v u2 ⟨p1,c1,rfl,q1,q3⟩;have q4:Bl W1 u2:=k5.trans (q3.mono k5.size);have x6:u2.heap[W1.heap.size]?=some lz:=(q3.block _ (lt_of_block x5)).trans x5;obtain⟨⟨s0,s1,s2,s3,s4,s5,s6,lg⟩,f0,f1,f2,f3,f4,f5,f6⟩:=bG6 x6;refine hK.out _ _ (HSS.out _ q4) ?_
   (clear hK KK;try simp only[Act.put,zA,zB,zC])
   (repeat ((first | (refine a02 (v:=?_) rfl (by rfl) (fun wq hSq=>?_) ?_;rotate_left;(focus ((try dsimp only at hSq);go_simp;try with_reducible rfl))) | refine a03 rfl (by rfl) ?_);simp only[Act.put,zA,zB,zC]))
   (refine a04 rfl (by rfl) (fun KK hK=>?_);go_simp)
   obtain⟨u3,hu3⟩:∃ u3,u3=((((((u2.setCell ⟨W1.heap.size,0,none⟩ (.int .i64 s.a)).setCell ⟨W1.heap.size,1,none⟩ (.int .i64 s.b)).setCell ⟨W1.heap.size,2,none⟩ (.int .i64 s.c)).setCell ⟨W1.heap.size,3,none⟩ (.int .i64 s.e)).setCell ⟨W1.heap.size,4,none⟩ (.slice p1 s.st.length c1)).setCell ⟨W1.heap.size,5,none⟩ (.slice none 0 0)).setCell ⟨W1.heap.size,6,none⟩ (.slice none 0 0):=⟨_,rfl⟩
   have q5:Bl W1 u3:=by
    rw[hu3];exact((((((q4.setCell (zE _) _).setCell (zE _) _).setCell (zE _) _).setCell (zE _) _).setCell (zE _) _).setCell (zE _) _).setCell (zE _) _
   have HH:Hid (Ln W0 u3 s W1.heap.size (p1,c1) (none,0) (none,0) 0 0):=by
    have l:=lt_of_block HW1.out.2;have l1:=k5.size;refine bo6 (by rw[hu3];exact set7 x6) ((q5.block _ l).trans HW1.out.2) ((q1.mono (show W0.heap.size<=v1.heap.size by omega)).kt (T:=28) ⟨by rw[hu3];simp,fun g arr U hU hg=>?_⟩ (by decide)) (a06 HW1.out.1 q5) l;have ne:g≠W1.heap.size:=fun e=>by
     rw[e,x6]at hg;injection hg with hg;injection hg with _ hg;exact hU hg.symm
    rw[hu3];exact(oth7 ne).trans hg
   rw[<- hu3];refine hK.out _ _ (HSS.out _ q5) ?_
   (clear hK KK;try simp only[Act.put])
   refine a07 ?_;clear hu3;go_wp2_with fail
   go_meet
   exact⟨_,p1,c1,rfl,HH.out⟩
 case rest =>
  obtain⟨g3,p1,c1,rfl,HL0⟩:=hcut;have HCC:Hid (∀ u x y t kp kt,Ln W0 u s g3 x y t kp kt->u.cell? ⟨w.heap.size,5,none⟩=some (.slice p.pp s.pg.length p.cp)/\u.cell? ⟨w.heap.size,6,none⟩=some (.slice p.pt s.cl.length p.ct)/\w.heap.size<u.heap.size/\g3<u.heap.size):=fun u x y t kp kt hu=>by
   obtain⟨_,_,_,_,_,c5,c6,c7⟩:=a46 (HX.out u hu.bl).2.1;exact⟨c5,c6,c7,lt_of_block hu.bx⟩
  obtain⟨c5,c6,ls,lg3⟩:=HCC.out _ _ _ _ _ _ HL0.out;clear HW1 HA1;go_wp2_with fail;clear c5 c6 ls lg3
  go_loopw [20] (fun v20 wr=>∃ k:Nat,v20=.int .i64 (k:Int)/\k<=s.pg.length/\Hid (∃ py cy,Ln W0 wr s g3 (p1,c1) (py,cy) (none,0) k 0)) (fun v20 _=>s.pg.length - (intOf v20).toNat)
  case atStart=>exact⟨0,rfl,zV _,none,0,HL0.out⟩
  case round =>
   obtain⟨k,rfl,hk,HR⟩:=hrel;clear HL0
   by_cases hlt:k<s.pg.length
   ·have hlt':(k:Int)<(s.pg.length:Int):=by omega
    obtain⟨py,cy,hl⟩:=HR.out;have HL:=zH hl;obtain⟨g,o,po,c,e,hg,d0,d1,cc,_,lx⟩:=(HX.out _ hl.bl).1.pg k hlt;have HCP:Hid (∀ u,Bl wr u->∃ v w',(Builtin.append_ #[134,134] 134 #[.slice none 0 0,.slice po (s.pg.getD k (0,[])).2.length c]).run Tryz.prog u=.ok v w'/\∃ p c,v=.slice p (s.pg.getD k (0,[])).2.length c/\CCd u.heap.size w' (s.pg.getD k (0,[])).2 (p,c)/\Bl u w'):=fun u hu=>bA2 c (cc.on hu) (HZ.out.cd _ (aa4 (0,[]) hlt))
    have HAP:Hid (∀ u q gx,Ln W0 u s g3 (p1,c1) (py,cy) (none,0) k 0->CCd W0.heap.size u (s.pg.getD k (0,[])).2 q->u.heap[gx]?=some (.cells #[.int .i64 (s.pg.getD k (0,[])).1,.slice q.1 (s.pg.getD k (0,[])).2.length q.2] 136 (0,0))->∃ v w',(Builtin.append_ #[25,25] 25 #[.slice py k cy,.slice (some ⟨gx,0,none⟩) 1 1]).run Tryz.prog u=.ok v w'/\∃ g c,v=.slice (some ⟨g,0,none⟩) (k+1) c/\Ln W0 (w'.setCell ⟨g3,5,none⟩ v) s g3 (p1,c1) (some ⟨g,0,none⟩,c) (none,0) (k+1) 0/\w'.heap[g3]?=some (lnO s (p1,c1) (py,cy) (none,0) k 0)/\u.heap.size<=w'.heap.size/\∀ g,g<u.heap.size->g∉fpR py->w'.heap[g]?=u.heap[g]?):=fun u q gx hu hq hx=>hu.ap_prog HZ.out hlt hq hx _
    obtain⟨x1,hx1⟩:∃ x1,(s.pg.getD k (0,[])).1=x1:=⟨_,rfl⟩
    obtain⟨x2,hx2⟩:∃ x2,(s.pg.getD k (0,[])).2.length=x2:=⟨_,rfl⟩
    rw[hx1]at d0 HAP;rw[hx2]at d1 lx HCP HAP;clear cc hx1 hx2 hl;rw[e]
    go_upto_region 5 with fail
    obtain⟨gb,hgb⟩:∃ gb,wr.heap.size=gb:=⟨_,rfl⟩
    obtain⟨w1,hw1⟩:∃ w1,w1=wr.alloc (.cells #[.int .i64 x1,.slice po x2 c] 136):=⟨_,rfl⟩
    rw[<- hw1,hgb];have H1:Hid (Bl wr w1/\w1.heap[gb]?=some (.cells #[.int .i64 x1,.slice po x2 c] 136 (0,0))/\gb∉fpR py):=by
     rw[hw1,<- hgb];exact⟨below_alloc _ _,zN _ _,fun q=>absurd (HL.out.blw _ q) (Nat.lt_irrefl _)⟩
    have HS:Hid (∀ u,Bl w1 u->(u.cell? ⟨g3,5,none⟩=some (.slice py k cy)/\u.cell? ⟨gb,0,none⟩=some (.int .i64 x1)/\u.cell? ⟨gb,1,none⟩=some (.slice po x2 c))/\Ln W0 u s g3 (p1,c1) (py,cy) (none,0) k 0/\u.heap[gb]?=some (.cells #[.int .i64 x1,.slice po x2 c] 136 (0,0))/\g3<u.heap.size/\gb<u.heap.size):=fun u hu=>by
     have hl:=HL.out.on (H1.out.1.trans (hu.mono H1.out.1.size));have hb:=(hu.block _ (lt_of_block H1.out.2.1)).trans H1.out.2.1;exact⟨⟨(zR u g3 5 _ _ _ hl.bx).trans rfl,(zR u gb 0 _ _ _ hb).trans rfl,(zR u gb 1 _ _ _ hb).trans rfl⟩,hl,hb,lt_of_block hl.bx,lt_of_block hb⟩
    clear hw1 hgb d0 d1 hg;obtain⟨⟨y5,t0,t1⟩,_,_,lg3,lgb⟩:=HS.out w1 (zF _ _);refine a32 (fun u=>u.cell? ⟨g3,5,none⟩=some (.slice py k cy)/\u.cell? ⟨gb,0,none⟩=some (.int .i64 x1)/\u.cell? ⟨gb,1,none⟩=some (.slice po x2 c) )  ((0,true)::(1,true)::(2,true)::(3,true)::(4,true)::(5,true)::(6,false)::(7,true)::(8,false)::(9,false)::(10,true)::(11,false)::[])  Md.Cv.follows13 (by kernel_rfl) (fun _ _ _ _ _ h=>h)  ⟨y5,t0,t1⟩ ?_
    (repeat (refine a23 (v:=?_) rfl (by rfl) (fun wq hSq=>?_) ?_;rotate_left;(focus ((try dsimp only at hSq);go_simp;try with_reducible rfl));simp only[Act.put,zA,zB,zC]))
    clear y5 t0 t1 lg3 lgb;refine a20 rfl (by rfl) (fun KK hK=>?_);refine a57 _ _ 134 134 rfl (.slice none 0 0) (.slice po x2 c) rfl rfl (HCP.out _ (H1.out.1.trans ((Same.drew w1).below _))) ?_;rintro v u2 ⟨p2,c2,rfl,q1,q3⟩;have q4:Bl w1 u2:=((Same.drew w1).below _).trans q3;refine hK.out _ _ (fun _=>(HS.out u2 q4).1) ?_
    (clear hK KK;try simp only[Act.put,zA,zB,zC])
    (repeat (refine a23 (v:=?_) rfl (by rfl) (fun wq hSq=>?_) ?_;rotate_left;(focus ((try dsimp only at hSq);go_simp;try with_reducible rfl));simp only[Act.put,zA,zB,zC]))
    (refine a20 rfl (by rfl) (fun KK hK=>?_);go_simp)
    have q5:∀ ob,Bl w1 (u2.alloc ob):=fun ob=>q4.alloc q4.size ob
    refine hK.out _ _ (fun _=>(HS.out _ (q5 _)).1) ?_
    (clear hK KK;try simp only[Act.put,zA,zB,zC])
    refine a20 rfl (by rfl) (fun KK hK=>?_);refine a57 _ _ 25 25 rfl (.slice py k cy) (.slice (some ⟨u2.heap.size,0,none⟩) 1 1) rfl rfl (HAP.out (u2.alloc (.cells #[.int .i64 x1,.slice p2 x2 c2] 136)) (p2,c2) u2.heap.size (HS.out _ (q5 _)).2.1 ((q1.mono (zQ HL.out.bl.size H1.out.1.size)).kt (T:=3) (Kt.of_below (below_alloc _ _)) (by decide)) (zN _ _)) ?_;rintro v3 u3 ⟨g5,c5,rfl,m1,m2,m3,m4⟩;have e5:=(zR u3 g3 5 _ _ _ m2).trans (rfl:_=some (Value.slice py k cy));have f5:=zZ u3 g3 5 _ _ m2;have lg3:=lt_of_block m2;have eb:=(m4 gb (lt_of_block (HS.out _ (q5 _)).2.2.1) H1.out.2.2).trans (HS.out _ (q5 _)).2.2.1;refine hK.out _ _ (fun _=>⟨e5,(zR u3 gb 0 _ _ _ eb).trans rfl,(zR u3 gb 1 _ _ _ eb).trans rfl⟩) ?_;have HN:=zH m1;clear m1 m2 m3 m4 eb q1 q3
    (clear hK KK;try simp only[Act.put,zA,zB,zC])
    (repeat (refine a23 (v:=?_) rfl (by rfl) (fun wq hSq=>?_) ?_;rotate_left;(focus ((try dsimp only at hSq);go_simp;try with_reducible rfl));simp only[Act.put,zA,zB,zC]))
    (refine a20 rfl (by rfl) (fun KK hK=>?_);go_simp)
    refine hK.out _ _ (fun hn=>absurd rfl hn) ?_
    (clear hK KK;try simp only[Act.put])
    refine a54 ?_;clear e5 f5 lg3;go_wp2_with fail;exact⟨⟨k+1,by first | rfl | (congr 1),by omega,_,_,HN.out⟩,by simp[intOf];omega⟩
   ·have hlt':¬ (k:Int)<(s.pg.length:Int):=by omega
    have hk':k=s.pg.length:=by omega
    obtain⟨py,cy,hl⟩:=HR.out;have HL:Hid (Ln W0 wr s g3 (p1,c1) (py,cy) (none,0) s.pg.length 0):=by rw[<- hk'];exact hl
    obtain⟨c5,c6,ls,lg3⟩:=HCC.out _ _ _ _ _ _ hl;clear hl HR hk';go_wp2_with fail;clear c5 c6 ls lg3 hlt hlt' hk
    go_loopw [39] (fun v39 wr=>∃ k:Nat,v39=.int .i64 (k:Int)/\k<=s.cl.length/\Hid (∃ pt ct,Ln W0 wr s g3 (p1,c1) (py,cy) (pt,ct) s.pg.length k)) (fun v39 _=>s.cl.length - (intOf v39).toNat)
    case atStart=>exact⟨0,rfl,zV _,none,0,HL.out⟩
    case round =>
     clear HL;obtain⟨k,rfl,hk,HR⟩:=hrel
     by_cases hlt:k<s.cl.length
     ·have hlt':(k:Int)<(s.cl.length:Int):=by omega
      obtain⟨pt,ct,hl⟩:=HR.out;have HL:=zH hl;obtain⟨g,o,qa,c,e,hg,d0,ca,ln⟩:=(HX.out _ hl.bl).1.cl k hlt;have hb:=HZ.out.ca _ (aa4 [] hlt);have HAR:=zH (HZ.out.ar _ (aa4 [] hlt));have HST:Hid (∀ wo wi q,Cs wo wi (s.cl.getD k []) q (s.cl.getD k []).length->W0.heap.size<=wo.heap.size->ST W0.heap.size s.cl wi k q):=fun wo wi q h1 h2=>h1.st h2
      have HRT:Hid (∀ q,rT s.cl k q=#[.slice q.1 (s.cl.getD k []).length q.2]):=fun q=>rfl
      obtain⟨l,hl2⟩:∃ l,s.cl.getD k []=l:=⟨_,rfl⟩
      rw[hl2]at d0 ca ln hb HAR HST HRT;obtain⟨m,hm⟩:∃ m,l.length=m:=⟨_,rfl⟩
      rw[hm]at d0 ln hb HST HRT;have HCA:=zH ca;have HM:=zH hm;have hb':(m:Int)<=9223372036854775807:=by omega
      have HHB:=zH hb;obtain⟨wo,hwo⟩:∃ wo,wo=wr:=⟨_,rfl⟩
      rw[<- hwo]at HL d0 hg HCA ⊢;clear hl hl2 hm ca hwo hb HR;rw[e];go_wp2_with fail;clear d0 hg
      go_loopw [8,45] (fun v8 v45 wi=>∃ (j:Nat) (q1:Option Addr) (q2:Nat),v45=.int .i64 (j:Int)/\v8=.slice q1 j q2/\j<=m/\Hid (Cs wo wi l (q1,q2) j)) (fun _ v45 _=>m - (intOf v45).toNat)
      case atStart=>exact⟨0,none,0,rfl,rfl,zV _,⟨fun _=>(none,0),aP7 _ _ _ _ _ _ _⟩,zF _ _⟩
      case round =>
       obtain⟨j,q1,q2,rfl,rfl,hj,HI⟩:=hrel
       by_cases hjt:j<m
       ·have hjt':(j:Int)<(m:Int):=by omega
        obtain⟨g2,o2,po,cc,e2,hg2,d0,d1,fl,_,lx⟩:=(HCA.out.on HI.out.2) j (by rw[HM.out];exact hjt);have hjl:j<l.length:=by rw[HM.out];exact hjt
        have HCP:Hid (∀ u,Bl wr u->∃ v w',(Builtin.append_ #[24,24] 24 #[.slice none 0 0,.slice po (l.getD j (0,[])).2.length cc]).run Tryz.prog u=.ok v w'/\∃ p c,v=.slice p (l.getD j (0,[])).2.length c/\CFl u.heap.size w' (l.getD j (0,[])).2 (p,c)/\Bl u w'):=fun u hu=>bn6 cc (fl.on hu) (HAR.out _ (aa4 (0,[]) hjl))
        have HAP:Hid (∀ u y gx,Cs wo u l (q1,q2) j->CFl wo.heap.size u (l.getD j (0,[])).2 y->u.heap[gx]?=some (.cells #[.int .i64 (l.getD j (0,[])).1,.slice y.1 (l.getD j (0,[])).2.length y.2] 138 (0,0))->∃ v w',(Builtin.append_ #[59,59] 59 #[.slice q1 j q2,.slice (some ⟨gx,0,none⟩) 1 1]).run Tryz.prog u=.ok v w'/\∃ g c,v=.slice (some ⟨g,0,none⟩) (j+1) c/\Cs wo w' l (some ⟨g,0,none⟩,c) (j+1)/\∀ g,g<u.heap.size->g∉fpR q1->w'.heap[g]?=u.heap[g]?):=fun u y gx hu hy hx=>hu.app (by rw[HM.out];exact HHB.out) hjl hy hx _
        obtain⟨x1,hx1⟩:∃ x1,(l.getD j (0,[])).1=x1:=⟨_,rfl⟩
        obtain⟨x2,hx2⟩:∃ x2,(l.getD j (0,[])).2.length=x2:=⟨_,rfl⟩
        rw[hx1]at d0 HAP;rw[hx2]at d1 lx HCP HAP;clear fl hx1 hx2;subst e2
        go_upto_region 14 with fail
        obtain⟨gb,hgb⟩:∃ gb,wr.heap.size=gb:=⟨_,rfl⟩
        obtain⟨w1,hw1⟩:∃ w1,w1=wr.alloc (.cells #[.int .i64 x1,.slice po x2 cc] 138):=⟨_,rfl⟩
        rw[<- hw1,hgb];have H1:Hid (Bl wr w1/\w1.heap[gb]?=some (.cells #[.int .i64 x1,.slice po x2 cc] 138 (0,0))/\gb∉fpR q1):=by
         rw[hw1,<- hgb];exact⟨below_alloc _ _,zN _ _,fun q=>absurd (HI.out.blw _ q) (Nat.lt_irrefl _)⟩
        have HS:Hid (∀ u,Bl w1 u->(u.cell? ⟨gb,0,none⟩=some (.int .i64 x1)/\u.cell? ⟨gb,1,none⟩=some (.slice po x2 cc))/\Cs wo u l (q1,q2) j/\u.heap[gb]?=some (.cells #[.int .i64 x1,.slice po x2 cc] 138 (0,0))/\gb<u.heap.size):=fun u hu=>by
         have hl:=HI.out.on (H1.out.1.trans (hu.mono H1.out.1.size));have hb:=(hu.block _ (lt_of_block H1.out.2.1)).trans H1.out.2.1;exact⟨⟨(zR u gb 0 _ _ _ hb).trans rfl,(zR u gb 1 _ _ _ hb).trans rfl⟩,hl,hb,lt_of_block hb⟩
        clear hw1 hgb d0 d1 hg2;obtain⟨⟨t0,t1⟩,_,_,lgb⟩:=HS.out w1 (zF _ _);refine a32 (fun u=>u.cell? ⟨gb,0,none⟩=some (.int .i64 x1)/\u.cell? ⟨gb,1,none⟩=some (.slice po x2 cc) )  ((0,true)::(1,true)::(2,true)::(3,true)::(4,true)::(5,false)::(6,true)::(7,false)::(8,false)::(9,false)::[])  Md.Cv.follows13 (by kernel_rfl) (fun _ _ _ _ _ h=>h)  ⟨t0,t1⟩ ?_
        (repeat (refine a23 (v:=?_) rfl (by rfl) (fun wq hSq=>?_) ?_;rotate_left;(focus ((try dsimp only at hSq);go_simp;try with_reducible rfl));simp only[Act.put,zA,zB,zC]))
        clear t0 t1 lgb;refine a20 rfl (by rfl) (fun KK hK=>?_);refine a57 _ _ 24 24 rfl (.slice none 0 0) (.slice po x2 cc) rfl rfl (HCP.out _ (H1.out.1.trans ((Same.drew w1).below _))) ?_;rintro v u2 ⟨p2,c2,rfl,r1,r3⟩;have r4:Bl w1 u2:=((Same.drew w1).below _).trans r3;refine hK.out _ _ (fun _=>(HS.out u2 r4).1) ?_
        (clear hK KK;try simp only[Act.put,zA,zB,zC])
        (repeat (refine a23 (v:=?_) rfl (by rfl) (fun wq hSq=>?_) ?_;rotate_left;(focus ((try dsimp only at hSq);go_simp;try with_reducible rfl));simp only[Act.put,zA,zB,zC]))
        (refine a20 rfl (by rfl) (fun KK hK=>?_);go_simp)
        have r5:∀ ob,Bl w1 (u2.alloc ob):=fun ob=>r4.alloc r4.size ob
        refine hK.out _ _ (fun _=>(HS.out _ (r5 _)).1) ?_
        (clear hK KK;try simp only[Act.put,zA,zB,zC])
        refine a20 rfl (by rfl) (fun KK hK=>?_);refine a57 _ _ 59 59 rfl (.slice q1 j q2) (.slice (some ⟨u2.heap.size,0,none⟩) 1 1) rfl rfl (HAP.out (u2.alloc (.cells #[.int .i64 x1,.slice p2 x2 c2] 138)) (p2,c2) u2.heap.size (HS.out _ (r5 _)).2.1 ((r1.mono (zQ HI.out.2.size H1.out.1.size)).kt (T:=3) (Kt.of_below (below_alloc _ _)) (by decide)) (zN _ _)) ?_;rintro v3 u3 ⟨g5,c5,rfl,m1,m4⟩;have eb:=(m4 gb (lt_of_block (HS.out _ (r5 _)).2.2.1) H1.out.2.2).trans (HS.out _ (r5 _)).2.2.1;refine hK.out _ _ (fun _=>⟨(zR u3 gb 0 _ _ _ eb).trans rfl,(zR u3 gb 1 _ _ _ eb).trans rfl⟩) ?_;have HN:=zH m1;clear m1 m4 eb r1 r3
        (clear hK KK;try simp only[Act.put,zA,zB,zC])
        (refine a20 rfl (by rfl) (fun KK hK=>?_);go_simp)
        refine hK.out _ _ (fun hn=>absurd rfl hn) ?_
        (clear hK KK;try simp only[Act.put,zA,zB,zC])
        refine a54 ?_;go_wp2_with fail;exact⟨⟨j+1,_,_,by first | rfl | (congr 1),rfl,by omega,HN.out⟩,by simp[intOf];omega⟩
       ·have hjt':¬ (j:Int)<(m:Int):=by omega
        have hjm:j=m:=by omega
        subst hjm;have HLL:Hid (∀ u,Bl wr u->Ln W0 u s g3 (p1,c1) (py,cy) (pt,ct) s.pg.length k/\u.cell? ⟨g3,6,none⟩=some (.slice pt k ct)/\g3<u.heap.size/\ST W0.heap.size s.cl u k (q1,q2)):=fun u hu=>by
         have hl:=HL.out.on (HI.out.2.trans (hu.mono HI.out.2.size));exact⟨hl,(zR u g3 6 _ _ _ hl.bx).trans rfl,lt_of_block hl.bx,HST.out wo u _ (HI.out.on hu) HL.out.bl.size⟩
        obtain⟨_,y6,lg3,_⟩:=HLL.out wr (zF _ _);have HAP:Hid (∃ v w',(Builtin.append_ #[26,26] 26 #[.slice pt k ct,.slice (some ⟨wr.heap.size,0,none⟩) 1 1]).run Tryz.prog (wr.alloc (.cells #[.slice q1 j q2] 59))=.ok v w'/\∃ g c,v=.slice (some ⟨g,0,none⟩) (k+1) c/\Ln W0 (w'.setCell ⟨g3,6,none⟩ v) s g3 (p1,c1) (py,cy) (some ⟨g,0,none⟩,c) s.pg.length (k+1)/\w'.heap[g3]?=some (lnO s (p1,c1) (py,cy) (pt,ct) s.pg.length k)/\(wr.alloc (.cells #[.slice q1 j q2] 59)).heap.size<=w'.heap.size) :=
         (HLL.out _ (below_alloc _ _)).1.ap_thr HZ.out hlt (HLL.out _ (below_alloc _ _)).2.2.2 (gx:=wr.heap.size) (by rw[HRT.out];exact zN _ _) _
        clear HCA HM HHB HAR HST HRT HLL
        go_upto_region 17 with(at_builtin;refine aa8 rfl _ _ 26 26 rfl (.slice pt k ct) (.slice (some ⟨wr.heap.size,0,none⟩) 1 1) rfl rfl HAP.out ?_;rintro v u3 ⟨g5,c5,rfl,m1,m2,m3⟩;have e6:=(zR u3 g3 6 _ _ _ m2).trans (rfl:_=some (Value.slice pt k ct));have f6:=zZ u3 g3 6 _ _ m2;have l6:=lt_of_block m2;have HN:=zH m1;clear m1 m2 m3)
        go_wp2_with fail;exact⟨⟨k+1,by first | rfl | (congr 1),by omega,_,_,HN.out⟩,by simp[intOf];omega⟩
     ·have hlt':¬ (k:Int)<(s.cl.length:Int):=by omega
      have hk':k=s.cl.length:=by omega
      subst hk';obtain⟨pt,ct,hl⟩:=HR.out;have HL:=zH hl;have hb2:=hl.b2;rw[hsz0]at hb2;obtain⟨⟨s0,s1,s2,s3,s4,s5,s6,lg⟩,f0,f1,f2,f3,f4,f5,f6⟩:=bG6 hb2;have hbx:=hl.bx;obtain⟨r0,r1,r2,r3,r4,r5,r6,r7⟩:wr.cell? ⟨g3,0,none⟩=some (.int .i64 s.a)/\wr.cell? ⟨g3,1,none⟩=some (.int .i64 s.b)/\wr.cell? ⟨g3,2,none⟩=some (.int .i64 s.c)/\wr.cell? ⟨g3,3,none⟩=some (.int .i64 s.e)/\wr.cell? ⟨g3,4,none⟩=some (.slice p1 s.st.length c1)/\wr.cell? ⟨g3,5,none⟩=some (.slice py s.pg.length cy)/\wr.cell? ⟨g3,6,none⟩=some (.slice pt s.cl.length ct)/\g3<wr.heap.size:=⟨(zR wr g3 0 _ _ _ hbx).trans rfl,(zR wr g3 1 _ _ _ hbx).trans rfl,(zR wr g3 2 _ _ _ hbx).trans rfl,(zR wr g3 3 _ _ _ hbx).trans rfl,(zR wr g3 4 _ _ _ hbx).trans rfl,(zR wr g3 5 _ _ _ hbx).trans rfl,(zR wr g3 6 _ _ _ hbx).trans rfl,lt_of_block hbx⟩;have HB2:=zH hb2;clear hbx hl HR hb2;go_wp2_with fail;have HF:Hid (SuNw (w.heap.size+1) (((((((wr.setCell ⟨w.heap.size+1,0,none⟩ (.int .i64 s.a)).setCell ⟨w.heap.size+1,1,none⟩ (.int .i64 s.b)).setCell ⟨w.heap.size+1,2,none⟩ (.int .i64 s.c)).setCell ⟨w.heap.size+1,3,none⟩ (.int .i64 s.e)).setCell ⟨w.heap.size+1,4,none⟩ (.slice p1 s.st.length c1)).setCell ⟨w.heap.size+1,5,none⟩ (.slice py s.pg.length cy)).setCell ⟨w.heap.size+1,6,none⟩ (.slice pt s.cl.length ct)) s ⟨p1,c1,py,cy,pt,ct⟩/\Bl w (((((((wr.setCell ⟨w.heap.size+1,0,none⟩ (.int .i64 s.a)).setCell ⟨w.heap.size+1,1,none⟩ (.int .i64 s.b)).setCell ⟨w.heap.size+1,2,none⟩ (.int .i64 s.c)).setCell ⟨w.heap.size+1,3,none⟩ (.int .i64 s.e)).setCell ⟨w.heap.size+1,4,none⟩ (.slice p1 s.st.length c1)).setCell ⟨w.heap.size+1,5,none⟩ (.slice py s.pg.length cy)).setCell ⟨w.heap.size+1,6,none⟩ (.slice pt s.cl.length ct))):=by
       have b:=(HX.out _ HL.out.bl).2.2;have n:=HL.out.new;rw[hsz0]at n;have l:w.heap.size<=w.heap.size+1:=by omega
       refine⟨n.on ⟨by simp,fun g arr U hU hg=>?_⟩,((((((b.setCell l _).setCell l _).setCell l _).setCell l _).setCell l _).setCell l _).setCell l _⟩;have ne:g≠w.heap.size+1:=fun e=>by
        rw[e,HB2.out]at hg;injection hg with hg;injection hg with _ hg;exact hU hg.symm
       exact(oth7 ne).trans hg
      exact bodyPost_ret (results_cell_row rfl _ _ (w.heap.size+1) _ _ _ _ rfl (set7 HB2.out) Tryz.underlying28 rfl (by kernel_rfl)) rfl ⟨⟨p1,c1,py,cy,pt,ct⟩,rfl,HF.out⟩
end
end Go.Proofs.YtlkldgopliablaaGreatDoor.En
