import Derived.Test.YtlkldgopliablaaGreatDoorJI3
import Derived.Deep.CutBlock
import Derived.Deep.DeepCutAuto
import Derived.Test.YtlkldgopliablaaGreatDoorJI2
import Derived.Test.YtlkldgopliablaaGreatDoorJI1
import Derived.Laws.Tables
import Derived.Deep.WholeRow
import Derived.Deep.RegionHeld
import Derived.ChangeKeysEq
import Derived.Handy
set_option maxRecDepth 100000
set_option maxHeartbeats 8000000
namespace Go.Proofs.YtlkldgopliablaaGreatDoor.Ww
open Go.ChangeShapes Go.WideShapes Go.ChangeAt Go.RowKit Num Rr
attribute [local go_sem] a00 Md.Ce.run_store_func Md.Ce.run_store_nilFunc
section
variable {W w:World} {G0:List Nat} {b mb mg:Nat} {x:Wx} {z:Wz} {v:Wv} {ws:List Int} {o:Bool} {n:Int}
theorem ba0 (h:Mid W G0 b z mb mg w x v ws o n) (hbg:v.bg=(x.m.buf.length:Int)):Calls Tryz.prog 244 #[.pointer (some ⟨b,0,none⟩)] w fun e w'=>e=.returned (.tuple #[])/\Mid W G0 b z mb mg w' { x with part:=7 } { v with nx:=fnV 266 } ws o n:=by
 have HW:Hid (Calls Tryz.prog 139 #[.pointer (some ⟨z.bm,0,none⟩)] w fun e w'=>e=.returned (.slice (some ⟨w.heap.size,0,none⟩) x.m.buf.length x.m.buf.length)/\TRow w' (some ⟨w.heap.size,0,none⟩) x.m.buf.length x.m.buf/\Bl w w'):=aj0 h.raw.mac.gm;have HT:Hid (∀ w',Bl w w'->Calls Tryz.prog 131 #[.pointer (some ⟨b,0,none⟩),.int .i64 7,.func (.func 266) #[] #[]] w' fun e w'=>e=.returned (.tuple #[])/\Mid W G0 b z mb mg w' { x with part:=7 } { v with nx:=fnV 266 } ws o n):=fun w' k=>aa0 (h.on k) 7 rfl 266
 have h9:w.cell? ⟨b,9,none⟩=some (.pointer (some ⟨z.bm,0,none⟩)):=(h.cell 9).trans rfl;have HC:Hid (∀ u,Bl w u->u.cell? ⟨b,17,none⟩=some (.int .i64 (x.m.buf.length:Int))/\b<u.heap.size):=fun u k=>⟨((h.on k).cell 17).trans (by show some (Value.int .i64 v.bg)=_;rw[hbg]),(h.on k).ltB⟩
 have hb:=h.ltB;clear h
 generalize x.m.buf.length=bl at *
 go_enter Tryz.func244,Tryz.ntmps244
 go_wp2_with (first
  | (go_at_call 131;refine(HT.out _ HQ.out).mono ?_;rintro e w2 ⟨rfl,k⟩;have HR:=zH k;clear k HT)
  | (go_at_call 139;refine HW.out.mono ?_;rintro e w1 ⟨rfl,k1,k2⟩;have HQ:=zH k2;obtain⟨e17,lb⟩:=HC.out _ k2;clear k1 k2 HW))
 refine bodyPost_ret (results_none rfl _ _ _) rfl ?_;exact⟨rfl,HR.out⟩
theorem aV6 (h:Mid W G0 b z mb mg w x v ws o n) (hI:InY x) {k:Nat} (hk:k<x.m.buf.length) (hbg:v.bg=(k:Int)):Calls Tryz.prog 244 #[.pointer (some ⟨b,0,none⟩)] w fun e w'=>e=.returned (.tuple #[])/\Hid (∃ i,Mid W G0 b z mb mg w' { x with part:=6 } { v with nx:=fnV 269,bg:=(k:Int)+1,qw:=some i,t:=wtK x k 0 } ws o n):=by
 have hfew:(x.m.buf.length:Int)<=32:=by have h1:=hI.rest.inv.few;have h2:=hI.rest.inv.wmax;omega
 have hwl:k<x.was.length:=by rw[hI.wlen];exact hk
 have HW:Hid (Calls Tryz.prog 139 #[.pointer (some ⟨z.bm,0,none⟩)] w fun e w'=>e=.returned (.slice (some ⟨w.heap.size,0,none⟩) x.m.buf.length x.m.buf.length)/\TRow w' (some ⟨w.heap.size,0,none⟩) x.m.buf.length x.m.buf/\Bl w w'):=aj0 h.raw.mac.gm;have HTC:Hid (∀ u,TRow u (some ⟨w.heap.size,0,none⟩) x.m.buf.length x.m.buf->w.heap.size<u.heap.size/\u.cell? ⟨w.heap.size,k*2,none⟩=some (.int .i64 (bufC x k))/\u.cell? ⟨w.heap.size,k*2+1,none⟩=some (.float .f64 (bufX x k))):=fun u q=>by
  obtain⟨g,e,l,c1,c2⟩:=b90 q rfl k hk
  cases e
  exact⟨l,c1,c2⟩
 have h9:w.cell? ⟨b,9,none⟩=some (.pointer (some ⟨z.bm,0,none⟩)):=(h.cell 9).trans rfl;obtain⟨g,hph,_⟩:=Sx.row_getD h.raw.had k hwl;have HC:Hid (∀ u,Bl w u->Mid W G0 b z mb mg u x v ws o n/\(u.cell? ⟨b,0,none⟩=some (.int .i64 0)/\u.cell? ⟨b,1,none⟩=some (.int .i64 1)/\u.cell? ⟨b,2,none⟩=some (.int .i64 2)/\u.cell? ⟨b,3,none⟩=some (.int .i64 3)/\u.cell? ⟨b,4,none⟩=some (.int .i64 (3+x.b))/\u.cell? ⟨b,5,none⟩=some (.int .i64 (3+x.b+3*x.a)))/\u.cell? ⟨b,15,none⟩=some (.slice (some ⟨g,0,none⟩) x.was.length v.ch)/\u.cell? ⟨b,17,none⟩=some (.int .i64 (k:Int))/\u.cell? ⟨g,k,none⟩=some (.float .f64 (x.was.getD k 0))/\g<u.heap.size/\b<u.heap.size):=fun u q=>by
  have hu:=h.on q;obtain⟨g',e,l,c,_⟩:=Sx.row_getD hu.raw.had k hwl;rw[hph]at e
  cases e
  exact⟨hu,hu.plan rfl rfl,(hu.cell 15).trans (by show some (Value.slice v.ph x.was.length v.ch)=_;rw[hph]),(hu.cell 17).trans (by show some (Value.int .i64 v.bg)=_;rw[hbg]),c,l,hu.ltB⟩
 have HNS:Hid (∀ u,Bl w u->Calls Tryz.prog 268 #[.pointer (some ⟨b,0,none⟩)] u fun e w'=>e=.returned (.int .u64 (Md.Cv.passV x.stamp))/\w'=u):=fun u q=>am0 (h.on q)
 have HWR:Hid (∀ u,Calls Tryz.prog 267 #[.agg #[.int .i64 0,.int .i64 1,.int .i64 2,.int .i64 3,.int .i64 (3+x.b),.int .i64 (3+x.b+3*x.a)],.int .i64 (bufC x k),.int .u64 (Md.Cv.passV x.stamp),.float .f64 (x.was.getD k 0),.float .f64 (bufX x k)] u fun e w'=>∃ i,e=.returned (.pointer (some ⟨i,0,none⟩))/\u.heap.size<=i/\Md.Ce.WtAt w' i (wtK x k 0)/\Bl u w'):=fun u=>by
  have:=Md.Ce.write_any u 0 1 2 3 (3+x.b) (3+x.b+3*x.a) (bufC x k) (Md.Cv.passV x.stamp) (x.was.getD k 0) (bufX x k);rw[bu7 hI hk]at this;exact this
 have HT:Hid (∀ i w',Mid W G0 b z mb mg w' x { v with bg:=(k:Int)+1,qw:=some i,t:=wtK x k 0 } ws o n->Calls Tryz.prog 131 #[.pointer (some ⟨b,0,none⟩),.int .i64 6,.func (.func 269) #[] #[]] w' fun e w'=>e=.returned (.tuple #[])/\Mid W G0 b z mb mg w' { x with part:=6 } { v with nx:=fnV 269,bg:=(k:Int)+1,qw:=some i,t:=wtK x k 0 } ws o n):=fun i w' q=>aa0 q 6 rfl 269
 have HP:Hid (∀ i w',Mid W G0 b z mb mg w' x { v with qw:=some i,t:=wtK x k 0 } ws o n->Mid W G0 b z mb mg (w'.setCell ⟨b,17,none⟩ (.int .i64 ((k:Int)+1))) x { v with bg:=(k:Int)+1,qw:=some i,t:=wtK x k 0 } ws o n/\w'.cell? ⟨b,17,none⟩=some (.int .i64 (k:Int))/\w'.frozen? ⟨b,17,none⟩=false/\b<w'.heap.size):=fun i w' q=>⟨q.put 17 _ x _ rfl ⟨rfl,rfl,rfl⟩ ⟨rfl,rfl,rfl,rfl,rfl,rfl,rfl⟩,(q.cell 17).trans (by show some (Value.int .i64 v.bg)=_;rw[hbg]),q.free 17,q.ltB⟩
 have hb:=h.ltB;have hwl2:(k:Int)<(x.was.length:Int):=by omega
 have hk2:(k:Int)<(x.m.buf.length:Int):=by omega
 have hne:((k:Int) == (x.m.buf.length:Int))=false:=by simp;omega
 have hk32:(k:Int)<1000:=by omega
 clear h hI hbg hk hwl hph
 generalize x.m.buf.length=bl at *
 generalize x.was.length=wl at *
 generalize x.was.getD k 0=u0 at *
 generalize bufC x k=c0 at *
 generalize bufX x k=y0 at *
 generalize wtK x k 0=t0 at *
 generalize Md.Cv.passV x.stamp=s0 at *
 generalize 3+x.b+3*x.a=p5 at *
 generalize 3+x.b=p4 at *
 go_enter Tryz.func244,Tryz.ntmps244
 go_upto_region 4 with(go_at_call 139;refine HW.out.mono ?_;rintro e w1 ⟨rfl,k1,k2⟩;have HQ:=zH k2;obtain⟨lg,d0,d1⟩:=HTC.out _ k1;obtain⟨_,⟨h0,h1,h2,h3,h4,h5⟩,h15,h17,hg,lg2,lb⟩:=HC.out _ k2;clear k1 k2 HW HTC)
 clear h0 h1 h2 h3 h4 h5 h15 h17 hg lg2 lb h9;obtain⟨w2,hw2⟩:∃ w2,w2=w1.alloc (.cells #[.int .i64 c0,.float .f64 y0] 189):=⟨_,rfl⟩
 rw[<- hw2];have HB2:Hid (Bl w w2.drew):=by rw[hw2];exact(HQ.out.alloc HQ.out.size _).trans ((Same.drew _).below _)
 have a0:w2.cell? ⟨w1.heap.size,0,none⟩=some (.int .i64 c0):=by rw[hw2];simp[go_sem]
 have a1:w2.cell? ⟨w1.heap.size,1,none⟩=some (.float .f64 y0):=by rw[hw2];simp[go_sem]
 have la:w1.heap.size<w2.heap.size:=by rw[hw2];simp
 clear hw2 lg d0 d1 HQ;obtain⟨hm,⟨h0,h1,h2,h3,h4,h5⟩,h15,h17,hg,lg2,lb⟩:=HC.out _ HB2.out;have HM:=zH hm;clear hm;have lg3:g<w2.heap.size:=lg2;have lb3:b<w2.heap.size:=lb;refine a32 (fun u=>(u.cell? ⟨b,0,none⟩=some (.int .i64 0)/\u.cell? ⟨b,1,none⟩=some (.int .i64 1)/\u.cell? ⟨b,2,none⟩=some (.int .i64 2)/\u.cell? ⟨b,3,none⟩=some (.int .i64 3)/\u.cell? ⟨b,4,none⟩=some (.int .i64 p4)/\u.cell? ⟨b,5,none⟩=some (.int .i64 p5))/\u.cell? ⟨b,15,none⟩=some (.slice (some ⟨g,0,none⟩) wl v.ch)/\u.cell? ⟨b,17,none⟩=some (.int .i64 (k:Int))/\u.cell? ⟨g,k,none⟩=some (.float .f64 u0)/\u.cell? ⟨w1.heap.size,0,none⟩=some (.int .i64 c0)/\u.cell? ⟨w1.heap.size,1,none⟩=some (.float .f64 y0) )  ((0,true)::(1,true)::(2,true)::(3,true)::(4,true)::(5,true)::(6,true)::(7,true)::(9,true)::(10,true)::(11,true)::(12,true)::(13,true)::(14,true)::(15,true)::(16,true)::(17,true)::(18,true)::(19,true)::(20,true)::(8,false)::(21,false)::(22,true)::(23,true)::(24,false)::[])  Md.Cv.follows13 (by kernel_rfl) (fun _ _ _ _ _ h=>h)  ⟨⟨h0,h1,h2,h3,h4,h5⟩,h15,h17,hg,a0,a1⟩ ?_
 (repeat (refine a23 (v:=?_) rfl (by rfl) (fun wq hSq=>?_) ?_;rotate_left;(focus ((try dsimp only at hSq);go_simp;try with_reducible rfl));simp only[Act.put,zA,zB,zC]))
 (refine a20 rfl (by rfl) (fun KK hK=>?_);go_simp)
 refine(HNS.out _ HB2.out).mono ?_;rintro e u1 ⟨rfl,hw⟩;subst u1;refine hK.out _ _ (fun _=>⟨⟨h0,h1,h2,h3,h4,h5⟩,h15,h17,hg,a0,a1⟩) ?_
 (clear hK KK;try simp only[Act.put,zA,zB,zC])
 (refine a20 rfl (by rfl) (fun KK hK=>?_);go_simp)
 refine(HWR.out _).mono ?_;rintro e w3 ⟨i0,rfl,k1,k2,k3⟩;have HN:=zH (HM.out.writeNew k3 k1 k2);have HV:=zH (HM.out.on k3);obtain⟨q1,q2,q3,q4⟩:=HP.out _ _ HN.out;have HN2:=zH q1;have e18:w3.cell? ⟨b,18,none⟩=some (ptrV v.qw):=(HV.out.cell 18).trans rfl;have f18:=HV.out.free 18;have l18:=HV.out.ltB;have ck:∀ (g j:Nat) (y:Value),g<w2.heap.size->w2.cell? ⟨g,j,none⟩=some y->w3.cell? ⟨g,j,none⟩=some y:=fun g j y hg hv=>(k3.cell (p:=⟨g,j,none⟩) hg).trans hv
 refine hK.out _ _ (fun _=>⟨⟨ck _ _ _ lb3 h0,ck _ _ _ lb3 h1,ck _ _ _ lb3 h2,ck _ _ _ lb3 h3,ck _ _ _ lb3 h4,ck _ _ _ lb3 h5⟩,ck _ _ _ lb3 h15,ck _ _ _ lb3 h17,ck _ _ _ lg3 hg,ck _ _ _ la a0,ck _ _ _ la a1⟩) ?_;clear k1 k2 k3 ck q1
 (clear hK KK;try simp only[Act.put,zA,zB,zC])
 (repeat (refine a23 (v:=?_) rfl (by rfl) (fun wq hSq=>?_) ?_;rotate_left;(focus ((try dsimp only at hSq);go_simp;try with_reducible rfl));simp only[Act.put,zA,zB,zC]))
 (refine a20 rfl (by rfl) (fun KK hK=>?_);go_simp)
 refine hK.out _ _ (fun hn=>absurd rfl hn) ?_
 (clear hK KK;try simp only[Act.put])
 refine a54 ?_;clear h0 h1 h2 h3 h4 h5 h15 h17 hg lg2 lb a0 a1 la lg3 lb3 e18 f18 l18
 go_wp2_with (go_at_call 131;refine(HT.out _ _ HN2.out).mono ?_;rintro e w4 ⟨rfl,k⟩;have HR:=zH k;clear k HT)
 go_end0
 exact⟨rfl,i0,HR.out⟩
theorem aB6 (h:Mid W G0 b z mb mg w x v ws true n) {i0:Nat} (hq:v.qs=some i0) (hok:Md.Cv.SOk v.s) (hE:Md.Cv.sE v.s ws true=0) (hP:Md.Cv.sP v.s ws true=false) (hQ:Md.Cv.sQ v.s ws true n=up n) {s':Md.Cv.Ss} (hC:Md.Cv.sC v.s ws true=s') {dn:Bool} (hO:Md.Cv.sO v.s ws true=dn) {Q:World->Prop} (HQ:Hid (∀ u,Mid W G0 b z mb mg u x { v with s:=s' } ws false (up n)->dn=false->Q u)) (HN:Hid (∀ u,Mid W G0 b z mb mg u x { v with s:=s' } ws false (up n)->dn=true->Calls Tryz.prog 244 #[.pointer (some ⟨b,0,none⟩)] u fun e w'=>e=.returned (.tuple #[])/\Q w')):Calls Tryz.prog 230 #[.pointer (some ⟨b,0,none⟩),.pointer (some ⟨mb,0,none⟩)] w fun e w'=>e=.returned (.tuple #[])/\Q w':=by
 have HS:=zH (Md.Cv.sstep_any h.mem (h.raw.sc i0 hq) hok);rw[hE,hP,hQ,hC,hO]at HS;have HM:Hid (∀ w',MemAt 145 w' mb mg ws false (up n)->Md.Cv.ScAt w' i0 s'->Md.Cv.Ch3 mb mg i0 w w'->Mid W G0 b z mb mg w' x { v with s:=s' } ws false (up n)):=fun w' k1 k2 k3=>h.scans hq k3 k1 k2
 have h16:w.cell? ⟨b,16,none⟩=some (.pointer (some ⟨i0,0,none⟩)):=(h.cell 16).trans (by show some (ptrV v.qs)=_;rw[hq];rfl);have hb:=h.ltB;clear h hok hE hP hQ hC hO hq
 cases dn
 ·have HQ2:=zH (fun u k=>HQ.out u k rfl)
  clear HN HQ;go_enter Tryz.func230,Tryz.ntmps230
  go_wp2_with (go_at_call 243;refine HS.out.mono ?_;rintro e w1 ⟨rfl,k1,k2,k3⟩;have HR:=zH (HQ2.out _ (HM.out _ k1 k2 k3));clear k1 k2 k3 HS HM)
  go_end0
  exact⟨rfl,HR.out⟩
 ·have HN2:=zH (fun u k=>HN.out u k rfl)
  clear HN HQ;go_enter Tryz.func230,Tryz.ntmps230
  go_wp2_with (first
   | (go_at_call 244;refine(HN2.out _ HR.out).mono ?_;rintro e w2 ⟨rfl,k⟩;have HZ:=zH k;clear k HN2)
   | (go_at_call 243;refine HS.out.mono ?_;rintro e w1 ⟨rfl,k1,k2,k3⟩;have HR:=zH (HM.out _ k1 k2 k3);clear k1 k2 k3 HS HM))
  go_end0
  exact⟨rfl,HZ.out⟩
theorem write_any (h:Mid W G0 b z mb mg w x v ws true n) {i0:Nat} (hq:v.qw=some i0) (hE:Md.Ce.errW v.t ws true=0) {ws':List Int} (hL:Md.Ce.laidW v.t ws true=ws') (hO:Md.Ce.aftO (Md.Ce.errW v.t ws true) true=false) (hN:Md.Ce.aftN (Md.Ce.errW v.t ws true) n=up n) {t':Md.Ce.Wt} (hC:Md.Ce.stepW v.t ws true=t') {dn:Bool} (hD:Md.Ce.endW v.t ws true=dn) {Q:World->Prop} (HQ:Hid (∀ u,Mid W G0 b z mb mg u x { v with t:=t' } ws' false (up n)->dn=false->Q u)) (HN:Hid (∀ u,Mid W G0 b z mb mg u x { v with t:=t' } ws' false (up n)->dn=true->Calls Tryz.prog 244 #[.pointer (some ⟨b,0,none⟩)] u fun e w'=>e=.returned (.tuple #[])/\Q w')):Calls Tryz.prog 269 #[.pointer (some ⟨b,0,none⟩),.pointer (some ⟨mb,0,none⟩)] w fun e w'=>e=.returned (.tuple #[])/\Q w':=by
 have hne:i0≠mb/\i0≠mg:=by
  obtain⟨_,_,h3,_⟩:=h;exact⟨fun e=>h3 mb (by simp) (e ▸ in_w hq),fun e=>h3 mg (by simp) (e ▸ in_w hq)⟩
 have HS:=zH (Md.Ce.wstep_any h.mem (h.raw.wr i0 hq) hne.1 hne.2);rw[hO,hN,hL,hC,hD,hE]at HS;have HM:Hid (∀ w',MemAt 145 w' mb mg ws' false (up n)->Md.Ce.WtAt w' i0 t'->Md.Ce.Ch [mb,mg,i0] w w'->Mid W G0 b z mb mg w' x { v with t:=t' } ws' false (up n)):=fun w' k1 k2 k3=>h.writes hq k3 k1 k2
 have h18:w.cell? ⟨b,18,none⟩=some (.pointer (some ⟨i0,0,none⟩)):=(h.cell 18).trans (by show some (ptrV v.qw)=_;rw[hq];rfl);have hb:=h.ltB;clear h hE hL hO hN hC hD hq hne
 cases dn
 ·have HQ2:=zH (fun u k=>HQ.out u k rfl)
  clear HN HQ;go_enter Tryz.func269,Tryz.ntmps269
  go_wp2_with (go_at_call 280;refine HS.out.mono ?_;rintro e w1 ⟨rfl,k1,k2,k3⟩;have HR:=zH (HQ2.out _ (HM.out _ k1 k2 k3));clear k1 k2 k3 HS HM)
  go_end0
  exact⟨rfl,HR.out⟩
 ·have HN2:=zH (fun u k=>HN.out u k rfl)
  clear HN HQ;go_enter Tryz.func269,Tryz.ntmps269
  go_wp2_with (first
   | (go_at_call 244;refine(HN2.out _ HR.out).mono ?_;rintro e w2 ⟨rfl,k⟩;have HZ:=zH k;clear k HN2)
   | (go_at_call 280;refine HS.out.mono ?_;rintro e w1 ⟨rfl,k1,k2,k3⟩;have HR:=zH (HM.out _ k1 k2 k3);clear k1 k2 k3 HS HM))
  go_end0
  exact⟨rfl,HZ.out⟩
end
attribute [local go_sem] a00 Md.Ce.run_store_func Md.Ce.run_store_nilFunc
def Full (W:World) (G0:List Nat) (b:Nat) (z:Wz) (mb mg:Nat) (w:World) (x:Wx) (ws:List Int) (o:Bool) (n:Int):Prop:=∃ v,Mid W G0 b z mb mg w x v ws o n/\VOk x v
section
variable {W w w':World} {G0:List Nat} {b mb mg:Nat} {x:Wx} {z:Wz} {ws:List Int} {o:Bool} {n:Int}
theorem Full.raw (h:Full W G0 b z mb mg w x ws o n):∃ v,RawAt w b x z v/\VOk x v:=by
 obtain⟨v,h,h2⟩:=h;exact⟨v,h.1,h2⟩
theorem aI1 {v:Wv} (h:Mid W G0 b z mb mg w x v ws o n) (hI:InY x) {k:Nat} (hk:k<=x.m.buf.length) (hbg:v.bg=(k:Int)) (hnb:wrap64 v.nb=x.num):Calls Tryz.prog 244 #[.pointer (some ⟨b,0,none⟩)] w fun e w'=>e=.returned (.tuple #[])/\Full W G0 b z mb mg w' { x with at_:=3*k,part:=if k=x.m.buf.length then 7 else 6 } ws o n:=by
 by_cases e:k=x.m.buf.length
 ·rw[if_pos e]
  refine(ba0 h (by rw[hbg,e])).mono ?_;rintro r w' ⟨rfl,q⟩;exact⟨rfl,_,q.like rfl rfl rfl rfl,⟨rfl,(fun y=>by dsimp only at y;omega),(fun y=>by dsimp only at y;omega),(fun y=>by dsimp only at y;omega),hnb⟩⟩
 ·rw[if_neg e]
  refine(aV6 h hI (by omega) hbg).mono ?_;rintro r w' ⟨rfl,q⟩;obtain⟨i,q⟩:=q.out;refine⟨rfl,_,q.like rfl rfl rfl rfl,⟨rfl,(fun y=>by dsimp only at y;omega),(fun y=>by dsimp only at y;omega),fun _=>⟨⟨i,rfl⟩,?_,?_⟩,hnb⟩⟩
  ·dsimp only
   rw[show 3*k / 3=k by omega]
   rfl
  ·dsimp only
   rw[show 3*k / 3=k by omega,show 3*k % 3=0 by omega]
   rfl
theorem VOk.of {v v':Wv} {x x':Wx} (h:VOk x v) (h4:x.part<=4) (h4':x'.part<=4) (hn:v'.nx=aj9 x'.part) (hb:v'.bg=v.bg) (hnb:v'.nb=v.nb) (hnum:x'.num=x.num):VOk x' v' :=
 ⟨hn,(fun y=>by omega),(fun _=>by rw[hb];exact h.b5 (by omega)),(fun y=>by omega),by rw[hnb,hnum];exact h.nb⟩
theorem b51 (h:Full W G0 b z mb mg w x ws true n) (hI:InY x) (hp:x.part=1) (hl:plY x<=(ws.length:Int)):Calls Tryz.prog 132 #[.pointer (some ⟨b,0,none⟩),.pointer (some ⟨mb,0,none⟩)] w fun e w'=>e=.returned (.tuple #[])/\Full W G0 b z mb mg w' { x with tick:=wordAt ws 0,part:=2 } (ws.set 0 (Md.Cv.passV (wordAt ws 0))) false (up n):=by
 obtain⟨v,h,hv⟩:=h;have hb:=hI.cb;have ha:=hI.ca;unfold plY at hl;refine(draw_any h (by omega)).mono ?_;rintro r w' ⟨rfl,q⟩;exact⟨rfl,_,q,hv.of (by omega) (by show 2<=4;omega) rfl rfl rfl rfl⟩
theorem b52 (h:Full W G0 b z mb mg w x ws true n) (hI:InY x) (hp:x.part=2) (hl:plY x<=(ws.length:Int)):Calls Tryz.prog 165 #[.pointer (some ⟨b,0,none⟩),.pointer (some ⟨mb,0,none⟩)] w fun e w'=>e=.returned (.tuple #[])/\Full W G0 b z mb mg w' (if wordAt ws 1=x.tick then { x with part:=3 } else x) ws false (up n):=by
 obtain⟨v,h,hv⟩:=h;have hb:=hI.cb;have ha:=hI.ca;unfold plY at hl
 by_cases e:wordAt ws 1=x.tick
 ·rw[if_pos e]
  refine(aR0 h (by omega) (zT e)).mono ?_;rintro r w' ⟨rfl,q⟩;exact⟨rfl,_,q,hv.of (by omega) (by show 3<=4;omega) rfl rfl rfl rfl⟩
 ·rw[if_neg e]
  refine(aR0 h (by omega) (zU e)).mono ?_;rintro r w' ⟨rfl,q⟩;exact⟨rfl,_,q,hv⟩
theorem b53 (h:Full W G0 b z mb mg w x ws true n) (hI:InY x) (hp:x.part=3) (hl:plY x<=(ws.length:Int)):Calls Tryz.prog 189 #[.pointer (some ⟨b,0,none⟩),.pointer (some ⟨mb,0,none⟩)] w fun e w'=>e=.returned (.tuple #[])/\Full W G0 b z mb mg w' { x with stamp:=wordAt ws 2,part:=4 } ws false (up n):=by
 obtain⟨v,h,hv⟩:=h;have hb:=hI.cb;have ha:=hI.ca;unfold plY at hl;refine(aA4 h (by omega)).mono ?_;rintro r w' ⟨rfl,q⟩;exact⟨rfl,_,q,hv.of (by omega) (by show 4<=4;omega) rfl rfl rfl rfl⟩
theorem aN2 (hI:InY x) (hp:x.part=4) (hk:(a08 x.m).2.kind=1∨(a08 x.m).2.kind=3):0<=(a08 x.m).2.cell/\(a08 x.m).2.cell<x.a:=by
 have h0:=hI.run (by omega);have hR:=hI.rest;obtain⟨lk,tr⟩:=ab5 hR.inv hR.nw h0;have hb:=an2 hR.inv hR.nw h0;have hc:=hI.cel
 rcases hk with hk | hk
 ·rcases tr with⟨k4,_⟩ | ⟨_,e1,e2,e3,e4⟩ | ⟨k0,_⟩
  ·omega
  ·have hw:=(af3 hR.inv).wait
   have:=lk.cells;omega
  ·omega
 ·have:=aH1 hR (by omega)
  rcases hb with⟨q,_⟩ | ⟨q,_⟩ | ⟨q,_⟩ | ⟨q,_⟩ | ⟨_,e,f,_⟩
  ·omega
  ·omega
  ·omega
  ·omega
  ·have m:(a08 x.m).2.cell∈a21 (a08 x.m).1.buf:=by
    rw[e];exact az7.1 (by rw[az8];simp)
   obtain⟨t,ht,et⟩:=List.mem_map.1 m;have:=this.cel t ht;have:=lk.cells;omega
theorem b54 (h:Full W G0 b z mb mg w x ws true n) (hT:a78 W G0) (hI:InY x) (hp:x.part=4) (hl:plY x<=(ws.length:Int)):Calls Tryz.prog 209 #[.pointer (some ⟨b,0,none⟩),.pointer (some ⟨mb,0,none⟩)] w fun e w'=>e=.returned (.tuple #[])/\Full W G0 b z mb mg w' (runY x ws).1 ws (!(runY x ws).2) (if (runY x ws).2 then up n else n):=by
 obtain⟨v,h,hv⟩:=h;have hR:=hI.rest;have hfew:x.was.length<=1000:=by rw[hI.wlen];have h1:=hR.inv.few;have h2:=hR.inv.wmax;omega
 unfold runY
 by_cases k1:(a08 x.m).2.kind=1
 ·rw[if_pos k1]
  have hc:=aN2 hI hp (.inl k1);refine(bj9 h hT hR.inv (af3 hR.inv) hI.ca hI.cb hl rfl rfl k1 hc.1 hc.2 rfl).mono ?_;rintro r w' ⟨rfl,q⟩;obtain⟨F,q⟩:=q.out;exact⟨rfl,_,q,hv.of (by omega) (by show x.part<=4;omega) hv.nx rfl rfl rfl⟩
 ·rw[if_neg k1]
  by_cases k3:(a08 x.m).2.kind=3/\(a08 x.m).2.first=true
  ·rw[if_pos k3]
   have hc:=aN2 hI hp (.inr k3.1);refine(b71 h hT hR.inv hI.ca hI.cb hl hfew rfl rfl k3.1 k3.2 hc.1 hc.2 rfl).mono ?_;rintro r w' ⟨rfl,q⟩;obtain⟨F,p',c',q⟩:=q.out;exact⟨rfl,_,q,hv.of (by omega) (by show x.part<=4;omega) hv.nx rfl rfl rfl⟩
  ·rw[if_neg k3]
   by_cases k4:(a08 x.m).2.kind=4
   ·rw[if_pos k4]
    refine bx3 h hT hR.inv rfl rfl k4 (Q:=fun w'=>Full W G0 b z mb mg w' _ ws true n) (zH fun u F hu=>?_)
    by_cases hh:(a08 x.m).1.how=1
    ·rw[if_pos hh]
     refine(bm5 hu (by simp[hh])).mono ?_;rintro r w' ⟨rfl,q⟩;obtain⟨i,q⟩:=q.out;refine⟨rfl,_,q,⟨rfl,fun _=>⟨⟨i,rfl⟩,rfl,rfl,rfl,?_⟩,fun _=>hv.b5 (by omega),(fun y=>by dsimp only at y;omega),hv.nb⟩⟩
     show (0:Int)=(x.at_:Int)
     rw[hI.at4 (by omega)]
     rfl
    ·rw[if_neg hh]
     refine(bA0 hu (by simp[hh])).mono ?_;rintro r w' ⟨rfl,q⟩;exact⟨rfl,_,q,⟨rfl,(fun y=>by dsimp only at y;omega),(fun y=>by dsimp only at y;omega),(fun y=>by dsimp only at y;omega),hv.nb⟩⟩
   ·rw[if_neg k4]
    refine(bE5 h hT hR.inv rfl rfl (by simpa using k1) ?_ (by simpa using k4)).mono ?_
    ·by_cases q3:(a08 x.m).2.kind=3
     ·refine .inr ⟨by simpa using q3,?_⟩
      cases hf:(a08 x.m).2.first with
      | false=>rfl
      | true=>exact absurd ⟨q3,hf⟩ k3
     ·exact .inl (by simpa using q3)
    ·rintro r w' ⟨rfl,q⟩
     obtain⟨F,q⟩:=q.out;exact⟨rfl,_,q,hv.of (by omega) (by show x.part<=4;omega) hv.nx rfl rfl rfl⟩
theorem b55 (h:Full W G0 b z mb mg w x ws true n) (hI:InY x) (hp:x.part=5) (hl:plY x<=(ws.length:Int)):Calls Tryz.prog 230 #[.pointer (some ⟨b,0,none⟩),.pointer (some ⟨mb,0,none⟩)] w fun e w'=>e=.returned (.tuple #[])/\Full W G0 b z mb mg w' (aq2 x ws) ws false (up n):=by
 obtain⟨v,h,hv⟩:=h;obtain⟨⟨i0,hq⟩,e1,e2,e3,e4⟩:=hv.s5 hp;obtain⟨g1,g2,g3,g4,g5,g6,g7⟩:=bk5 (ws:=ws) hI hp hl e1 e2 e3 e4 n
 cases hL:letsY x ws with
 | false =>
  refine aB6 h hq g4 g1 g2 g3 (g7 hL) (dn:=false) (by rw[g5,hL];rfl) (zH fun u k _=>?_) (zH fun u k y=>by cases y);rw[bk2 hL];exact⟨_,k,⟨hv.nx,fun _=>⟨⟨i0,hq⟩,rfl,rfl,rfl,rfl⟩,hv.b5,(fun y=>by omega),hv.nb⟩⟩
 | true =>
  by_cases hb:((x.at_+1:Nat):Int)=x.b
  ·refine aB6 h hq g4 g1 g2 g3 (g6 hL) (dn:=true) (by rw[g5,hL];exact zT hb) (zH fun u k y=>by cases y) (zH fun u k _=>?_)
   rw[b73 hL hb];have:=aI1 k hI (k:=0) (zV _) (hv.b5 (by omega)) hv.nb;have e:(if x.m.buf.length=0 then 7 else 6)=(if 0=x.m.buf.length then 7 else 6):=by
    by_cases q:x.m.buf.length=0
    ·rw[if_pos q,if_pos q.symm]
    ·rw[if_neg q,if_neg (fun y=>q y.symm)]
   rw[e];exact this
  ·refine aB6 h hq g4 g1 g2 g3 (g6 hL) (dn:=false) (by rw[g5,hL];exact zU hb) (zH fun u k _=>?_) (zH fun u k y=>by cases y)
   rw[bk3 hL hb];exact⟨_,k.like rfl rfl rfl rfl,⟨hv.nx,fun _=>⟨⟨i0,hq⟩,rfl,rfl,rfl,rfl⟩,hv.b5,(fun y=>by dsimp only at y;omega),hv.nb⟩⟩
theorem b56 (h:Full W G0 b z mb mg w x ws true n) (hI:InY x) (hp:x.part=6) (hl:plY x<=(ws.length:Int)):Calls Tryz.prog 269 #[.pointer (some ⟨b,0,none⟩),.pointer (some ⟨mb,0,none⟩)] w fun e w'=>e=.returned (.tuple #[])/\Full W G0 b z mb mg w' (aR4 x) (aC8 x ws) false (up n):=by
 obtain⟨v,h,hv⟩:=h;obtain⟨⟨i0,hq⟩,e1,e2⟩:=hv.w6 hp;have h6:=hI.at6 hp;obtain⟨g1,g2,g3,g4,g5,g6⟩:=ba3 (ws:=ws) hI hp hl n;rw[<- e2]at g1 g2 g3 g4 g5 g6;unfold aR4
 by_cases d:x.at_ % 3=2
 ·refine write_any h hq g1 g2 g5 g6 g3 (dn:=true) (by rw[g4];exact zT d) (zH fun u k y=>by cases y) (zH fun u k _=>?_)
  have:=aI1 k hI (k:=x.at_ / 3+1) (by omega) e1 hv.nb;rw[show 3*(x.at_ / 3+1)=x.at_+1 by omega]at this;have e:(if x.at_+1=3*x.m.buf.length then 7 else 6)=(if x.at_ / 3+1=x.m.buf.length then 7 else 6):=by
   by_cases q:x.at_+1=3*x.m.buf.length
   ·rw[if_pos q,if_pos (by omega)]
   ·rw[if_neg q,if_neg (by omega)]
  rw[e];exact this
 ·refine write_any h hq g1 g2 g5 g6 g3 (dn:=false) (by rw[g4];exact zU d) (zH fun u k _=>?_) (zH fun u k y=>by cases y)
  rw[if_neg (by omega)];have a1:(x.at_+1) / 3=x.at_ / 3:=by omega
  have a2:(x.at_+1) % 3=x.at_ % 3+1:=by omega
  refine⟨_,k.like (by unfold boxY;dsimp only;rw[hp]) rfl rfl rfl,⟨by rw[hv.nx,hp],(fun y=>by dsimp only at y;omega),(fun y=>by dsimp only at y;omega),fun _=>⟨⟨i0,hq⟩,?_,?_⟩,hv.nb⟩⟩
  ·dsimp only
   rw[a1];exact e1
  ·dsimp only
   rw[a1,a2]
   rfl
theorem b57 (h:Full W G0 b z mb mg w x ws true n) (hI:InY x) (hl:plY x<=(ws.length:Int)):Calls Tryz.prog 266 #[.pointer (some ⟨b,0,none⟩),.pointer (some ⟨mb,0,none⟩)] w fun e w'=>e=.returned (.tuple #[])/\Full W G0 b z mb mg w' { x with num:=wrap64 (Md.Cv.passV x.stamp),part:=8 } (ws.set 2 (Md.Cv.passV x.stamp)) false (up n):=by
 obtain⟨v,h,hv⟩:=h;have hb:=hI.cb;have ha:=hI.ca;unfold plY at hl;refine(publish_any h (by omega)).mono ?_;rintro r w' ⟨rfl,q⟩;exact⟨rfl,_,q.like rfl rfl rfl rfl,⟨rfl,(fun y=>by dsimp only at y;omega),(fun y=>by dsimp only at y;omega),(fun y=>by dsimp only at y;omega),rfl⟩⟩
theorem b58 (h:Full W G0 b z mb mg w x ws true n) (hI:InY x) (hl:plY x<=(ws.length:Int)):Calls Tryz.prog 228 #[.pointer (some ⟨b,0,none⟩),.pointer (some ⟨mb,0,none⟩)] w fun e w'=>e=.returned (.tuple #[])/\Full W G0 b z mb mg w' { x with part:=9 } (ws.set 1 (Md.Cv.passV x.tick)) false (up n):=by
 obtain⟨v,h,hv⟩:=h;have hb:=hI.cb;have ha:=hI.ca;unfold plY at hl;refine(pass_any h (by omega)).mono ?_;rintro r w' ⟨rfl,q⟩;exact⟨rfl,_,q,⟨rfl,(fun y=>by dsimp only at y;omega),(fun y=>by dsimp only at y;omega),(fun y=>by dsimp only at y;omega),hv.nb⟩⟩
theorem bh5 (h:Full W G0 b z mb mg w x ws true n) (hT:a78 W G0) (hI:InY x) (hp:x.part≠9) (hl:plY x<=(ws.length:Int)) {y:Wx} {ws':List Int} {ac:Bool} (hy:aQ0 x ws=(y,ws',ac)):Calls Tryz.prog (partF x.part) #[.pointer (some ⟨b,0,none⟩),.pointer (some ⟨mb,0,none⟩)] w fun e w'=>e=.returned (.tuple #[])/\Full W G0 b z mb mg w' y ws' (!ac) (if ac then up n else n):=by
 have hP:=hI.part;unfold aQ0 at hy
 rcases(by omega:x.part=1∨x.part=2∨x.part=3∨x.part=4∨x.part=5∨x.part=6∨x.part=7∨x.part=8) with e | e | e | e | e | e | e | e
 ·rw[if_pos e]at hy
  cases hy
  rw[e];exact b51 h hI e hl
 ·rw[if_neg (by omega),if_pos e]at hy
  cases hy
  rw[e];exact b52 h hI e hl
 ·rw[if_neg (by omega),if_neg (by omega),if_pos e]at hy
  cases hy
  rw[e];exact b53 h hI e hl
 ·rw[if_neg (by omega),if_neg (by omega),if_neg (by omega),if_pos e]at hy
  cases hy
  rw[e];exact b54 h hT hI e hl
 ·rw[if_neg (by omega),if_neg (by omega),if_neg (by omega),if_neg (by omega),if_pos e]at hy
  cases hy
  rw[e];exact b55 h hI e hl
 ·rw[if_neg (by omega),if_neg (by omega),if_neg (by omega),if_neg (by omega),if_neg (by omega),if_pos e]at hy
  cases hy
  rw[e];exact b56 h hI e hl
 ·rw[if_neg (by omega),if_neg (by omega),if_neg (by omega),if_neg (by omega),if_neg (by omega),if_neg (by omega),if_pos e]at hy
  cases hy
  rw[e];exact b57 h hI hl
 ·rw[if_neg (by omega),if_neg (by omega),if_neg (by omega),if_neg (by omega),if_neg (by omega),if_neg (by omega),if_neg (by omega)]at hy
  cases hy
  rw[e];exact b58 h hI hl
end
section
variable {W w:World} {G0:List Nat} {b mb mg:Nat} {x:Wx} {z:Wz} {v:Wv} {ws:List Int} {o:Bool} {n:Int}
theorem Mid.lens (h:Mid W G0 b z mb mg w x v ws o n):w.cell? ⟨b,5,none⟩=some (.int .i64 (plY x)):=(h.cell 5).trans rfl
theorem step_any (h:Full W G0 b z mb mg w x ws o n) (hT:a78 W G0) (hI:InY x) (hp:x.part≠9) (hl:plY x<=(ws.length:Int)) (h0:0<=x.steps) (h1:x.steps<9223372036854775807) {y:Wx} {ws':List Int} {ac:Bool} (hy:ac9 x ws=(y,ws',ac)) :
  Calls Tryz.prog 325 #[.pointer (some ⟨b,0,none⟩),.pointer (some ⟨mb,0,none⟩)] w fun e w'=>e=.returned (.tuple #[.bool (decide ((y.part:Int)=9)),.int .i64 0])/\Full W G0 b z mb mg w' y ws' (!ac) (if ac then up n else n):=by
 obtain⟨v,h,hv⟩:=h;have h5:=h.lens;have hb:=h.ltB;have HL:=zH (Md.len_any h.drew.mem);have HO:=zH (am3 h.drew.raw hv.nx);rw[zU (by omega)]at HO;have HOP:Hid (Calls Tryz.prog 324 #[.pointer (some ⟨mb,0,none⟩)] w.drew fun e w'=>e=.returned (.tuple #[])/\MemAt 145 w' mb mg ws true n/\Chg mb mg w.drew w'):=Md.open_any h.drew.mem;have HM:Hid (∀ w',MemAt 145 w' mb mg ws true n->Chg mb mg w.drew w'->Mid W G0 b z mb mg w' x v ws true n):=fun w' k1 k2=>h.drew.memb k2 k1
 have HP:Hid (∀ w',Mid W G0 b z mb mg w' x v ws true n->Full W G0 b z mb mg (w'.setCell ⟨b,10,none⟩ (.int .i64 (x.steps+1))) (aB9 x) ws true n):=fun w' k=>⟨v,k.put 10 _ (aB9 x) v rfl ⟨rfl,rfl,rfl⟩ ⟨rfl,rfl,rfl,rfl,rfl,rfl,rfl⟩,hv.tick⟩
 obtain⟨ff,hff⟩:∃ ff,partF x.part=ff:=⟨_,rfl⟩
 have hcall:=aT9 x.part;have h12:Hid (∀ w',Mid W G0 b z mb mg w' x v ws true n->(w'.setCell ⟨b,10,none⟩ (.int .i64 (x.steps+1))).cell? ⟨b,12,none⟩=some (.func (.func ff) #[] #[])/\w'.cell? ⟨b,10,none⟩=some (.int .i64 x.steps)/\w'.frozen? ⟨b,10,none⟩=false/\b<w'.heap.size):=fun w' k=>by
  have q:=k.put 10 (.int .i64 (x.steps+1)) (aB9 x) v rfl ⟨rfl,rfl,rfl⟩ ⟨rfl,rfl,rfl,rfl,rfl,rfl,rfl⟩;refine⟨(q.cell 12).trans ?_,(k.cell 10).trans rfl,k.free 10,k.ltB⟩
  show some v.nx=_
  rw[hv.nx,bh1 hp,hff]
  rfl
 have HF:Hid (∀ w',Full W G0 b z mb mg w' (aB9 x) ws true n->Calls Tryz.prog ff #[.pointer (some ⟨b,0,none⟩),.pointer (some ⟨mb,0,none⟩)] w' fun e w2=>e=.returned (.tuple #[])/\Full W G0 b z mb mg w2 y ws' (!ac) (if ac then up n else n)):=fun w' k=>by
  have:=bh5 k hT hI.tick hp hl hy;rw[show partF (aB9 x).part=ff from hff]at this;exact this
 have HZ:Hid (∀ w',Full W G0 b z mb mg w' y ws' (!ac) (if ac then up n else n)->Calls Tryz.prog 141 #[.pointer (some ⟨b,0,none⟩)] w' fun e w2=>e=.returned (.bool (decide ((y.part:Int)=9)))/\w2=w'):=fun w' k=>by
  obtain⟨v',k,kv⟩:=k.raw;exact am3 k kv.nx
 obtain⟨o',ho⟩:∃ o',o'=!ac:=⟨_,rfl⟩
 obtain⟨n',hn⟩:∃ n',n'=if ac then up n else n:=⟨_,rfl⟩
 rw[<- ho,<- hn]at HF HZ ⊢;rw[hff]at hcall
 generalize plY x=pl at h5 hl
 have hlt:¬ (ws.length:Int)<pl:=by omega
 clear h hl hv hp hy hT hI hff ho hn;go_enter Tryz.func325,Tryz.ntmps325;go_wp2_with fail;refine a05 (fun u=>u.cell? ⟨b,5,none⟩=some (.int .i64 pl) )  ((0,true)::(2,true)::(3,true)::(4,true)::(5,true)::(6,true)::(1,false)::(7,true)::[])  Md.Cv.follows13 (by kernel_rfl) (fun _ _ _ _ _ h=>h)  h5 ?_
 (repeat ((first | (refine a02 (v:=?_) rfl (by rfl) (fun wq hSq=>?_) ?_;rotate_left;(focus ((try dsimp only at hSq);go_simp;try with_reducible rfl))) | refine a03 rfl (by rfl) ?_);simp only[Act.put,zA,zB,zC]))
 (refine a04 rfl (by rfl) (fun KK hK=>?_);go_simp)
 refine HL.out.mono ?_;rintro e w1 ⟨rfl,hw⟩;subst w1;refine hK.out _ _ h5 ?_
 (clear hK KK;try simp only[Act.put,zA,zB,zC])
 (repeat ((first | (refine a02 (v:=?_) rfl (by rfl) (fun wq hSq=>?_) ?_;rotate_left;(focus ((try dsimp only at hSq);go_simp;try with_reducible rfl))) | refine a03 rfl (by rfl) ?_);simp only[Act.put,zA,zB,zC]))
 refine a07 ?_
 go_wp2_with (first
  | (go_at_call 141;refine(HZ.out _ H4.out).mono ?_;rintro e w5 ⟨rfl,hw⟩;subst w5;clear HZ)
  | (go_at_call 141;refine HO.out.mono ?_;rintro e w2 ⟨rfl,hw⟩;subst w2;clear HO)
  | (go_at_call 324;refine HOP.out.mono ?_;rintro e w3 ⟨rfl,k1,k2⟩;have H3:=zH (HM.out _ k1 k2);obtain⟨e12,e10,f10,l10⟩:=h12.out _ H3.out;clear k1 k2 HOP HM h12)
  | (refine(HF.out _ (HP.out _ H3.out)).mono ?_;rintro e w4 ⟨rfl,k⟩;have H4:=zH k;clear k HF HP H3))
 go_ret2;exact⟨rfl,H4.out⟩
end
attribute [local go_sem] a00 frombits_run a42 Md.Ce.run_store_func Md.Ce.run_store_nilFunc
def rowL (l:List Nat) (k n:Nat):List Nat:=(List.range n).map fun i=>if i<k then fixB (l.getD i 0) else 0
theorem af8 (l:List Nat) (k n:Nat):(rowL l k n).length=n:=by simp[rowL]
theorem au8 (l:List Nat) (n:Nat):rowL l 0 n=List.replicate n 0:=by
 apply List.ext_getElem
 ·simp[rowL]
 ·intro i h1 h2
  simp[rowL]
theorem aB4 {l:List Nat} {n:Nat} (h:l.length=n):rowL l n n=l.map fixB:=by
 apply List.ext_getElem
 ·simp[rowL,h]
 ·intro i h1 h2
  have hi:i<n:=by simpa[rowL]using h1
  simp[rowL,hi,h]
theorem aB5 (l:List Nat) (k n:Nat):(rowL l k n).set k (fixB (l.getD k 0))=rowL l (k+1) n:=by
 apply List.ext_getElem
 ·simp[rowL]
 ·intro i h1 h2
  rw[List.getElem_set]
  by_cases e:k=i
  ·subst e
   simp[rowL]
  ·rw[if_neg e]
   simp only[rowL,List.getElem_map,List.getElem_range]
   by_cases q:i<k
   ·rw[if_pos q,if_pos (by omega)]
   ·rw[if_neg q,if_neg (by omega)]
theorem fMk (n:Nat) (hn:n<=256) (w:World):(Instr.makeSlice 24 (.int .i64 (n:Int)) (.int .i64 (n:Int))).run Tryz.prog w=.ok (.slice (some ⟨w.heap.size,0,none⟩) n n) (w.alloc (.cells (fls (List.replicate n 0)).toArray 71)):=by
 obtain⟨i,hi,hz0,hz1,hz2⟩:=info_parts az2;rw[run_make w 24 71 i (.float .f64 0) Tryz.underlying24 hi hz0 .i64 .i64 n n (by omega) (zW _) (by rw[hz2];omega) (by omega)];have e:(madeCells (.float .f64 0:Value).cells (((n:Int)).toNat*i.size))=(fls (List.replicate n 0)).toArray:=by
  rw[hz1,Nat.mul_one,Int.toNat_natCast]
  apply Array.toList_inj.1
  rw[show (.float .f64 0:Value).cells=#[.float .f64 0] from rfl,toList_madeCells_one]
  simp[fls]
 rw[e,Int.toNat_natCast]
theorem row_made {w:World} {l:List Nat} {n:Nat} (hl:l.length=n) (hn:n<=256):RowAt 71 (w.alloc (.cells (fls l).toArray 71)) (some ⟨w.heap.size,0,none⟩) n (fls l):=⟨by
 rw[a26,hl];exact World.ownsRow_lit w _ n (zV _) (by unfold maxLen;omega) (by rw[List.size_toArray,a26,hl,Nat.mul_one])⟩
theorem as6 {w:World} {po:Option Addr} {l:List Nat} {k co:Nat} (hk:l.length=k) (hL:FlAt w po l) (hk8:k<=8):Calls Tryz.prog 130 #[.slice po k co] w fun e w'=>e=.returned (.slice (some ⟨w.heap.size,0,none⟩) k k)/\RowAt 71 w' (some ⟨w.heap.size,0,none⟩) k (fls (l.map fixB))/\Bl w w':=by
 have hmk:=fMk k (by omega) w;have HL0:Hid (∀ wr,Bl w wr->FlAt wr po l):=fun wr h=>hL.on h
 have HE:Hid (rowL l k k=l.map fixB):=aB4 hk;have HS0:Hid (RowAt 71 (w.alloc (.cells (fls (List.replicate k 0)).toArray 71)) (some ⟨w.heap.size,0,none⟩) k (fls (rowL l 0 k))):=by
  have:=row_made (w:=w) (af8 l 0 k) (by omega);rw[au8]at this ⊢;exact this
 have HAT:Hid (∀ (v x y s:Int) (w:World),Calls Tryz.prog 62 #[.agg #[.int .u64 v,.int .u64 x,.int .u64 y],.int .u64 s] w fun e w'=>e=.returned (.float .f64 (Md.Ce.atV v x y s))/\Bl w w'):=Md.Ce.cat_any;have HK:Hid (l.length=k):=hk;clear hL hk;go_enter Tryz.func130,Tryz.ntmps130
 go_wp2
 go_loopw [11] (fun vi wr=>∃ i:Nat,vi=.int .i64 i/\i<=k/\Hid (RowAt 71 wr (some ⟨w.heap.size,0,none⟩) k (fls (rowL l i k)))/\Hid (Bl w wr)) (fun vi _=>k - (intOf vi).toNat)
 case atStart=>exact⟨0,rfl,zV _,HS0.out,below_alloc w _⟩
 case round =>
  obtain⟨i,rfl,hi,HR,HB⟩:=hrel
  by_cases hlt:i<k
  ·have hlt':(i:Int)<(k:Int):=by omega
   obtain⟨g,o,rfl,hg,hx⟩:=HL0.out _ HB.out i (by rw[HK.out];exact hlt);have hAt:Hid (∀ y:Nat,Md.Ce.atV 0 (y:Int) 0 0=fixB y):=fun y=>by unfold Md.Ce.atV;rw[if_neg (by omega)];rfl
   have HS1:=zH (aB5 l i k)
   generalize l.getD i 0=y at hx HS1
   obtain⟨r0,r1,r2⟩:=row_get HR.out (j:=i) (v:=.float .f64 ((rowL l i k).getD i 0)) (by rw[at0 (by rw[af8];exact hlt)]);have HD:Hid (∀ u,Bl wr u->u.cell? ⟨w.heap.size,i,none⟩=some (.float .f64 ((rowL l i k).getD i 0))/\u.frozen? ⟨w.heap.size,i,none⟩=false/\w.heap.size<u.heap.size/\RowAt 71 (u.setCell ⟨w.heap.size,i,none⟩ (.float .f64 (fixB y))) (some ⟨w.heap.size,0,none⟩) k (fls (rowL l (i+1) k))/\Bl w (u.setCell ⟨w.heap.size,i,none⟩ (.float .f64 (fixB y)))):=fun u hu=>by
    have h1:=HR.out.on hu;obtain⟨a1,a2,a3⟩:=row_get h1 (j:=i) (v:=.float .f64 ((rowL l i k).getD i 0)) (by rw[at0 (by rw[af8];exact hlt)]);have q:=(row_put h1 i (.float .f64 (fixB y))).1;rw[b19,HS1.out]at q;exact⟨a1,a2,a3,q,(HB.out.trans (hu.mono HB.out.size)).setCell (zE _) _⟩
   clear HL0 HS0
   go_wp2_with (go_at_call 62;refine(HAT.out _ _ _ _ _).mono ?_;rintro e u ⟨rfl,hb⟩;rw[hAt.out];obtain⟨a1,a2,a3,a4,a5⟩:=HD.out _ hb;have HZ:=zH (And.intro a4 a5);clear a4 a5 hb)
   exact⟨⟨i+1,by first | rfl | (congr 1),by omega,HZ.out.1,HZ.out.2⟩,by simp[intOf];omega⟩
  ·have hlt':¬ (i:Int)<(k:Int):=by omega
   obtain rfl:i=k:=by omega
   have HZ:=zH HR.out;rw[HE.out]at HZ
   go_wp2
   go_ret;exact⟨rfl,HZ.out,HB.out⟩
theorem heap_old {w:World} {o y:Obj} {k:Nat} (e:w.heap[k]?=some y):(w.alloc o).heap[k]?=some y:=(Below.heap_alloc _ _ _ (Array.getElem?_eq_some_iff.1 e).1).trans e
theorem aN4 {w:World} {x:Nat} {v0 v1 v2 v3 v4 v5:Value} {T:TypeId} (h:w.heap[x]?=some (.cells #[v0,v1,v2,v3,v4,v5] T (0,0))):w.cell? ⟨x,0,none⟩=some v0/\w.cell? ⟨x,1,none⟩=some v1/\w.cell? ⟨x,2,none⟩=some v2/\w.cell? ⟨x,3,none⟩=some v3/\w.cell? ⟨x,4,none⟩=some v4/\w.cell? ⟨x,5,none⟩=some v5/\x<w.heap.size :=
 ⟨(zR w x 0 _ _ _ h).trans rfl,(zR w x 1 _ _ _ h).trans rfl,(zR w x 2 _ _ _ h).trans rfl,(zR w x 3 _ _ _ h).trans rfl,(zR w x 4 _ _ _ h).trans rfl,(zR w x 5 _ _ _ h).trans rfl,lt_of_block h⟩
theorem cells4 {w:World} {x:Nat} {v0 v1 v2 v3:Value} {T:TypeId} (h:w.heap[x]?=some (.cells #[v0,v1,v2,v3] T (0,0))):w.cell? ⟨x,0,none⟩=some v0/\w.cell? ⟨x,1,none⟩=some v1/\w.cell? ⟨x,2,none⟩=some v2/\w.cell? ⟨x,3,none⟩=some v3/\x<w.heap.size :=
 ⟨(zR w x 0 _ _ _ h).trans rfl,(zR w x 1 _ _ _ h).trans rfl,(zR w x 2 _ _ _ h).trans rfl,(zR w x 3 _ _ _ h).trans rfl,lt_of_block h⟩
theorem aC9 {w:World} {x:Nat} {v0 v1:Value} {T:TypeId} (h:w.heap[x]?=some (.cells #[v0,v1] T (0,0))):w.cell? ⟨x,0,none⟩=some v0/\w.cell? ⟨x,1,none⟩=some v1/\x<w.heap.size :=
 ⟨(zR w x 0 _ _ _ h).trans rfl,(zR w x 1 _ _ _ h).trans rfl,lt_of_block h⟩
def newY (a b c e t:Int) (cs:List Ins) (l:List Nat) (th:Int):Wx:=⟨a,b,th,t,l.map fixB,newM a c e t cs l,0,1,0,0,[],0,0⟩
theorem bu9 {a b c e t:Int} {cs:List Ins} {l:List Nat} {th:Int} (hc:Md.cfgB a b c e=true) (hx:∀ k,k<cs.length->(ci cs k).x<18446744073709551616) (hl:∀ x∈l,x<18446744073709551616) (hk:l.length<=8) (ht:0<=th/\th<b):InY (newY a b c e t cs l th):=by
 obtain⟨h1,h2,h3,h4⟩:=Md.cfgB_iff.1 hc;have z:u64B 0:=⟨by decide,by decide⟩;exact⟨h1,h2,rfl,ht,bh0 hc hx hl,by show (l.map fixB).length<=8;simpa using hk,⟨by show 1<=1;omega,by show 1<=9;omega⟩,z,z,rfl,(fun v hv=>by cases hv),fun _=>rfl,(fun q=>by have q':5<=1:=q;omega),(fun q=>by have q':5<=1:=q;omega),fun _=>rfl,(fun q=>by have q':1=5:=q;omega),(fun q=>by have q':1=6:=q;omega)⟩
structure Made (w w':World) (bx:Nat) (x:Wx):Prop where
 at_:∃ z v,RawAt w' bx x z v/\VOk x v/\Abv w.heap.size (gY bx v)/\Abv w.heap.size z.KK
 bl:Bl w w'
section
variable {w:World} {a b c e t th:Int} {ao:Option Addr} {cs:List Ins} {n cap:Nat} {po:Option Addr} {l:List Nat} {k co:Nat}
abbrev aV5 (b p4 p5 t:Int) (pa k bm:Nat):Array Value:=#[.int .i64 0,.int .i64 1,.int .i64 2,.int .i64 3,.int .i64 p4,.int .i64 p5,.int .i64 b,.int .i64 t,.slice (some ⟨pa,0,none⟩) k k,.pointer (some ⟨bm,0,none⟩),.int .i64 0,.int .i64 0,.nilFunc,.int .u64 0,.int .u64 0,.slice none 0 0,.pointer none,.int .i64 0,.pointer none,.int .u64 0]
theorem aV1 {u:World} {g:Nat} {p4 p5:Int} {pa bm:Nat} (h:u.heap[g]?=some (.cells (aV5 b p4 p5 t pa k bm) 209 (0,0))) (f:FuncId):Calls Tryz.prog 131 #[.pointer (some ⟨g,0,none⟩),.int .i64 1,.func (.func f) #[] #[]] u fun e w'=>e=.returned (.tuple #[])/\w'=(u.setCell ⟨g,11,none⟩ (.int .i64 1)).setCell ⟨g,12,none⟩ (.func (.func f) #[] #[]):=by
 have h11:u.cell? ⟨g,11,none⟩=some (.int .i64 0):=(zR u g 11 _ _ _ h).trans rfl;have f11:=zZ u g 11 _ _ h;have h1:=zS u g 11 _ _ (.int .i64 1) h;have h12:(u.setCell ⟨g,11,none⟩ (.int .i64 1)).cell? ⟨g,12,none⟩=some .nilFunc:=(zR _ g 12 _ _ _ h1).trans rfl;have f12:=zZ _ g 12 _ _ h1;have hb:=lt_of_block h;clear h h1;go_enter Tryz.func131,Tryz.ntmps131
 go_wp2
 go_end0
 exact⟨rfl,rfl⟩
theorem aK9 {u2 u3:World} {bm:Nat} {K:List Nat} {N:World} (hk:l.length=k) (hN:Bl w N) (g:Gm N [] bm K u2 (newM a c e t cs l)) (hK:Abv N.heap.size K) (hr:RowAt 71 u3 (some ⟨u2.heap.size,0,none⟩) k (fls (l.map fixB))) (hb:Bl u2 u3) {v:World} (hv:v=(((u3.alloc (.cells (aV5 b (3+b) (3+b+3*a) t u2.heap.size k bm) 209)).setCell ⟨u3.heap.size,11,none⟩ (.int .i64 1)).setCell ⟨u3.heap.size,12,none⟩ (.func (.func 132) #[] #[]))):Made w v u3.heap.size (newY a b c e t cs l th):=by
 obtain⟨F,hM,tF⟩:=g.mc;have lo:Abv N.heap.size F:=fun i hi=>(tF.own i hi).elim (fun q=>by simp at q) id
 have sN:=hN.size;have s2:=tF.size;have s3:=hb.size;have lF:=hM.blw;have lK:=hM.blwK;have lr:=hr.blw;have hbx:v.heap[u3.heap.size]?=some (.cells (boxY (newY a b c e t cs l th) ⟨bm,K,some ⟨u2.heap.size,0,none⟩,k⟩ ⟨none,0,none,⟨0,0,0,0,0⟩,none,⟨0,0,0,0,0,0⟩,0,0,fnV 132,F⟩) 209 (0,0)):=by
  have h0:(u3.alloc (.cells (aV5 b (3+b) (3+b+3*a) t u2.heap.size k bm) 209)).heap[u3.heap.size]?=_:=zN _ _;have h1:=zS _ u3.heap.size 11 _ _ (.int .i64 1) h0;have h2:=zS _ u3.heap.size 12 _ _ (.func (.func 132) #[] #[]) h1;rw[hv];refine h2.trans ?_;unfold boxY newY ptrV fnV;dsimp only;rw[List.length_map,hk]
  rfl
 have kp:∀ i,i<u3.heap.size->v.heap[i]?=u3.heap[i]?:=fun i hi=>by
  rw[hv];exact(zO _ _ _ _ (fun (e:i=u3.heap.size)=>by omega)).trans ((zO _ _ _ _ (fun (e:i=u3.heap.size)=>by omega)).trans (Below.heap_alloc _ _ _ hi))
 have sv:u3.heap.size<=v.heap.size:=by rw[hv];simp
 have b3:Bl u3 v:=⟨by rw[hv];rfl,by rw[hv];rfl,by rw[hv];rfl,sv,kp⟩;have b2:Bl u2 v:=hb.trans (b3.mono s3);refine⟨⟨_,_,⟨hbx,hM.on b2,⟨World.ownsRow_nil _ _ _ _⟩,(fun n hn=>by cases hn),(fun n hn=>by cases hn),?_,?_⟩,⟨rfl,(fun q=>by cases q),fun _=>rfl,(fun q=>by cases q),(show wrap64 0=0 from by decide +kernel)⟩,?_,?_⟩,?_⟩
 ·exact hr.on b3
 ·intro i j hij y hy hz
  have A:∀ i y,y∈(LY u3.heap.size ⟨bm,K,some ⟨u2.heap.size,0,none⟩,k⟩ ⟨none,0,none,⟨0,0,0,0,0⟩,none,⟨0,0,0,0,0,0⟩,0,0,fnV 132,F⟩).getD i []->(i=0/\y=u3.heap.size)∨(i=4/\y∈F)∨(i=5/\(y∈K∨y=u2.heap.size)):=fun i y hy=>by
   match i,hy with
   | 0,hy=>exact .inl ⟨rfl,by simpa[LY]using hy⟩
   | 1,hy=>simp[LY,fpR]at hy
   | 2,hy=>simp[LY]at hy
   | 3,hy=>simp[LY]at hy
   | 4,hy=>exact .inr (.inl ⟨rfl,hy⟩)
   | 5,hy=>exact .inr (.inr ⟨rfl,by simpa[LY,Wz.KK,fpR,eq_comm]using hy⟩)
   | i+6,hy=>simp[LY]at hy
  have l2:u2.heap.size<u3.heap.size:=lr _ (by simp[fpR]);have sK:=hM.sepK
  rcases A i y hy with⟨h1,h2⟩ | ⟨h1,h2⟩ | ⟨h1,h2⟩ <;> rcases A j y hz with⟨g1,g2⟩ | ⟨g1,g2⟩ | ⟨g1,g2⟩
  ·omega
  ·have:=lF y g2;omega
  ·rcases g2 with g2 | g2
   ·have:=lK y g2;omega
   ·omega
  ·have:=lF y h2;omega
  ·omega
  ·rcases g2 with g2 | g2
   ·exact sK y g2 h2
   ·have:=lF y h2;omega
  ·rcases h2 with h2 | h2
   ·have:=lK y h2;omega
   ·omega
  ·rcases h2 with h2 | h2
   ·exact sK y h2 g2
   ·have:=lF y g2;omega
  ·omega
 ·intro i hi
  rcases mem_gY.1 hi with hi | hi | hi | hi | hi
  ·omega
  ·simp[fpR]at hi
  ·cases hi
  ·cases hi
  ·have:=lo i hi;omega
 ·intro i hi
  have q':i∈K∨i=u2.heap.size:=by simpa[Wz.KK,fpR,eq_comm]using hi
  rcases q' with q' | q'
  ·have:=hK i q';omega
  ·omega
 ·have bN:Bl N u2:=g.fresh
  exact hN.trans ((bN.trans (b2.mono s2)).mono sN)
theorem new_yes (hc:Md.cfgB a b c e=true) (hn:cs.length=n) (hk:l.length=k) (hk8:k<=8) (hT:Shaped5 w) (hC:a35 w ao cs) (hL:FlAt w po l) (hnl:n<=9223372036854775807) (h0:0<=th) (h1:th<b):Calls Tryz.prog 113 #[cfgV a b c e,.int .i64 th,.agg #[.int .i64 t,.slice ao n cap],.slice po k co] w fun r w'=>∃ bx,r=.returned (.pointer (some ⟨bx,0,none⟩))/\Made w w' bx (newY a b c e t cs l th):=by
 have HN:Hid (∀ u,Bl w u->Calls Tryz.prog 129 #[cfgV a b c e,.agg #[.int .i64 t,.slice ao n cap],.slice po k co] u fun r w'=>∃ bm K,r=.returned (.pointer (some ⟨bm,0,none⟩))/\Gm u [] bm K w' (newM a c e t cs l)/\Abv u.heap.size K):=fun u hb=>aP0 hn hk (hT.on hb) (hC.on hb) (hL.on hb) hnl hc hk8
 have HP:=zH (fun u=>Md.place_any a b c e u);have HX:Hid (∀ u,Below (newW w a b c e t ao n cap).heap.size (newW w a b c e t ao n cap) u->u.heap[w.heap.size]?=some (cfgO a b c e)/\u.heap[w.heap.size+1]?=some (prgO t ao n cap)/\Bl w u):=fun u q=>⟨(q.block _ (by simp;omega)).trans (heap_old (zN _ _)),(q.block _ (by simp)).trans (a73 (by simp)),(a45 q).2.2⟩
 have HFX:Hid (∀ u,Bl w u->Calls Tryz.prog 130 #[.slice po k co] u fun e w'=>e=.returned (.slice (some ⟨u.heap.size,0,none⟩) k k)/\RowAt 71 w' (some ⟨u.heap.size,0,none⟩) k (fls (l.map fixB))/\Bl u w'):=fun u hb=>as6 hk (hL.on hb) hk8
 have HMD:Hid (∀ u2 u3 bm K N v,Bl w N->Gm N [] bm K u2 (newM a c e t cs l)->Abv N.heap.size K->RowAt 71 u3 (some ⟨u2.heap.size,0,none⟩) k (fls (l.map fixB))->Bl u2 u3->v=(((u3.alloc (.cells (aV5 b (3+b) (3+b+3*a) t u2.heap.size k bm) 209)).setCell ⟨u3.heap.size,11,none⟩ (.int .i64 1)).setCell ⟨u3.heap.size,12,none⟩ (.func (.func 132) #[] #[]))->Made w v u3.heap.size (newY a b c e t cs l th)):=fun u2 u3 bm K N v q1 q2 q3 q4 q5 q6=>aK9 hk q1 q2 q3 q4 q5 q6
 simp only[hc]at HP;clear hc hn hk hk8 hT hC hL hnl
 generalize newY a b c e t cs l th=X at *
 generalize newM a c e t cs l=m0 at *
 obtain⟨p5,h5⟩:∃ p5,3+b+3*a=p5:=⟨_,rfl⟩
 obtain⟨p4,h4⟩:∃ p4,3+b=p4:=⟨_,rfl⟩
 rw[h5,h4]at HMD HP;clear h4 h5;go_enter Tryz.func113,Tryz.ntmps113
 go_wp2_with (first
  | (go_at_call 129;refine(HN.out _ (HX.out _ (H1.out.alloc H1.out.size _)).2.2).mono ?_;rintro e u2 ⟨bm,K,rfl,q1,q2⟩;have G2:=zH (And.intro q1 q2);have H2:=zH (a06 (H1.out.alloc H1.out.size _) q1.fresh);obtain⟨x0,x1,x2,x3,x4⟩:=cells4 (HX.out _ H2.out).1;obtain⟨s0,s1,s2⟩:=aC9 (HX.out _ H2.out).2.1;obtain⟨t0,t1,t2,t3,t4,t5,t6⟩:=aN4 ((q1.fresh.block _ (by simp)).trans (zN u1 (.cells #[.int .i64 0,.int .i64 1,.int .i64 2,.int .i64 3,.int .i64 p4,.int .i64 p5] 45)));clear q1 q2)
  | (go_at_call 64;refine(HP.out _).mono ?_;rintro e u1 ⟨rfl,q⟩;have H1:=zH q;obtain⟨b0,b1,b3⟩:=HX.out _ q;obtain⟨c0,c1,c2,c3,c4⟩:=cells4 b0;obtain⟨d0,d1,d2⟩:=aC9 b1;clear b0 b1 b3 q))
 clear c0 c1 c2 c3 c4 d0 d1 d2 x0 x2 x3 s1;have B2:Hid (Bl w u2):=(HX.out _ H2.out).2.2;refine a05 (fun u=>(u.cell? ⟨u1.heap.size,0,none⟩=some (.int .i64 0)/\u.cell? ⟨u1.heap.size,1,none⟩=some (.int .i64 1)/\u.cell? ⟨u1.heap.size,2,none⟩=some (.int .i64 2)/\u.cell? ⟨u1.heap.size,3,none⟩=some (.int .i64 3)/\u.cell? ⟨u1.heap.size,4,none⟩=some (.int .i64 p4)/\u.cell? ⟨u1.heap.size,5,none⟩=some (.int .i64 p5))/\u.cell? ⟨w.heap.size,1,none⟩=some (.int .i64 b)/\u.cell? ⟨w.heap.size+1,0,none⟩=some (.int .i64 t) )  ((0,true)::(1,true)::(2,true)::(3,true)::(4,true)::(5,true)::(7,true)::(6,false)::(8,true)::(9,false)::(10,true)::[])  Md.Cv.follows13 (by kernel_rfl) (fun _ _ _ _ _ h=>h)  ⟨⟨t0,t1,t2,t3,t4,t5⟩,x1,s0⟩ ?_
 (repeat ((first | (refine a02 (v:=?_) rfl (by rfl) (fun wq hSq=>?_) ?_;rotate_left;(focus ((try dsimp only at hSq);go_simp;try with_reducible rfl))) | refine a03 rfl (by rfl) ?_);simp only[Act.put,zA,zB,zC]))
 (refine a04 rfl (by rfl) (fun KK hK=>?_);go_simp)
 refine(HFX.out _ (B2.out.trans ((Same.drew u2).below _))).mono ?_;rintro e u3 ⟨rfl,q1,q2⟩;have H3:Hid (RowAt 71 u3 (some ⟨u2.heap.size,0,none⟩) k (fls (l.map fixB))/\Bl u2 u3):=⟨q1,((Same.drew u2).below _).trans q2⟩;clear q1 q2;have ck:∀ (g j:Nat) (v:Value),g<u2.heap.size->u2.cell? ⟨g,j,none⟩=some v->u3.cell? ⟨g,j,none⟩=some v:=fun g j v hg hv=>(H3.out.2.cell (p:=⟨g,j,none⟩) hg).trans hv
 have ck2:∀ (o:Obj) (g j:Nat) (v:Value),g<u2.heap.size->u2.cell? ⟨g,j,none⟩=some v->(u3.alloc o).cell? ⟨g,j,none⟩=some v:=fun o g j v hg hv=>(World.cell?_alloc_old _ _ _ (by have:=H3.out.2.size;show g≠u3.heap.size;omega)).trans (ck g j v hg hv)
 refine hK.out _ _ ⟨⟨ck _ _ _ t6 t0,ck _ _ _ t6 t1,ck _ _ _ t6 t2,ck _ _ _ t6 t3,ck _ _ _ t6 t4,ck _ _ _ t6 t5⟩,ck _ _ _ x4 x1,ck _ _ _ s2 s0⟩ ?_
 (clear hK KK;try simp only[Act.put,zA,zB,zC])
 (repeat ((first | (refine a02 (v:=?_) rfl (by rfl) (fun wq hSq=>?_) ?_;rotate_left;(focus ((try dsimp only at hSq);go_simp;try with_reducible rfl))) | refine a03 rfl (by rfl) ?_);simp only[Act.put,zA,zB,zC]))
 (refine a04 rfl (by rfl) (fun KK hK=>?_);go_simp)
 refine hK.out _ _ ⟨⟨ck2 _ _ _ _ t6 t0,ck2 _ _ _ _ t6 t1,ck2 _ _ _ _ t6 t2,ck2 _ _ _ _ t6 t3,ck2 _ _ _ _ t6 t4,ck2 _ _ _ _ t6 t5⟩,ck2 _ _ _ _ x4 x1,ck2 _ _ _ _ s2 s0⟩ ?_;clear ck ck2
 (clear hK KK;try simp only[Act.put,zA,zB,zC])
 (repeat ((first | (refine a02 (v:=?_) rfl (by rfl) (fun wq hSq=>?_) ?_;rotate_left;(focus ((try dsimp only at hSq);go_simp;try with_reducible rfl))) | refine a03 rfl (by rfl) ?_);simp only[Act.put,zA,zB,zC]))
 refine a07 ?_;clear t0 t1 t2 t3 t4 t5 t6 x1 x4 s0 s2;have HTT:Hid (Calls Tryz.prog 131 #[.pointer (some ⟨u3.heap.size,0,none⟩),.int .i64 1,.func (.func 132) #[] #[]] (u3.alloc (.cells (aV5 b p4 p5 t u2.heap.size k bm) 209)) fun e w'=>e=.returned (.tuple #[])/\w'=((u3.alloc (.cells (aV5 b p4 p5 t u2.heap.size k bm) 209)).setCell ⟨u3.heap.size,11,none⟩ (.int .i64 1)).setCell ⟨u3.heap.size,12,none⟩ (.func (.func 132) #[] #[])):=aV1 (zN _ _) 132
 go_wp2_with (go_at_call 131;refine HTT.out.mono ?_;rintro e u4 ⟨rfl,hu⟩;have HU:=zH hu;clear hu HTT)
 go_ret;exact⟨_,rfl,HMD.out _ _ _ _ _ _ (HX.out _ (H1.out.alloc H1.out.size _)).2.2 G2.out.1 G2.out.2 H3.out.1 H3.out.2 HU.out⟩
end
end Go.Proofs.YtlkldgopliablaaGreatDoor.Ww
namespace Go.Proofs.YtlkldgopliablaaGreatDoor.Md.Ce
open Go.ChangeShapes Go.WideShapes Go.ChangeAt Go.RowKit Num
attribute [local go_sem] a00 run_store_func run_store_nilFunc
def FlAt (w:World) (L:List Nat) (p:Option Addr) (l:List Nat):Prop :=
 ∀ i,i<l.length->∃ g o,p=some ⟨g,o,none⟩/\g<w.heap.size/\g∉L/\w.cell? ⟨g,o+i,none⟩=some (.float .f64 (l.getD i 0))
theorem FlAt.ch {w w':World} {L:List Nat} {p:Option Addr} {l:List Nat} (h:FlAt w L p l) (k:Ch L w w'):FlAt w' L p l:=fun i hi=>by
 obtain⟨g,o,h1,h2,h3,h4⟩:=h i hi;exact⟨g,o,h1,zL h2 k.size,h3,(World.cell?_of_block (a:=⟨g,o+i,none⟩) (k.block g h2 h3)).trans h4⟩
def aG5 (a b c d p f:Int):Array Value:=#[.int .i64 a,.int .i64 b,.int .i64 c,.int .i64 d,.int .i64 p,.int .i64 f]
structure Sa (w wr:World) (b g:Nat) (P:Array Value) (ws:List Int) (o:Bool) (n:Int):Prop where
 mem:MemAt 145 wr b g ws o n
 chg:Chg b g w wr
 plan:wr.heap[w.heap.size]?=some (.cells P 45 (0,0))
 lb:b<w.heap.size
 lg:g<w.heap.size
section
variable {w wr u:World} {b g:Nat} {P:Array Value} {ws ws':List Int} {o o':Bool} {n n':Int}
theorem Sa.on (h:Sa w wr b g P ws o n) (k:Bl wr u):Sa w u b g P ws o n :=
 ⟨h.mem.on k,h.chg.trans ⟨k.os,k.tape,k.output,k.size,fun i hi _ _=>k.block i hi⟩,(k.block _ (lt_of_block h.plan)).trans h.plan,h.lb,h.lg⟩
theorem Sa.next (h:Sa w wr b g P ws o n) (m:MemAt 145 u b g ws' o' n') (k:Chg b g wr u):Sa w u b g P ws' o' n' :=
 ⟨m,h.chg.trans k,(k.block _ (lt_of_block h.plan) (by have:=h.lb;omega) (by have:=h.lg;omega)).trans h.plan,h.lb,h.lg⟩
end
structure Sb (w wr u:World) (b g:Nat) (P:Array Value) (p c:Int) (ws:List Int) (o:Bool) (n:Int):Prop where
 sa:Sa w u b g P ws o n
 spot:u.heap[wr.heap.size]?=some (.cells #[.int .i64 p,.int .i64 c] 175 (0,0))
 big:w.heap.size<=wr.heap.size
section
variable {w wr u u':World} {b g:Nat} {P:Array Value} {p c:Int} {ws ws':List Int} {o o':Bool} {n n':Int}
theorem Sb.on (h:Sb w wr u b g P p c ws o n) (k:Bl u u'):Sb w wr u' b g P p c ws o n:=⟨h.sa.on k,(k.block _ (lt_of_block h.spot)).trans h.spot,h.big⟩
theorem Sb.next (h:Sb w wr u b g P p c ws o n) (m:MemAt 145 u' b g ws' o' n') (k:Chg b g u u'):Sb w wr u' b g P p c ws' o' n' :=
 ⟨h.sa.next m k,(k.block _ (lt_of_block h.spot) (by have:=h.big;have:=h.sa.lb;omega) (by have:=h.big;have:=h.sa.lg;omega)).trans h.spot,h.big⟩
end
theorem box6 {w:World} {x:Nat} {a1 a2 a3 a4 p a6:Int} {T:TypeId} (h:w.heap[x]?=some (.cells (aG5 a1 a2 a3 a4 p a6) T (0,0))):(w.cell? ⟨x,0,none⟩=some (.int .i64 a1)/\w.cell? ⟨x,1,none⟩=some (.int .i64 a2)/\w.cell? ⟨x,2,none⟩=some (.int .i64 a3)/\w.cell? ⟨x,3,none⟩=some (.int .i64 a4)/\w.cell? ⟨x,4,none⟩=some (.int .i64 p)/\w.cell? ⟨x,5,none⟩=some (.int .i64 a6)/\x<w.heap.size) :=
 ⟨by rw[zR w x 0 _ _ _ h];rfl,by rw[zR w x 1 _ _ _ h];rfl,by rw[zR w x 2 _ _ _ h];rfl,by rw[zR w x 3 _ _ _ h];rfl,by rw[zR w x 4 _ _ _ h];rfl,by rw[zR w x 5 _ _ _ h];rfl,lt_of_block h⟩
def bD5 (ws:List Int) (p:Int) (i:Nat) (x:Nat):List Int:=poked (poked (poked ws (placeI p i 0) 0) (placeI p i 1) (fixB x)) (placeI p i 2) 0
def startL (ws:List Int) (p:Int) (l:List Nat):Nat->List Int
 | 0=>ws
 | k+1=>bD5 (startL ws p l k) p k (l.getD k 0)
def startE (ws:List Int) (p:Int) (l:List Nat):Int:=if 256<l.length then 2 else if (List.range l.length).all (fun i=>okP ws p i) then 0 else 30
theorem aO9 {k:Nat} (h:k<256):mayC k=true:=zT ⟨by omega,by omega⟩
section
variable {w:World} {b g:Nat} {ws:List Int} {o:Bool} {n:Int} {ao:Option Addr} {cap:Nat} {l:List Nat}
theorem aU7 (a1 a2 a3 a4 p a6:Int) {m:Nat} (hl:256<m) (w:World):Calls Tryz.prog 66 #[.pointer (some ⟨b,0,none⟩),planV a1 a2 a3 a4 p a6,.slice ao m cap] w fun e w'=>e=.returned (.int .i64 2)/\Bl w w':=by
 have hl':(256:Int)<(m:Int):=by omega
 unfold planV;go_enter Tryz.func66,Tryz.ntmps66
 go_wp2
 go_ret;exact⟨rfl,a31 (zF _ _) _⟩
theorem bl3 (h:MemAt 145 w b g ws o n) (hf:FlAt w [b,g] ao l) (a1 a2 a3 a4 p a6:Int) {m:Nat} (hm:l.length=m) (hl:m<=256):Calls Tryz.prog 66 #[.pointer (some ⟨b,0,none⟩),planV a1 a2 a3 a4 p a6,.slice ao m cap] w fun e w'=>((e=.returned (.int .i64 0)/\(∀ j:Nat,j<m->okP ws p j=true)/\MemAt 145 w' b g (startL ws p l m) o n)∨(e=.returned (.int .i64 30)/\(∃ j:Nat,j<m/\okP ws p j=false)/\MemAt 145 w' b g ws o n))/\Chg b g w w':=by
 have hl':¬ (256:Int)<(m:Int):=by omega
 have HSA:Hid (Sa w (w.alloc (.cells (aG5 a1 a2 a3 a4 p a6) 45)) b g (aG5 a1 a2 a3 a4 p a6) ws o n):=⟨h.alloc _,(Chg.refl _ _ _).alloc _,a91 rfl,h.ltB,h.ltG⟩;have HPK:Hid (∀ u ws',Sa w u b g (aG5 a1 a2 a3 a4 p a6) ws' o n->∀ c:Int,Calls Tryz.prog 61 #[.pointer (some ⟨b,0,none⟩),planV a1 a2 a3 a4 p a6,.int .i64 c] u fun e w'=>e=.returned (.tuple #[av5 (peekW ws' p c 0) (peekW ws' p c 1) (peekW ws' p c 2),.int .i64 (peekE ws' p c)])/\Bl u w'):=fun u ws' k c=>cpeek_any k.mem a1 a2 a3 a4 p a6 c
 have HFL:Hid (∀ u ws' ,Sa w u b g (aG5 a1 a2 a3 a4 p a6) ws' o n->∀ k,k<m->∃ g o,ao=some ⟨g,o,none⟩/\g<u.heap.size/\u.cell? ⟨g,o+k,none⟩=some (.float .f64 (l.getD k 0))):=fun u ws' q k hk=>by
  obtain⟨g',o',h1,h2,h3,h4⟩:=(hf.ch (q.chg.ch (by simp) (by simp))) k (by omega);exact⟨g',o',h1,h2,h4⟩
 have HML:=zH (And.intro hm hl);unfold planV at HPK ⊢;clear h hf hm hl;go_enter Tryz.func66,Tryz.ntmps66
 go_wp2
 go_loopw [18] (fun vi wr=>∃ k:Nat,vi=.int .i64 k/\k<=m/\Hid (Sa w wr b g (aG5 a1 a2 a3 a4 p a6) ws o n)/\Hid (∀ j:Nat,j<k->okP ws p j=true)) (fun vi _=>m - (intOf vi).toNat)
 case atStart=>exact⟨0,rfl,zV _,HSA,fun j hj=>absurd hj (zI j)⟩
 case round =>
  clear HSA;obtain⟨k,rfl,hk,HS,HK⟩:=hrel;obtain⟨p0,p1,p2,p3,p4,p5,p6⟩:=box6 HS.out.plan
  by_cases hlt:k<m
  ·have hlt':(k:Int)<(m:Int):=by omega
   have hmc:mayC k=true:=aO9 (by have:=HML.out.2;omega);have HPKK:=zH (HPK.out wr ws HS.out k)
   cases hh:okP ws p k
   ·have HEX:Hid (∃ j:Nat,j<m/\okP ws p j=false):=⟨k,hlt,hh⟩
    have e1:peekE ws p k=30:=by simp[peekE,hmc,hh]
    simp only[peekW,e1]at HPKK
    simp at HPKK
    unfold av5 at HPKK;clear hh hmc e1 hk hlt HPK HFL HML HK
    go_wp2_with (go_at_call 61;refine HPKK.out.mono ?_;rintro e w2 ⟨rfl,hw⟩;have HS2:=zH (HS.out.on hw);clear hw HS)
    go_ret;exact⟨.inr ⟨rfl,HEX.out,(HS2.out.on (by repeat (first | exact zF _ _ | refine a50 ?_ | refine bl_drewN _ ?_ | refine a31 ?_ _ | refine a19 ?_ (by simp) _ _ | refine bl_setRow ?_ (by simp) _))).mem⟩,(HS2.out.on (by repeat (first | exact zF _ _ | refine a50 ?_ | refine bl_drewN _ ?_ | refine a31 ?_ _ | refine a19 ?_ (by simp) _ _ | refine bl_setRow ?_ (by simp) _))).chg⟩
   ·have HALL:Hid (∀ j:Nat,j<k+1->okP ws p j=true):=fun j hj=>by
     by_cases e:j=k
     ·subst e;exact hh
     ·exact HK.out j (by omega)
    have e1:peekE ws p k=0:=by simp[peekE,hmc,hh]
    simp only[peekW,e1]at HPKK
    simp at HPKK
    unfold av5 at HPKK
    generalize wordC ws p k 0=x0 at HPKK
    generalize wordC ws p k 1=x1 at HPKK
    generalize wordC ws p k 2=x2 at HPKK
    clear hh hmc e1 hk HPK HFL HML HK
    go_wp2_with (go_at_call 61;refine HPKK.out.mono ?_;rintro e w2 ⟨rfl,hw⟩;have HS2:=zH (HS.out.on hw);clear hw HS)
    exact⟨⟨k+1,by first | rfl | (congr 1),by omega,HS2.out.on (by repeat (first | exact zF _ _ | refine a50 ?_ | refine bl_drewN _ ?_ | refine a31 ?_ _ | refine a19 ?_ (by simp) _ _ | refine bl_setRow ?_ (by simp) _)),HALL⟩,by simp[intOf];omega⟩
  ·have hlt':¬ (k:Int)<(m:Int):=by omega
   obtain rfl:k=m:=by omega
   clear hlt hk HPK
   go_wp2
   go_loopw [34] (fun vi w2=>∃ j:Nat,vi=.int .i64 j/\j<=k/\Hid (Sa w w2 b g (aG5 a1 a2 a3 a4 p a6) (startL ws p l j) o n)) (fun vi _=>k - (intOf vi).toNat)
   case atStart=>exact⟨0,rfl,zV _,HS⟩
   case round =>
    clear HS p0 p1 p2 p3 p4 p5 p6 hlt';obtain⟨j,rfl,hj,HS⟩:=hrel;obtain⟨p0,p1,p2,p3,p4,p5,p6⟩:=box6 HS.out.plan
    by_cases hlt:j<k
    ·have hlt':(j:Int)<(k:Int):=by omega
     have hmc:mayC j=true:=aO9 (by have:=HML.out.2;omega);have HPL:=zH (fun (i:Int) (hi:0<=i/\i<3)=>a67 p j i hmc hi);obtain⟨g2,o2,hao,hg2,hx⟩:=HFL.out wr _ HS.out j hlt;subst hao;have HNX:Hid (startL ws p l (j+1)=bD5 (startL ws p l j) p j (l.getD j 0)):=rfl
     generalize startL ws p l j=z0 at HS HNX
     generalize l.getD j 0=x at hx HNX
     clear hmc HFL HML hj;have HX:Hid (Sb w wr (wr.alloc (.cells #[.int .i64 p,.int .i64 j] 175)) b g (aG5 a1 a2 a3 a4 p a6) p j z0 o n):=⟨HS.out.on (a31 (zF _ _) _),a91 rfl,by omega⟩
     go_wp2_with (first
      | (go_at_call 106;refine(ak6 _ _).mono ?_;rintro e w2 ⟨rfl,hw⟩;subst w2)
      | (go_at_call 99;refine(HPL.out _ (by omega) _).mono ?_;rintro e w2 ⟨rfl,hw⟩;replace HX:=zH (HX.out.on hw);obtain⟨q0,q1,q2⟩:=box2 HX.out.spot;clear hw)
      | (go_at_call 105;refine(bh7 HX.out.sa.mem _ _).mono ?_;rintro e w2 ⟨rfl,hm,hc⟩;replace HX:=zH (HX.out.next hm hc);obtain⟨q0,q1,q2⟩:=box2 HX.out.spot;clear hm hc))
     refine⟨⟨j+1,by first | rfl | (congr 1),by omega,?_⟩,by simp[intOf];omega⟩;have e0:fixB 0=0:=by decide
     have hz:=HX.out.sa;rw[e0]at hz
     show Sa _ _ _ _ _ _ _ _
     rw[HNX.out];exact hz
    ·have hlt':¬ (j:Int)<(k:Int):=by omega
     obtain rfl:j=k:=by omega
     clear hlt hj
     go_wp2
     go_ret;exact⟨.inl ⟨rfl,HK.out,HS.out.mem⟩,HS.out.chg⟩
def startW (ws:List Int) (p:Int) (l:List Nat):List Int:=if startE ws p l=0 then startL ws p l l.length else ws
theorem start_any (h:MemAt 145 w b g ws o n) (hf:FlAt w [b,g] ao l) (a1 a2 a3 a4 p a6:Int):Calls Tryz.prog 66 #[.pointer (some ⟨b,0,none⟩),planV a1 a2 a3 a4 p a6,.slice ao l.length cap] w fun e w'=>e=.returned (.int .i64 (startE ws p l))/\MemAt 145 w' b g (startW ws p l) o n/\Chg b g w w':=by
 by_cases hl:256<l.length
 ·have e1:startE ws p l=2:=by simp[startE,hl]
  have e2:startW ws p l=ws:=by simp[startW,e1]
  rw[e1,e2];exact(aU7 a1 a2 a3 a4 p a6 hl w).mono fun e w' ⟨he,hb⟩=>⟨he,h.on hb,⟨hb.os,hb.tape,hb.output,hb.size,fun i hi _ _=>hb.block i hi⟩⟩
 ·refine(bl3 h hf a1 a2 a3 a4 p a6 rfl (by omega)).mono fun e w' ⟨he,hc⟩=>?_
  rcases he with⟨he,ha,hm⟩ | ⟨he,⟨j,hj,hn⟩,hm⟩
  ·have e1:startE ws p l=0:=by
    have:(List.range l.length).all (fun i=>okP ws p i)=true:=by
     rw[List.all_eq_true];exact fun j hj=>ha j (List.mem_range.1 hj)
    simp only[startE,hl,this,if_false,if_true]
   rw[startW,e1,if_pos rfl];exact⟨he,hm,hc⟩
  ·have e1:startE ws p l=30:=by
    have:¬ (List.range l.length).all (fun i=>okP ws p i)=true:=by
     rw[List.all_eq_true];intro q;have:=q j (List.mem_range.2 hj);rw[hn]at this
     cases this
    simp only[startE,hl,this,if_false]
    rfl
   rw[startW,e1,if_neg (by decide)];exact⟨he,hm,hc⟩
end
end Go.Proofs.YtlkldgopliablaaGreatDoor.Md.Ce
namespace Go.Proofs.YtlkldgopliablaaGreatDoor.En
open Go.ChangeShapes Go.WideShapes Go.ChangeAt Go.RowKit Num Ww
open Rr (Rx a25 InX okW u64B Alike step_in newX a30)
structure Su where
 a:Int
 b:Int
 c:Int
 e:Int
 st:List Nat
 pg:List (Int × List Ins)
 cl:List (List (Int × List Nat))
def Su.n (s:Su):Nat:=s.b.toNat
def Su.cs (s:Su) (t:Nat):List (Int × List Nat):=s.cl.getD t []
def Su.call (s:Su) (t j:Nat):Int × List Nat:=(s.cs t).getD j (0,[])
def Su.prog (s:Su) (k:Int):Int × List Ins:=s.pg.getD k.toNat (0,[])
def newT (s:Su) (t:Nat) (x:Int × List Nat):Ty :=
 if (s.prog x.1).1=2 then .inr ((newY s.a s.b s.c s.e (s.prog x.1).1 (s.prog x.1).2 x.2 t).m,newY s.a s.b s.c s.e (s.prog x.1).1 (s.prog x.1).2 x.2 t)
 else .inl ((newX s.a s.b s.c s.e (s.prog x.1).1 (s.prog x.1).2 x.2 t).m,newX s.a s.b s.c s.e (s.prog x.1).1 (s.prog x.1).2 x.2 t)
def ag7 (s:Su):List Int:=Md.Ce.startW (List.replicate (3+s.b+3*s.a).toNat 0) (3+s.b) s.st
def E0 (s:Su):Eg:=⟨⟨s.a,s.b⟩,s.n,fun t=>(s.cs t).length,fun t j=>some (newT s t (s.call t j)),fun _=>none,fun _=>0,ag7 s,0,0,0⟩
def X0 (s:Su):Rs:=⟨⟨E0 s,fun _=>⟨0,0,0,0,newT s 0 (0,[])⟩,0,fun _=>0,0⟩,fun _=>false,0,fun _=>0,fun _=>0,fun _=>0⟩
def a58 (np:Nat) (x:Int × List Nat):Bool:=decide (0<=x.1) && decide (x.1<(np:Int)) && decide (x.2.length<=8)
def errS (s:Su):Int :=
 if Md.cfgB s.a s.b s.c s.e && decide ((s.st.length:Int)<=s.a) then
  (if decide (64<s.pg.length) || decide (s.b<(s.cl.length:Int)) || s.cl.any (fun l=>decide (64<l.length)) then 160
   else if s.cl.all (fun l=>l.all (a58 s.pg.length)) then 0 else 1)
 else 1
structure SuOk (s:Su):Prop where
 st:∀ x∈s.st,x<18446744073709551616
 pg:∀ p∈s.pg,∀ k,k<p.2.length->(ci p.2 k).x<18446744073709551616
 cl:∀ l∈s.cl,∀ x∈l,∀ v∈x.2,v<18446744073709551616
structure SuIn (s:Su):Prop extends SuOk s where
 cfg:Md.cfgB s.a s.b s.c s.e=true
 sl:(s.st.length:Int)<=s.a
 pl:s.pg.length<=64
 tl:(s.cl.length:Int)<=s.b
 ml:∀ l∈s.cl,l.length<=64
 may:∀ l∈s.cl,∀ x∈l,a58 s.pg.length x=true
theorem suIn {s:Su} (h:SuOk s) (e:errS s=0):SuIn s:=by
 unfold errS at e
 split at e
 ·next h1 =>
  split at e
  ·cases e
  ·next h2 =>
   split at e
   ·next h3 =>
    simp only[Bool.and_eq_true,decide_eq_true_eq]at h1;simp only[Bool.or_eq_true,decide_eq_true_eq,List.any_eq_true,not_or,not_exists,not_and,Nat.not_lt,Int.not_lt]at h2;simp only[List.all_eq_true]at h3;exact⟨h,h1.1,h1.2,h2.1.1,h2.1.2,h2.2,h3⟩
   ·cases e
 ·cases e
theorem SuIn.b8 {s:Su} (h:SuIn s):1<=s.b/\s.b<=8:=(Md.cfgB_iff.1 h.cfg).2.1
theorem SuIn.a256 {s:Su} (h:SuIn s):1<=s.a/\s.a<=256:=(Md.cfgB_iff.1 h.cfg).1
theorem SuIn.nb {s:Su} (h:SuIn s):(s.n:Int)=s.b:=by have:=h.b8;unfold Su.n;omega
theorem Su.csIn {s:Su} {t j:Nat} (hj:j<(s.cs t).length):s.cs t∈s.cl/\s.call t j∈s.cs t:=by
 unfold Su.call;rw[zG,List.getElem?_eq_getElem hj];refine⟨?_,List.getElem_mem _⟩;unfold Su.cs at hj ⊢;rw[zG]at hj ⊢
 cases e:s.cl[t]? with
 | none=>rw[e]at hj;simp at hj
 | some l=>exact List.mem_of_getElem? e
theorem SuIn.few {s:Su} (h:SuIn s) (t:Nat):(s.cs t).length<=64:=by
 by_cases q:0<(s.cs t).length
 ·exact h.ml _ (Su.csIn q).1
 ·omega
theorem SuIn.prog {s:Su} (h:SuIn s) (k:Int):∀ j,j<(s.prog k).2.length->(ci (s.prog k).2 j).x<18446744073709551616:=by
 unfold Su.prog;rw[zG]
 cases e:s.pg[k.toNat]? with
 | none=>intro j hj;simp at hj
 | some p=>exact h.pg p (List.mem_of_getElem? e)
theorem SuIn.args {s:Su} (h:SuIn s) {t j:Nat} (hj:j<(s.cs t).length):(∀ v∈(s.call t j).2,v<18446744073709551616)/\(s.call t j).2.length<=8/\0<=(s.call t j).1/\(s.call t j).1<(s.pg.length:Int):=by
 obtain⟨h1,h2⟩:=Su.csIn hj;have:=h.may _ h1 _ h2;simp only[a58,Bool.and_eq_true,decide_eq_true_eq]at this;exact⟨h.cl _ h1 _ h2,this.2,this.1.1,this.1.2⟩
def TIn (s:Su) (t:Nat) (N:Int):Ty->Prop
 | .inl (_,x)=>InX x/\x.a=s.a/\x.b=s.b/\x.th=(t:Int)
 | .inr (_,x)=>InY x/\x.a=s.a/\x.b=s.b/\x.th=(t:Int)/\0<=x.steps/\x.steps<=N
theorem TIn.mono {s:Su} {t:Nat} {N N':Int} {y:Ty} (h:TIn s t N y) (k:N<=N'):TIn s t N' y:=by
 rcases y with⟨_,x⟩ | ⟨_,x⟩
 ·exact h
 ·obtain⟨h1,h2,h3,h4,h5,h6⟩:=h
  exact⟨h1,h2,h3,h4,h5,by omega⟩
theorem bD8 {s:Su} (h:SuIn s) {t j:Nat} (ht:t<s.n) (hj:j<(s.cs t).length):TIn s t 0 (newT s t (s.call t j))/\a72 (newT s t (s.call t j))=false:=by
 obtain⟨h1,h2,_⟩:=h.args hj;have hn:=h.nb;unfold newT
 split
 ·exact⟨⟨bu9 h.cfg (h.prog _) h1 h2 ⟨by omega,by omega⟩,rfl,rfl,rfl,zW _,zW _⟩,rfl⟩
 ·exact⟨⟨a30 h.cfg (h.prog _) h1 h2 ⟨by omega,by omega⟩,rfl,rfl,rfl⟩,rfl⟩
def goW:Ty->List Int->List Int
 | .inl (_,x),ws=>(a25 x ws).2.1
 | .inr (_,x),ws=>(ac9 x ws).2.1
def goA:Ty->List Int->Bool
 | .inl (_,x),ws=>(a25 x ws).2.2
 | .inr (_,x),ws=>(ac9 x ws).2.2
theorem TIn.goes {s:Su} {t:Nat} {N:Int} {y:Ty} {ws:List Int} (h:TIn s t N y) (ho:a72 y=false) (hw:okW ws):TIn s t (N+1) (goS y ws)/\okW (goW y ws)/\(goW y ws).length=ws.length:=by
 rcases y with⟨_,x⟩ | ⟨_,x⟩
 ·obtain⟨h1,h2,h3,h4⟩:=h
  obtain⟨k1,k2,_,k4,k5⟩:=step_in h1 (zM ho) hw;exact⟨⟨k1,k2.a.trans h2,k2.b.trans h3,k2.th.trans h4⟩,k4,k5⟩
 ·obtain⟨h1,h2,h3,h4,h5,h6⟩:=h
  obtain⟨k1,k2,k3,k4,k5⟩:=bl5 h1 (zM ho) hw;exact⟨⟨k1,k2.a.trans h2,k2.b.trans h3,k2.th.trans h4,by omega,by omega⟩,k4,k5⟩
theorem bd7 (y:Ty) (ws:List Int):(goT (some y) ws).1=(if a72 (goS y ws) then none else some (goS y ws))/\(goT (some y) ws).2.1=goW y ws/\(goT (some y) ws).2.2.1=goA y ws:=by
 rcases y with⟨m,x⟩ | ⟨m,x⟩
 ·refine⟨?_,rfl,rfl⟩
  simp only[goT,goS,a72,decide_eq_true_eq]
 ·refine⟨?_,rfl,rfl⟩
  simp only[goT,goS,a72,decide_eq_true_eq]
structure WI (s:Su) (X:Rs):Prop where
 n:X.H.E.n=s.n
 nc:X.H.E.nc=fun t=>(s.cs t).length
 nx:X.H.E.nx=fun t j=>some (newT s t (s.call t j))
 ok:okW X.H.E.ws
 len:(X.H.E.ws.length:Int)=3+s.b+3*s.a
 T:∀ t y,t<s.n->X.H.E.T t=some y->TIn s t X.H.N y/\a72 y=false
 bg:∀ t,t<s.n->X.H.E.B t<=(s.cs t).length
 dn:X.H.dn=su X.H.E.B s.n
 up:∀ t y,t<s.n->X.H.E.T t=some y->X.H.at_ t<X.H.dn/\(X.H.D (X.H.at_ t)).th=t/\(X.H.D (X.H.at_ t)).en=0/\(X.H.D (X.H.at_ t)).tx=y
 un:∀ i,i<X.H.dn->(X.H.D i).en=0->X.H.E.T (X.H.D i).th=some (X.H.D i).tx/\X.H.at_ (X.H.D i).th=i
 D:∀ i,i<X.H.dn->(X.H.D i).th<s.n/\TIn s (X.H.D i).th X.H.N (X.H.D i).tx/\1<=(X.H.D i).bg/\(X.H.D i).bg<=X.H.N/\(X.H.D i).en<=X.H.N/\(X.H.D i).no<(s.cs (X.H.D i).th).length/\(a72 (X.H.D i).tx=true ↔ (X.H.D i).en≠0)
theorem bp3 {f:Nat->Nat} {m:Nat}:∀ n,(∀ i,i<n->f i<=m)->su f n<=m*n
 | 0,_=>zE _
 | n+1,h=>by
  have:=bp3 n (fun i hi=>h i (by omega));have:=h n (by omega)
  show su f n+f n<=m*(n+1)
  rw[Nat.mul_add];omega
section
variable {s:Su} {X:Rs} {t:Nat}
theorem WI.few (h:WI s X) (hs:SuIn s):X.H.dn<=512:=by
 have:=bp3 (f:=X.H.E.B) (m:=64) s.n (fun i hi=>zQ (h.bg i hi) (hs.few i));have:=hs.b8;have:=hs.nb;have:=h.dn;omega
theorem WI.less (h:WI s X) (ht:t<s.n) (hf:¬ finE X.H.E t) (hT:X.H.E.T t=none):X.H.E.B t<(s.cs t).length:=by
 have:=h.bg t ht
 rcases Nat.lt_or_eq_of_le this with q | q
 ·exact q
 ·exact absurd ⟨hT,by rw[h.nc];exact q⟩ hf
theorem aq3 (h:WI s X) (hT:X.H.E.T t=none):begH X.H t={ X.H with E:={ X.H.E with T:=upT X.H.E.T t (some (newT s t (s.call t (X.H.E.B t)))),B:=updN X.H.E.B t (X.H.E.B t+1),drw:=X.H.E.drw+(isW (some (newT s t (s.call t (X.H.E.B t))))).toNat },D:=updD X.H.D X.H.dn ⟨t,X.H.E.B t,X.H.N+1,0,newT s t (s.call t (X.H.E.B t))⟩,dn:=X.H.dn+1,at_:=updN X.H.at_ t X.H.dn,N:=X.H.N+1 }:=by
 have e:X.H.E.nx t (X.H.E.B t)=some (newT s t (s.call t (X.H.E.B t))):=by rw[h.nx]
 unfold begH begE;rw[hT,e]
 rfl
theorem ay6 {y:Ty} (hT:X.H.E.T t=some y):begH X.H t={ X.H with N:=X.H.N+1 }:=by
 unfold begH;rw[hT]
theorem az4 {H:Hs} {y:Ty} (hT:H.E.T t=some y):goH H t={ H with E:={ H.E with T:=upT H.E.T t (if a72 (goS y H.E.ws) then none else some (goS y H.E.ws)),ws:=goW y H.E.ws,cnt:=(if goA y H.E.ws then up H.E.cnt else H.E.cnt),com:=H.E.com+(goT (H.E.T t) H.E.ws).2.2.2.toNat },D:=updD H.D (H.at_ t) { H.D (H.at_ t) with tx:=goS y H.E.ws,en:=if a72 (goS y H.E.ws) then H.N else 0 } }:=by
 obtain⟨g1,g2,g3⟩:=bd7 y H.E.ws;unfold goH goE;rw[hT];dsimp only;rw[g1,g2,g3]
def begR (X:Rs) (t:Nat):Rs:={ X with H:=begH X.H t,fr:=if (X.H.E.T t).isNone then updN X.fr X.H.dn X.R else X.fr,ah:=if (X.H.E.T t).isNone then updN X.ah X.H.dn (wordAt X.H.E.ws 0 - wordAt X.H.E.ws 1).toNat else X.ah }
theorem WI.begins (h:WI s X) (hs:SuIn s) (ht:t<s.n) (hf:¬ finE X.H.E t):WI s (begR X t)/\(∃ y,(begR X t).H.E.T t=some y)/\(begR X t).H.N=X.H.N+1:=by
 cases hT:X.H.E.T t with
 | some y =>
  have e:(begR X t).H={ X.H with N:=X.H.N+1 }:=ay6 hT;refine⟨⟨by rw[e];exact h.n,by rw[e];exact h.nc,by rw[e];exact h.nx,by rw[e];exact h.ok,by rw[e];exact h.len,fun u y' hu q=>?_,by rw[e];exact h.bg,by rw[e];exact h.dn,by rw[e];exact h.up,by rw[e];exact h.un,fun i hi=>?_⟩,⟨y,by rw[e];exact hT⟩,by rw[e]⟩
  ·rw[e]at q ⊢
   obtain⟨q1,q2⟩:=h.T u y' hu q;exact⟨q1.mono (by show (X.H.N:Int)<=((X.H.N+1:Nat):Int);omega),q2⟩
  ·rw[e]at hi ⊢
   obtain⟨q1,q2,q3,q4,q5,q6⟩:=h.D i hi;exact⟨q1,q2.mono (by show (X.H.N:Int)<=((X.H.N+1:Nat):Int);omega),q3,Nat.le_succ_of_le q4,Nat.le_succ_of_le q5,q6⟩
 | none =>
  have hl:=h.less ht hf hT;obtain⟨n1,n2⟩:=bD8 hs ht hl;obtain⟨y,hy⟩:∃ y,newT s t (s.call t (X.H.E.B t))=y:=⟨_,rfl⟩
  have e:=aq3 h hT;rw[hy]at n1 n2 e;have e:(begR X t).H=_:=e;have old:∀ i,i<X.H.dn->updD X.H.D X.H.dn ⟨t,X.H.E.B t,X.H.N+1,0,y⟩ i=X.H.D i:=fun i hi=>aa6 _ _ (by omega)
  have hN:(X.H.N:Int)<=((X.H.N+1:Nat):Int):=by omega
  have ne:∀ i,i<X.H.dn->(X.H.D i).en=0->(X.H.D i).th≠t:=fun i hi e0 q=>by
   have:=(h.un i hi e0).1;rw[q,hT]at this
   cases this
  refine⟨⟨by rw[e];exact h.n,by rw[e];exact h.nc,by rw[e];exact h.nx,by rw[e];exact h.ok,by rw[e];exact h.len,fun u y' hu q=>?_,fun u hu=>?_,?_,fun u y' hu q=>?_,fun i hi e0=>?_,fun i hi=>?_⟩,⟨y,by rw[e];exact a34 _ _ _⟩,by rw[e]⟩
  ·rw[e]at q ⊢
   dsimp only at q ⊢
   by_cases c:u=t
   ·subst c
    rw[a34]at q
    cases q
    exact⟨n1.mono (by omega),n2⟩
   ·rw[a76 _ _ c]at q
    obtain⟨q1,q2⟩:=h.T u y' hu q;exact⟨q1.mono hN,q2⟩
  ·rw[e]
   dsimp only
   by_cases c:u=t
   ·subst c
    rw[a62];omega
   ·rw[aa7 _ _ c]
    exact h.bg u hu
  ·rw[e]
   dsimp only;have:=bp5 (f:=X.H.E.B) (g:=updN X.H.E.B t (X.H.E.B t+1)) s.n ht (fun i _ hne=>aa7 X.H.E.B _ hne);rw[a62]at this;have:=h.dn;omega
  ·rw[e]at q ⊢
   dsimp only at q ⊢
   by_cases c:u=t
   ·subst c
    rw[a34]at q
    cases q
    rw[a62,a61];exact⟨by omega,rfl,rfl,rfl⟩
   ·rw[a76 _ _ c]at q
    obtain⟨q1,q2⟩:=h.up u y' hu q;rw[aa7 _ _ c,old _ q1];exact⟨by omega,q2⟩
  ·rw[e]at hi e0 ⊢
   dsimp only at hi e0 ⊢
   rcases Nat.lt_or_eq_of_le (Nat.le_of_lt_succ hi) with c | c
   ·rw[old i c]at e0 ⊢
    obtain⟨q1,q2⟩:=h.un i c e0;rw[a76 _ _ (ne i c e0),aa7 _ _ (ne i c e0)];exact⟨q1,q2⟩
   ·rw[c,a61]
    exact⟨a34 _ _ _,a62 _ _ _⟩
  ·rw[e]at hi ⊢
   dsimp only at hi ⊢
   rcases Nat.lt_or_eq_of_le (Nat.le_of_lt_succ hi) with c | c
   ·rw[old i c]
    obtain⟨q1,q2,q3,q4,q5,q6⟩:=h.D i c;exact⟨q1,q2.mono hN,q3,by omega,by omega,q6⟩
   ·rw[c,a61]
    refine⟨ht,n1.mono (by omega),by dsimp only;omega,zE _,zV _,hl,?_⟩;dsimp only;rw[n2];exact⟨fun q=>(by cases q),fun q=>absurd rfl q⟩
def goR (X:Rs) (t:Nat):Rs:={ X with H:=goH X.H t }
theorem WI.goes (h:WI s X) (ht:t<s.n) {y:Ty} (hT:X.H.E.T t=some y) (hN:∀ m x,y=.inr (m,x)->x.steps<X.H.N) (h1:1<=X.H.N):WI s (goR X t):=by
 obtain⟨t1,t2⟩:=h.T t y ht hT;obtain⟨u1,u2,u3,u4⟩:=h.up t y ht hT;have t1':TIn s t ((X.H.N:Int) - 1) y:=by
  rcases y with⟨m,x⟩ | ⟨m,x⟩
  ·exact t1
  ·obtain⟨a1,a2,a3,a4,a5,a6⟩:=t1
   have:=hN m x rfl;exact⟨a1,a2,a3,a4,a5,by omega⟩
 obtain⟨g1,g2,g3⟩:=t1'.goes t2 h.ok;rw[show (X.H.N:Int) - 1+1=X.H.N by omega]at g1;have e:(goR X t).H=_:=az4 hT;obtain⟨D1,D2,D3,D4,D5,D6,D7⟩:=h.D _ u1;have at1:∀ u y',u<s.n->X.H.E.T u=some y'->u≠t->X.H.at_ u≠X.H.at_ t:=fun u y' hu q c z=>c (by rw[<- (h.up u y' hu q).2.1,z,u2])
 refine⟨by rw[e];exact h.n,by rw[e];exact h.nc,by rw[e];exact h.nx,by rw[e];exact g2,by rw[e];show ((goW y X.H.E.ws).length:Int)=_;rw[g3];exact h.len,fun u y' hu q=>?_,by rw[e];exact h.bg,by rw[e];exact h.dn,fun u y' hu q=>?_,fun i hi e0=>?_,fun i hi=>?_⟩
 ·rw[e]at q ⊢
  dsimp only at q ⊢
  by_cases c:u=t
  ·subst c
   rw[a34]at q
   cases ho:a72 (goS y X.H.E.ws) with
   | true=>rw[ho]at q;cases q
   | false=>rw[ho]at q;cases q;exact⟨g1,ho⟩
  ·rw[a76 _ _ c]at q
   exact h.T u y' hu q
 ·rw[e]at q ⊢
  dsimp only at q ⊢
  by_cases c:u=t
  ·subst c
   rw[a34]at q
   cases ho:a72 (goS y X.H.E.ws) with
   | true=>rw[ho]at q;cases q
   | false =>
    rw[ho]at q
    cases q
    rw[a61];exact⟨u1,u2,rfl,rfl⟩
  ·rw[a76 _ _ c]at q
   rw[aa6 _ _ (at1 u y' hu q c)];exact h.up u y' hu q
 ·rw[e]at hi e0 ⊢
  dsimp only at hi e0 ⊢
  by_cases c:i=X.H.at_ t
  ·subst c
   rw[a61]at e0 ⊢;dsimp only at e0 ⊢
   cases ho:a72 (goS y X.H.E.ws) with
   | true =>
    rw[ho,if_pos rfl]at e0;omega
   | false =>
    rw[u2,a34];exact⟨rfl,rfl⟩
  ·rw[aa6 _ _ c]at e0 ⊢
   obtain⟨q1,q2⟩:=h.un i hi e0;have:(X.H.D i).th≠t:=fun z=>c (by rw[<- q2,z])
   rw[a76 _ _ this];exact⟨q1,q2⟩
 ·rw[e]at hi ⊢
  dsimp only at hi ⊢
  by_cases c:i=X.H.at_ t
  ·subst c
   rw[a61];dsimp only;refine⟨D1,by rw[u2];exact g1,D3,D4,?_,D6,?_⟩
   ·split
    ·exact zE _
    ·exact zV _
   ·cases ho:a72 (goS y X.H.E.ws) with
    | true=>exact⟨fun _=>by rw[if_pos rfl];omega,fun _=>rfl⟩
    | false=>exact⟨fun q=>(by cases q),fun q=>absurd rfl q⟩
  ·rw[aa6 _ _ c]
   exact h.D i hi
theorem bl4 (X:Rs) (t:Nat):∃ stp R to_,stepR X t={ goR (begR X t) t with stp:=stp,R:=R,to_:=to_ }:=⟨_,_,_,rfl⟩
theorem WI.step (h:WI s X) (hs:SuIn s) (ht:t<s.n) (hf:¬ finE X.H.E t):WI s (stepR X t):=by
 obtain⟨h1,⟨y,hy⟩,e1⟩:=h.begins hs ht hf;have k:=h1.goes ht hy (fun m x q=>?_) (by omega)
 ·obtain⟨stp,R,to_,e⟩:=bl4 X t
  rw[e];exact⟨k.n,k.nc,k.nx,k.ok,k.len,k.T,k.bg,k.dn,k.up,k.un,k.D⟩
 ·cases hT:X.H.E.T t with
  | none =>
   have e:=aq3 h hT;have e:(begR X t).H=_:=e;rw[e]at hy;dsimp only at hy;rw[a34,q]at hy;have z:=Option.some.inj hy;unfold newT at z
   split at z
   ·cases z
    show (0:Int)<_
    omega
   ·cases z
  | some y' =>
   have e:(begR X t).H={ X.H with N:=X.H.N+1 }:=ay6 hT;rw[e]at hy;have z:y'=y:=Option.some.inj (hT.symm.trans hy);have q1:=(h.T t y' ht hT).1;rw[z,q]at q1;have:=q1.2.2.2.2.2;omega
end
end Go.Proofs.YtlkldgopliablaaGreatDoor.En
namespace Go.Proofs.YtlkldgopliablaaGreatDoor.Rr
open Go.ChangeShapes Go.WideShapes Go.ChangeAt Go.RowKit Num
attribute [local go_sem] a00
structure Dd where
 pa:Option Addr
 ca:Nat
 pr:Option Addr
 cr:Nat
 pw:Option Addr
 cw:Nat
 po:Option Addr
 co:Nat
structure DdAt (w:World) (B:Nat) (D:Dd) (args:List Nat) (m:Mac):Prop where
 a:RowAt 71 w D.pa D.ca (fls args)
 r:TRow w D.pr D.cr m.reads
 wr:TRow w D.pw D.cw m.buf
 o:RowAt 71 w D.po D.co (fls m.out)
 xa:Abv B (fpR D.pa)
 xr:Abv B (fpR D.pr)
 xw:Abv B (fpR D.pw)
 xo:Abv B (fpR D.po)
theorem DdAt.on {w w':World} {B:Nat} {D:Dd} {args:List Nat} {m:Mac} (h:DdAt w B D args m) (k:Bl w w'):DdAt w' B D args m:=⟨h.a.on k,h.r.on k,h.wr.on k,h.o.on k,h.xa,h.xr,h.xw,h.xo⟩
theorem DdAt.keep {w w':World} {B:Nat} {D:Dd} {args:List Nat} {m:Mac} (h:DdAt w B D args m) (k:∀ i,B<=i->i<w.heap.size->w'.heap[i]?=w.heap[i]?) (hs:w.heap.size<=w'.heap.size):DdAt w' B D args m :=
 ⟨h.a.keep ⟨hs,fun i hi=>k i (h.xa i hi) (h.a.blw i hi)⟩,h.r.keep ⟨hs,fun i hi=>k i (h.xr i hi) (h.r.blw i hi)⟩,h.wr.keep ⟨hs,fun i hi=>k i (h.xw i hi) (h.wr.blw i hi)⟩,h.o.keep ⟨hs,fun i hi=>k i (h.xo i hi) (h.o.blw i hi)⟩,h.xa,h.xr,h.xw,h.xo⟩
theorem DdAt.mono {w:World} {B B':Nat} {D:Dd} {args:List Nat} {m:Mac} (h:DdAt w B D args m) (k:B'<=B):DdAt w B' D args m:=⟨h.a,h.r,h.wr,h.o,h.xa.mono k,h.xr.mono k,h.xw.mono k,h.xo.mono k⟩
abbrev dC (t:Int) (na:Nat) (m:Mac) (D:Dd) (mark e0 e1 e2 st:Int):Array Value:=#[.int .i64 0,.int .i64 0,.int .i64 0,.int .i64 t,.slice D.pa na D.ca,.int .i64 mark,.int .i64 0,.slice D.pr m.reads.length D.cr,.slice D.pw m.buf.length D.cw,.slice D.po m.out.length D.co,.int .i64 e0,.int .i64 e1,.int .i64 e2,.int .i64 0,.int .i64 0,.int .i64 st,.int .i64 0,.int .i64 0,.int .i64 0]
abbrev dZ:Obj:=.cells #[.int .i64 0,.int .i64 0,.int .i64 0,.int .i64 0,.slice none 0 0,.int .i64 0,.int .i64 0,.slice none 0 0,.slice none 0 0,.slice none 0 0,.int .i64 0,.int .i64 0,.int .i64 0,.int .i64 0,.int .i64 0,.int .i64 0,.int .i64 0,.int .i64 0,.int .i64 0] 65
theorem ab8 {fn:Func} {p:Tmp} (h:fn.results=#[.cell p 65]) {R:Ending->World->Prop} {a:Act} {w:World} (g:Nat) {t:Int} {na:Nat} {m:Mac} {D:Dd} {mark e0 e1 e2 st:Int} (hp:a.tmps.getD p undef=.pointer (some ⟨g,0,none⟩))
  (hg:w.heap[g]?=some (.cells (dC t na m D mark e0 e1 e2 st) 65 (0,0))) (hd:a.defers=[]) (hR:R (.returned (.agg (dC t na m D mark e0 e1 e2 st))) w):bodyPost Tryz.prog fn R .ret a w :=
 bodyPost_ret (results_cell_row h _ _ g _ _ _ _ hp hg Tryz.underlying65 rfl (by kernel_rfl)) hd hR
theorem deedInfo:(Tryz.prog.info? 65).map (·.size)=some 19:=by kernel_rfl
theorem a69 (t:Int) (na:Nat) (m:Mac) (D:Dd) (mark e0 e1 e2 st:Int):(dC t na m D mark e0 e1 e2 st).all (·.oneCell')=true:=by simp[Value.oneCell']
section
variable {w:World} {b:Nat} {x:Rx} {z:Rz} {q:Option Nat} {F:List Nat} {c:Md.Cv.Cs} {r:Md.Ce.Rd}
theorem bb9 (h:RawAt w b x z q F c r) (hI:Inv x.m) (hf:x.args.length<=8) {na:Nat} (hna:x.args.length=na) {m:Mac} (hm:x.m=m):Calls Tryz.prog 330 #[.pointer (some ⟨b,0,none⟩)] w fun e w'=>∃ D,e=.returned (.agg (dC x.tag na m D 0 0 0 0 x.steps))/\DdAt w' w.heap.size D x.args m/\Bl w w':=by
 subst hm hna;have ho:=hI.out;have hr:=hI.reads;have hu:=hI.used;have hfu:=hI.fuel;have hw0:(x.m.reads.length:Int)<=1024:=by split at hr <;> omega
 have HC:Hid (∀ u,Bl w u->Calls Tryz.prog 108 #[.slice z.pa x.args.length z.ca] u fun e w'=>∃ p' c',e=.returned (.slice p' x.args.length c')/\RowAt 71 w' p' c' (fls x.args)/\Abv u.heap.size (fpR p')/\Bl u w'):=fun u hu=>al0 (h.on hu).arg rfl (by omega)
 have HR:Hid (∀ u,Bl w u->Calls Tryz.prog 138 #[.pointer (some ⟨z.bm,0,none⟩)] u fun e w'=>∃ p' c',e=.returned (.slice p' x.m.reads.length c')/\TRow w' p' c' x.m.reads/\Abv u.heap.size (fpR p')/\Bl u w'):=fun u hu=>aH0 (h.on hu).mac.gm (by omega)
 have HWR:Hid (∀ u,Bl w u->Calls Tryz.prog 139 #[.pointer (some ⟨z.bm,0,none⟩)] u fun e w'=>e=.returned (.slice (some ⟨u.heap.size,0,none⟩) x.m.buf.length x.m.buf.length)/\TRow w' (some ⟨u.heap.size,0,none⟩) x.m.buf.length x.m.buf/\Bl u w'):=fun u hu=>aj0 (h.on hu).mac.gm
 have HOU:Hid (∀ u,Bl w u->Calls Tryz.prog 140 #[.pointer (some ⟨z.bm,0,none⟩)] u fun e w'=>∃ p' c',e=.returned (.slice p' x.m.out.length c')/\RowAt 71 w' p' c' (fls x.m.out)/\Abv u.heap.size (fpR p')/\Bl u w'):=fun u hu=>b49 (h.on hu).mac.gm (by omega)
 have HB:Hid (∀ u,Bl w u->u.cell? ⟨b,6,none⟩=some (.pointer (some ⟨z.bm,0,none⟩))/\u.cell? ⟨b,7,none⟩=some (.int .i64 x.steps)/\u.cell? ⟨b,8,none⟩=some (.int .i64 x.tag)/\u.cell? ⟨b,9,none⟩=some (.slice z.pa x.args.length z.ca)/\b<u.heap.size):=fun u hu=>⟨((h.on hu).cell 6).trans rfl,((h.on hu).cell 7).trans rfl,((h.on hu).cell 8).trans rfl,((h.on hu).cell 9).trans rfl,(h.on hu).ltB⟩
 clear h hI hf ho hr hu hfu hw0;have H0:Hid (Bl w (w.alloc dZ)/\(w.alloc dZ).heap[w.heap.size]?=some dZ):=⟨below_alloc _ _,zN _ _⟩;obtain⟨e6,e7,e8,e9,eb⟩:=HB.out _ H0.out.1;go_enter Tryz.func330,Tryz.ntmps330;go_wp2_with fail;obtain⟨w1,hw1⟩:∃ w1,w1=w.alloc dZ:=⟨_,rfl⟩
 rw[<- hw1]at H0 e6 e7 e8 e9 eb;rw[show w.alloc (.cells #[.int .i64 0,.int .i64 0,.int .i64 0,.int .i64 0,.slice none 0 0,.int .i64 0,.int .i64 0,.slice none 0 0,.slice none 0 0,.slice none 0 0,.int .i64 0,.int .i64 0,.int .i64 0,.int .i64 0,.int .i64 0,.int .i64 0,.int .i64 0,.int .i64 0,.int .i64 0] 65)=w1 from hw1.symm];clear hw1;refine a05 (fun u=>u.cell? ⟨b,6,none⟩=some (.pointer (some ⟨z.bm,0,none⟩))/\u.cell? ⟨b,7,none⟩=some (.int .i64 x.steps)/\u.cell? ⟨b,8,none⟩=some (.int .i64 x.tag)/\u.cell? ⟨b,9,none⟩=some (.slice z.pa x.args.length z.ca) )  ((0,true)::(1,true)::(2,true)::(3,true)::(4,true)::(5,true)::(6,true)::(7,true)::(9,true)::(10,true)::(11,true)::(12,true)::(14,true)::(15,true)::(16,true)::(17,true)::(19,true)::(20,true)::(21,true)::(22,true)::(24,true)::(25,true)::(26,true)::(27,true)::(8,false)::(13,false)::(18,false)::(23,false)::(28,true)::(29,false)::[])  Md.Cv.follows13 (by kernel_rfl) (fun _ _ _ _ _ h=>h)  ⟨e6,e7,e8,e9⟩ ?_
 (repeat ((first | (refine a02 (v:=?_) rfl (by rfl) (fun wq hSq=>?_) ?_;rotate_left;(focus ((try dsimp only at hSq);go_simp;try with_reducible rfl))) | refine a03 rfl (by rfl) ?_);simp only[Act.put,zA,zB,zC]))
 (refine a04 rfl (by rfl) (fun KK hK=>?_);go_simp)
 refine(HC.out _ (H0.out.1.trans ((Same.drew w1).below _))).mono ?_;rintro e u2 ⟨p2,c2,rfl,a1,a2,a3⟩;have A2:Hid (RowAt 71 u2 p2 c2 (fls x.args)/\Abv w1.heap.size (fpR p2)/\Bl w1 u2/\Bl w u2):=⟨a1,a2,((Same.drew w1).below _).trans a3,(H0.out.1.trans ((Same.drew w1).below _)).trans (a3.mono H0.out.1.size)⟩;clear a1 a2 a3;obtain⟨s6,s7,s8,s9,_⟩:=HB.out _ A2.out.2.2.2;refine hK.out _ _ ⟨s6,s7,s8,s9⟩ ?_
 (clear hK KK;try simp only[Act.put,zA,zB,zC])
 (refine a04 rfl (by rfl) (fun KK hK=>?_);go_simp)
 refine(HR.out _ A2.out.2.2.2).mono ?_;rintro e u3 ⟨p3,c3,rfl,a1,a2,a3⟩;have A3:Hid (TRow u3 p3 c3 x.m.reads/\Abv w1.heap.size (fpR p3)/\Bl u2 u3/\Bl w1 u3/\Bl w u3):=⟨a1,a2.mono A2.out.2.2.1.size,a3,A2.out.2.2.1.trans (a3.mono A2.out.2.2.1.size),A2.out.2.2.2.trans (a3.mono A2.out.2.2.2.size)⟩;clear a1 a2 a3 s6 s7 s8 s9;obtain⟨s6,s7,s8,s9,_⟩:=HB.out _ A3.out.2.2.2.2;refine hK.out _ _ ⟨s6,s7,s8,s9⟩ ?_
 (clear hK KK;try simp only[Act.put,zA,zB,zC])
 (refine a04 rfl (by rfl) (fun KK hK=>?_);go_simp)
 refine(HWR.out _ A3.out.2.2.2.2).mono ?_;rintro e u4 ⟨rfl,a1,a3⟩;have A4:Hid (TRow u4 (some ⟨u3.heap.size,0,none⟩) x.m.buf.length x.m.buf/\Abv w1.heap.size (fpR (some ⟨u3.heap.size,0,none⟩))/\Bl u3 u4/\Bl w1 u4/\Bl w u4):=⟨a1,(fun i hi=>by have:=A3.out.2.2.2.1.size;simp[fpR]at hi;omega),a3,A3.out.2.2.2.1.trans (a3.mono A3.out.2.2.2.1.size),A3.out.2.2.2.2.trans (a3.mono A3.out.2.2.2.2.size)⟩;clear a1 a3 s6 s7 s8 s9;obtain⟨s6,s7,s8,s9,_⟩:=HB.out _ A4.out.2.2.2.2;refine hK.out _ _ ⟨s6,s7,s8,s9⟩ ?_
 (clear hK KK;try simp only[Act.put,zA,zB,zC])
 (refine a04 rfl (by rfl) (fun KK hK=>?_);go_simp)
 refine(HOU.out _ A4.out.2.2.2.2).mono ?_;rintro e u5 ⟨p5,c5,rfl,a1,a2,a3⟩;have A5:Hid (RowAt 71 u5 p5 c5 (fls x.m.out)/\Abv w1.heap.size (fpR p5)/\Bl u4 u5/\Bl w1 u5/\Bl w u5):=⟨a1,a2.mono A4.out.2.2.2.1.size,a3,A4.out.2.2.2.1.trans (a3.mono A4.out.2.2.2.1.size),A4.out.2.2.2.2.trans (a3.mono A4.out.2.2.2.2.size)⟩;clear a1 a2 a3 s6 s7 s8 s9;obtain⟨s6,s7,s8,s9,sb⟩:=HB.out _ A5.out.2.2.2.2;have HZ5:Hid (u5.heap[w.heap.size]?=some dZ):=(A5.out.2.2.2.1.block _ (lt_of_block H0.out.2)).trans H0.out.2;have HDD:Hid (DdAt u5 w1.heap.size ⟨p2,c2,p3,c3,some ⟨u3.heap.size,0,none⟩,x.m.buf.length,p5,c5⟩ x.args x.m):=by
  have b5:=A5.out.2.2.1;have b4:=A4.out.2.2.1.trans (b5.mono A4.out.2.2.1.size);have b3:=A3.out.2.2.1.trans (b4.mono A3.out.2.2.1.size);exact⟨A2.out.1.on b3,A3.out.1.on b4,A4.out.1.on b5,A5.out.1,A2.out.2.1,A3.out.2.1,A4.out.2.1,A5.out.2.1⟩
 have HNE:=zH (show b≠w.heap.size/\w.heap.size<w1.heap.size from⟨fun y=>by have:=(HB.out w (zF _ _)).2.2.2.2;omega,lt_of_block H0.out.2⟩);refine hK.out _ _ ⟨s6,s7,s8,s9⟩ ?_
 (clear hK KK;try simp only[Act.put,zA,zB,zC])
 (repeat ((first | (refine a02 (v:=?_) rfl (by rfl) (fun wq hSq=>?_) ?_;rotate_left;(focus ((try dsimp only at hSq);go_simp;try with_reducible rfl))) | refine a03 rfl (by rfl) ?_);simp only[Act.put,zA,zB,zC]))
 refine a04 rfl (by rfl) (fun KK hK=>?_);refine wp_store_row 65 _ _ rfl w.heap.size (dC x.tag x.args.length x.m ⟨p2,c2,p3,c3,some ⟨u3.heap.size,0,none⟩,x.m.buf.length,p5,c5⟩ 0 0 0 0 x.steps) rfl rfl _ _ HZ5.out deedInfo rfl (a69 _ _ _ _ _ _ _ _ _) ?_;have O:∀ j,(u5.setRow w.heap.size (dC x.tag x.args.length x.m ⟨p2,c2,p3,c3,some ⟨u3.heap.size,0,none⟩,x.m.buf.length,p5,c5⟩ 0 0 0 0 x.steps)).cell? ⟨b,j,none⟩=u5.cell? ⟨b,j,none⟩:=fun j=>cell_setRow_other _ _ _ _ HNE.out.1
 refine hK.out _ _ ⟨(O 6).trans s6,(O 7).trans s7,(O 8).trans s8,(O 9).trans s9⟩ ?_;clear O
 (clear hK KK;try simp only[Act.put])
 refine a07 ?_;go_wp2_with fail;refine ab8 (D:=⟨p2,c2,p3,c3,some ⟨u3.heap.size,0,none⟩,x.m.buf.length,p5,c5⟩) (m:=x.m) rfl w.heap.size rfl (setRow_heap _ _ _ _ _ _ HZ5.out) rfl ⟨_,rfl,?_,Md.Ce.bl_setRow A5.out.2.2.2.2 (zE _) _⟩;exact(HDD.out.keep (fun i hi hl=>setRow_other _ _ _ _ (by have:=HNE.out.2;omega)) (by simp)).mono (by have:=HNE.out.2;omega)
theorem am3 (h:RawAt w b x z q F c r):Calls Tryz.prog 332 #[.pointer (some ⟨b,0,none⟩)] w fun e w'=>e=.returned (.bool (decide ((x.part:Int)=4)))/\w'=w:=by
 have h11:w.cell? ⟨b,11,none⟩=some (.int .i64 (x.part:Int)):=(h.cell 11).trans rfl;have hb:=h.ltB;clear h;go_enter Tryz.func332,Tryz.ntmps332
 go_wp2
 go_ret;exact⟨rfl,rfl⟩
def markV (x:Rx):Int:=if x.part=1 then -1 else wrap64 x.stamp
def endI (x:Rx) (v:Int):Int:=if x.part=4 then v else 0
theorem aA4 (h:RawAt w b x z q F (comC x) r) {mk:Int} (hk:markV x=mk):Calls Tryz.prog 331 #[.pointer (some ⟨b,0,none⟩)] w fun e w'=>e=.returned (.int .i64 mk)/\w'=w:=by
 have h11:w.cell? ⟨b,11,none⟩=some (.int .i64 (x.part:Int)):=(h.cell 11).trans rfl;have h12:w.cell? ⟨b,12,none⟩=some (.pointer (some ⟨z.xc,0,none⟩)):=(h.cell 12).trans rfl;have hb:=h.ltB;have HS:=zH (Md.Cv.stampC_any h.com);unfold comC at HS;dsimp only at HS;unfold markV at hk;clear h
 by_cases e:x.part=1
 ·rw[if_pos e]at hk
  subst hk;rw[e]at h11;go_enter Tryz.func331,Tryz.ntmps331
  go_wp2
  go_ret;exact⟨rfl,rfl⟩
 ·rw[if_neg e]at hk
  subst hk;have e':((x.part:Int) == 1)=false:=by simp;omega
  clear e;go_enter Tryz.func331,Tryz.ntmps331
  go_wp2_with (go_at_call 338;refine HS.out.mono ?_;rintro e w1 ⟨rfl,hw⟩;subst w1)
  go_ret;exact⟨rfl,rfl⟩
theorem ai2 {w u1:World} {D:Dd} {args:List Nat} {m:Mac} {t:Int} {na:Nat} {mk st:Int} (h:DdAt u1 (w.heap.size+1) D args m) (hb:Bl w u1) (hz:u1.heap[w.heap.size]?=some dZ):Bl w (u1.alloc (.cells (dC t na m D mk 0 0 0 st) 65))/\(u1.alloc (.cells (dC t na m D mk 0 0 0 st) 65)).heap[u1.heap.size]?=some (.cells (dC t na m D mk 0 0 0 st) 65)/\(u1.alloc (.cells (dC t na m D mk 0 0 0 st) 65)).heap[w.heap.size]?=some dZ/\DdAt (u1.alloc (.cells (dC t na m D mk 0 0 0 st) 65)) (w.heap.size+1) D args m :=
 ⟨hb.alloc hb.size _,zN _ _,heap_old hz,h.on (below_alloc _ _)⟩
theorem bs2 {u4:World} {g:Nat} {D:Dd} {m:Mac} {t:Int} {na:Nat} {mk st:Int} (h:u4.heap[g]?=some (.cells (dC t na m D mk 0 0 0 st) 65)):(((u4.setCell ⟨g,10,none⟩ (.int .i64 m.how)).setCell ⟨g,11,none⟩ (.int .i64 m.cod)).setCell ⟨g,12,none⟩ (.int .i64 m.err)).heap[g]?=some (.cells (dC t na m D mk m.how m.cod m.err st) 65):=by
 have a1:=(zS u4 g 10 _ _ (.int .i64 m.how) h).trans (show _=some (Obj.cells (dC t na m D mk m.how 0 0 st) 65) from rfl);have a2:=(zS _ g 11 _ _ (.int .i64 m.cod) a1).trans (show _=some (Obj.cells (dC t na m D mk m.how m.cod 0 st) 65) from rfl);exact(zS _ g 12 _ _ (.int .i64 m.err) a2).trans (show _=some (Obj.cells (dC t na m D mk m.how m.cod m.err st) 65) from rfl)
theorem bs1 {u4:World} {g y:Nat} {o:Obj} (h:u4.heap[y]?=some o) (hn:y≠g) (a b c:Int):(((u4.setCell ⟨g,10,none⟩ (.int .i64 a)).setCell ⟨g,11,none⟩ (.int .i64 b)).setCell ⟨g,12,none⟩ (.int .i64 c)).heap[y]?=some o:=(zO _ _ _ _ hn).trans ((zO _ _ _ _ hn).trans ((zO _ _ _ _ hn).trans h))
theorem Deed_any (h:RawAt w b x z q F (comC x) r) (hI:In0 x) {na:Nat} (hna:x.args.length=na) {m:Mac} (hm:x.m=m) {mk e0 e1 e2:Int} (hk:markV x=mk) (h0:endI x m.how=e0) (h1:endI x m.cod=e1) (h2:endI x m.err=e2):Calls Tryz.prog 327 #[.pointer (some ⟨b,0,none⟩)] w fun e w'=>∃ D,e=.returned (.agg (dC x.tag na m D mk e0 e1 e2 x.steps))/\DdAt w' w.heap.size D x.args m/\Bl w w':=by
 have HD:Hid (∀ u,Bl w u->Calls Tryz.prog 330 #[.pointer (some ⟨b,0,none⟩)] u fun e w'=>∃ D,e=.returned (.agg (dC x.tag na m D 0 0 0 0 x.steps))/\DdAt w' u.heap.size D x.args m/\Bl u w'):=fun u hu=>bb9 (h.on hu) hI.inv hI.few hna hm
 have HM:Hid (∀ u,Bl w u->Calls Tryz.prog 331 #[.pointer (some ⟨b,0,none⟩)] u fun e w'=>e=.returned (.int .i64 mk)/\w'=u):=fun u hu=>aA4 (h.on hu) hk
 have HO:Hid (∀ u,Bl w u->Calls Tryz.prog 332 #[.pointer (some ⟨b,0,none⟩)] u fun e w'=>e=.returned (.bool (decide ((x.part:Int)=4)))/\w'=u):=fun u hu=>am3 (h.on hu)
 have HE:Hid (∀ u,Bl w u->Calls Tryz.prog 142 #[.pointer (some ⟨z.bm,0,none⟩)] u fun e w'=>e=.returned (.agg #[.int .i64 m.how,.int .i64 m.cod,.int .i64 m.err])/\Bl u w'):=fun u hu=>by
  have:=end_any (h.on hu).mac.gm;rwa[hm]at this
 have HB:Hid (∀ u,Bl w u->u.cell? ⟨b,6,none⟩=some (.pointer (some ⟨z.bm,0,none⟩))/\b<u.heap.size):=fun u hu=>⟨((h.on hu).cell 6).trans rfl,(h.on hu).ltB⟩
 have hb:=h.ltB;have HL:Hid (b<w.heap.size):=hb;have H0:Hid (Bl w (w.alloc dZ)/\(w.alloc dZ).heap[w.heap.size]?=some dZ):=⟨below_alloc _ _,zN _ _⟩;have hb1:=(HB.out _ H0.out.1).2;unfold endI at h0 h1 h2;clear h hI hna hm hk
 by_cases p4:x.part=4
 ·rw[if_pos p4]at h0 h1 h2
  subst h0 h1 h2;rw[zT (by omega)]at HO;clear p4;go_enter Tryz.func327,Tryz.ntmps327
  go_wp2_with (first
   | (refine wpList_store_row rfl 65 _ _ rfl w.heap.size (dC x.tag na m D mk m.how m.cod m.err x.steps) rfl rfl _ _ Y6.out deedInfo rfl (a69 _ _ _ _ _ _ _ _ _) ?_)
   | (refine wpList_load_row rfl 65 _ rfl u1.heap.size rfl _ (dC x.tag na m D mk m.how m.cod m.err x.steps) _ _ X6.out Tryz.underlying65 rfl deedInfo ?_)
   | (go_at_call 142;refine(HE.out _ B3.out.1).mono ?_;rintro e u4 ⟨rfl,q⟩;have X4:Hid (u4.heap[u1.heap.size]?=some (.cells (dC x.tag na m D mk 0 0 0 x.steps) 65)):=(q.block _ (lt_of_block B3.out.2.1)).trans B3.out.2.1;have Y4:Hid (u4.heap[w.heap.size]?=some dZ):=(q.block _ (lt_of_block B3.out.2.2.1)).trans B3.out.2.2.1;have B5:Hid (Bl w u4/\DdAt u4 (w.heap.size+1) D x.args m):=⟨B3.out.1.trans (q.mono B3.out.1.size),B3.out.2.2.2.on q⟩;have W4:Hid (Bl u1 u4):=(below_alloc u1 _).trans (q.mono (by simp));have k10:u4.cell? ⟨u1.heap.size,10,none⟩=some (.int .i64 0):=(zR _ _ 10 _ _ _ X4.out).trans rfl;have k11:u4.cell? ⟨u1.heap.size,11,none⟩=some (.int .i64 0):=(zR _ _ 11 _ _ _ X4.out).trans rfl;have k12:u4.cell? ⟨u1.heap.size,12,none⟩=some (.int .i64 0):=(zR _ _ 12 _ _ _ X4.out).trans rfl;have f10:=zZ u4 u1.heap.size 10 _ _ X4.out;have f11:=zZ u4 u1.heap.size 11 _ _ X4.out;have f12:=zZ u4 u1.heap.size 12 _ _ X4.out;have l4:=lt_of_block X4.out;have X6:=zH (bs2 X4.out);have Y6:=zH (bs1 Y4.out (show w.heap.size≠u1.heap.size from fun e=>by have:=lt_of_block A1.out.2.2.2;omega) m.how m.cod m.err);clear q)
   | (go_at_call 332;refine(HO.out _ B3.out.1).mono ?_;rintro e u3 ⟨rfl,hw⟩;subst u3;obtain⟨t6,tb⟩:=HB.out _ B3.out.1)
   | (go_at_call 331;refine(HM.out _ B2.out.1).mono ?_;rintro e u2 ⟨rfl,hw⟩;subst u2;have B3:=zH (ai2 (mk:=mk) (t:=x.tag) (na:=na) (st:=x.steps) A1.out.1 A1.out.2.1 A1.out.2.2.2))
   | (refine wpList_store_row rfl 65 _ _ rfl u1.heap.size (dC x.tag na m D 0 0 0 0 x.steps) rfl rfl _ _ (zN _ _) deedInfo rfl (a69 _ _ _ _ _ _ _ _ _) ?_;rw[World.setRow_alloc_new];have B2:=zH (ai2 (mk:=0) (t:=x.tag) (na:=na) (st:=x.steps) A1.out.1 A1.out.2.1 A1.out.2.2.2))
   | (go_at_call 330;refine(HD.out _ H0.out.1).mono ?_;rintro e u1 ⟨D,rfl,q1,q2⟩;have A1:Hid (DdAt u1 (w.heap.size+1) D x.args m/\Bl w u1/\w.heap.size<=u1.heap.size/\u1.heap[w.heap.size]?=some dZ):=⟨q1.mono (by simp),H0.out.1.trans (q2.mono H0.out.1.size),(H0.out.1.trans (q2.mono H0.out.1.size)).size,(q2.block _ (lt_of_block H0.out.2)).trans H0.out.2⟩;have lb1:=(HB.out _ A1.out.2.1).2;clear q1 q2 HD))
  refine ab8 (D:=D) (m:=m) rfl w.heap.size rfl (setRow_heap _ _ _ _ _ _ Y6.out) rfl ⟨_,rfl,?_,?_⟩
  ·have d4:DdAt (((u4.setCell ⟨u1.heap.size,10,none⟩ (.int .i64 m.how)).setCell ⟨u1.heap.size,11,none⟩ (.int .i64 m.cod)).setCell ⟨u1.heap.size,12,none⟩ (.int .i64 m.err)) (w.heap.size+1) D x.args m:=by
    have d1:=A1.out.1;have hu:=B5.out.1.size;have hl4:=lt_of_block X4.out;have bb:=W4.out;exact d1.keep (fun i _ hl=>(zO _ _ _ _ (fun (e:i=u1.heap.size)=>by omega)).trans ((zO _ _ _ _ (fun (e:i=u1.heap.size)=>by omega)).trans ((zO _ _ _ _ (fun (e:i=u1.heap.size)=>by omega)).trans (bb.block i hl)))) (by simpa using bb.size)
   exact(d4.keep (fun i hi _=>setRow_other _ _ _ _ (by omega)) (by simp)).mono (by omega)
  ·have hs:=A1.out.2.2.1
   exact Md.Ce.bl_setRow (((B5.out.1.setCell hs _).setCell hs _).setCell hs _) (zE _) _
 ·rw[if_neg p4]at h0 h1 h2
  subst h0 h1 h2;rw[zU (by omega)]at HO;clear p4;go_enter Tryz.func327,Tryz.ntmps327
  go_wp2_with (first
   | (refine wpList_store_row rfl 65 _ _ rfl w.heap.size (dC x.tag na m D mk 0 0 0 x.steps) rfl rfl _ _ B3.out.2.2.1 deedInfo rfl (a69 _ _ _ _ _ _ _ _ _) ?_)
   | (refine wpList_load_row rfl 65 _ rfl u1.heap.size rfl _ (dC x.tag na m D mk 0 0 0 x.steps) _ _ B3.out.2.1 Tryz.underlying65 rfl deedInfo ?_)
   | (go_at_call 332;refine(HO.out _ B3.out.1).mono ?_;rintro e u3 ⟨rfl,hw⟩;subst u3;obtain⟨t6,tb⟩:=HB.out _ B3.out.1)
   | (go_at_call 331;refine(HM.out _ B2.out.1).mono ?_;rintro e u2 ⟨rfl,hw⟩;subst u2;have B3:=zH (ai2 (mk:=mk) (t:=x.tag) (na:=na) (st:=x.steps) A1.out.1 A1.out.2.1 A1.out.2.2.2))
   | (refine wpList_store_row rfl 65 _ _ rfl u1.heap.size (dC x.tag na m D 0 0 0 0 x.steps) rfl rfl _ _ (zN _ _) deedInfo rfl (a69 _ _ _ _ _ _ _ _ _) ?_;rw[World.setRow_alloc_new];have B2:=zH (ai2 (mk:=0) (t:=x.tag) (na:=na) (st:=x.steps) A1.out.1 A1.out.2.1 A1.out.2.2.2))
   | (go_at_call 330;refine(HD.out _ H0.out.1).mono ?_;rintro e u1 ⟨D,rfl,q1,q2⟩;have A1:Hid (DdAt u1 (w.heap.size+1) D x.args m/\Bl w u1/\w.heap.size<=u1.heap.size/\u1.heap[w.heap.size]?=some dZ):=⟨q1.mono (by simp),H0.out.1.trans (q2.mono H0.out.1.size),(H0.out.1.trans (q2.mono H0.out.1.size)).size,(q2.block _ (lt_of_block H0.out.2)).trans H0.out.2⟩;have lb1:=(HB.out _ A1.out.2.1).2;clear q1 q2 HD))
  refine ab8 (D:=D) (m:=m) rfl w.heap.size rfl (setRow_heap _ _ _ _ _ _ B3.out.2.2.1) rfl ⟨_,rfl,?_,Md.Ce.bl_setRow B3.out.1 (zE _) _⟩;exact(B3.out.2.2.2.keep (fun i hi _=>setRow_other _ _ _ _ (by omega)) (by simp)).mono (by omega)
end
end Go.Proofs.YtlkldgopliablaaGreatDoor.Rr
namespace Go.Proofs.YtlkldgopliablaaGreatDoor
section
variable {P:Program} {ops:Array Oper} {Q:Exit->Act->World->Prop} {md:Region.Mode} {S:World->Prop}
def wpFl (P:Program) (ops:Array Oper) (Q:Exit->Act->World->Prop) (S:World->Prop) (j:Nat) (r:List (Nat × Bool)):List (Nat × Bool)->Act->World->Prop
 | [],a,w=>wpOp P ops Q j (fun a' w'=>S w'/\ag3 P ops Q S r a' w') a w
 | (x,true)::rest,a,w=>∃ o v,ops[x]?=some o/\YieldsIf P ops S o v a/\wpFl P ops Q S j r rest (a.put o.dst v) w
 | (i,false)::rest,a,w=>wpOp P ops Q i (fun a' w'=>S w'/\wpFl P ops Q S j r rest a' w') a w/\wpOp P ops Q j (fun a' w'=>S w'/\ag3 P ops Q S ((i,false)::(rest ++ r)) a' w') a w
def flB (md:Region.Mode) (ops:Array Oper) (j:Nat) (r:List (Nat × Bool)):Array Bool->List (Nat × Bool)->Bool
 | listed,[]=>Region.ready md ops listed == [j] && seqB md ops (listed.setIfInBounds j true) r
 | listed,(x,true)::rest=>(Region.ready md ops listed).contains x && Region.free md ops listed x && flB md ops j r (listed.setIfInBounds x true) rest
 | listed,(i,false)::rest=>Region.ready md ops listed == [i,j] && flB md ops j r (listed.setIfInBounds i true) rest && seqB md ops (listed.setIfInBounds j true) ((i,false)::(rest ++ r))
theorem ai0 (hs:Region.noSelect ops=true) (hQ:∀ c t t' d w,Q (.panic c) ⟨t,d⟩ w->Q (.panic c) ⟨t',d⟩ w) {j:Nat} {r:List (Nat × Bool)}:∀ (l:List (Nat × Bool)) (listed:Array Bool) (a:Act) (w:World),flB md ops j r listed l=true->S w->wpFl P ops Q S j r l a w->wpAnyH P md ops Q S (r.length+l.length+1) listed a w
 | [],listed,a,w,hb,_,h=>by
  simp only[flB,Bool.and_eq_true,beq_iff_eq]at hb;refine wpAnyH_all (rs:=[j]) hb.1 (by simp) fun x hx=>?_
  have e:x=j:=by simpa using hx
  subst e;exact wpOp_mono (fun a' w' h'=>⟨h'.1,a66 hs hQ r _ _ _ hb.2 h'.1 h'.2⟩) h
 | (x,true)::rest,listed,a,w,hb,hS,h=>by
  simp only[flB,Bool.and_eq_true]at hb;obtain⟨o,v,ho,hy,hr⟩:=h;exact wpAnyH_take ho hs hb.1.2 hb.1.1 (fun c a w h=>am4 hQ h) hy hS (ai0 hs hQ rest _ _ _ hb.2 hS hr)
 | (i,false)::rest,listed,a,w,hb,hS,h=>by
  simp only[flB,Bool.and_eq_true,beq_iff_eq]at hb;refine wpAnyH_all (rs:=[i,j]) hb.1.1 (by simp) fun x hx=>?_
  by_cases e:x=i
  ·subst e
   exact wpOp_mono (fun a' w' h'=>⟨h'.1,ai0 hs hQ rest _ _ _ hb.1.2 h'.1 h'.2⟩) h.1
  ·have e2:x=j:=by simpa[e]using hx
   subst e2;refine wpOp_mono (fun a' w' h'=>⟨h'.1,?_⟩) h.2;have:=a66 (Q:=Q) hs hQ ((i,false)::(rest ++ r)) _ _ _ hb.2 h'.1 h'.2;have e3:((i,false)::(rest ++ r)).length=r.length+((i,false)::rest).length:=by simp;omega
   rw[e3]at this;exact this
theorem ai1 {id:Nat} {a:Act} {w:World} (S:World->Prop) (l:List (Nat × Bool)) (j:Nat) (r:List (Nat × Bool)) (hm:P.follows .mixedOrders=true) (hb:(Region.noSelect ops && r.length+l.length+1 == ops.size && flB .any ops j r (Array.replicate ops.size false) l)=true) (hQ:∀ c t t' d w,Q (.panic c) ⟨t,d⟩ w->Q (.panic c) ⟨t',d⟩ w) (hS:S w.drew) (h:wpFl P ops Q S j r l a w.drew):(Code.region id ops true).wp P Q a w:=by
 simp only[Bool.and_eq_true,beq_iff_eq]at hb;refine wp_region_held (S:=S) hm ?_;rw[<- hb.1.2];have:=ai0 (Q:=Q) (S:=S) hb.1.1 hQ l _ a w.drew hb.2 hS h;rw[<- hb.1.2]at this;exact this
theorem ae8 {x j:Nat} {r rest:List (Nat × Bool)} {o:Oper} {v:Value} {a:Act} {w:World} (ho:nth ops.toList x=some o) (hw:Region.wanted o (yielded ops a.tmps)=true) (hy:∀ w,S w->(execOp a.eval o).run P w=.ok (.value v) w) (h:wpFl P ops Q S j r rest (a.put o.dst v) w):wpFl P ops Q S j r ((x,true)::rest) a w:=⟨o,v,aF8 ho,.inl ⟨hw,hy⟩,h⟩
theorem ak5 {i j:Nat} {r rest:List (Nat × Bool)} {o:Oper} {a:Act} {w:World} (ho:nth ops.toList i=some o) (hw:Region.wanted o (yielded ops a.tmps)=true) (h:∀ K':Act->World->Prop,Shut (∀ a w,S w->wpFl P ops Q S j r rest a w->K' a w)->Oper.wp P o a w K' Q) (h2:ag3 P ops Q S ((j,false)::(i,false)::(rest ++ r)) a w):wpFl P ops Q S j r ((i,false)::rest) a w:=by
 refine⟨wpOp_step (aF8 ho) (fun K' hK=>?_),h2⟩;rw[hw];exact h K' fun a w hS hr=>hK a w ⟨hS,hr⟩
theorem aC2 {j:Nat} {r:List (Nat × Bool)} {a:Act} {w:World} (h:ag3 P ops Q S ((j,false)::r) a w):wpFl P ops Q S j r [] a w:=h
end
end Go.Proofs.YtlkldgopliablaaGreatDoor
namespace Go.Proofs.YtlkldgopliablaaGreatDoor.Ww
open Go.ChangeShapes Go.WideShapes Go.ChangeAt Go.RowKit Num Rr
attribute [local go_sem] a00
structure Ddw where
 pa:Option Addr
 ca:Nat
 pr:Option Addr
 cr:Nat
 pw:Option Addr
 cw:Nat
 po:Option Addr
 co:Nat
structure DdAt (w:World) (B:Nat) (D:Ddw) (args:List Nat) (m:Mac):Prop where
 a:RowAt 71 w D.pa D.ca (fls args)
 r:TRow w D.pr D.cr m.reads
 wr:TRow w D.pw D.cw m.buf
 o:RowAt 71 w D.po D.co (fls m.out)
 xa:Abv B (fpR D.pa)
 xr:Abv B (fpR D.pr)
 xw:Abv B (fpR D.pw)
 xo:Abv B (fpR D.po)
theorem DdAt.on {w w':World} {B:Nat} {D:Ddw} {args:List Nat} {m:Mac} (h:DdAt w B D args m) (k:Bl w w'):DdAt w' B D args m:=⟨h.a.on k,h.r.on k,h.wr.on k,h.o.on k,h.xa,h.xr,h.xw,h.xo⟩
theorem DdAt.keep {w w':World} {B:Nat} {D:Ddw} {args:List Nat} {m:Mac} (h:DdAt w B D args m) (k:∀ i,B<=i->i<w.heap.size->w'.heap[i]?=w.heap[i]?) (hs:w.heap.size<=w'.heap.size):DdAt w' B D args m :=
 ⟨h.a.keep ⟨hs,fun i hi=>k i (h.xa i hi) (h.a.blw i hi)⟩,h.r.keep ⟨hs,fun i hi=>k i (h.xr i hi) (h.r.blw i hi)⟩,h.wr.keep ⟨hs,fun i hi=>k i (h.xw i hi) (h.wr.blw i hi)⟩,h.o.keep ⟨hs,fun i hi=>k i (h.xo i hi) (h.o.blw i hi)⟩,h.xa,h.xr,h.xw,h.xo⟩
theorem DdAt.mono {w:World} {B B':Nat} {D:Ddw} {args:List Nat} {m:Mac} (h:DdAt w B D args m) (k:B'<=B):DdAt w B' D args m:=⟨h.a,h.r,h.wr,h.o,h.xa.mono k,h.xr.mono k,h.xw.mono k,h.xo.mono k⟩
abbrev dC (t:Int) (na:Nat) (m:Mac) (D:Ddw) (mark num e0 e1 e2 st:Int):Array Value:=#[.int .i64 0,.int .i64 0,.int .i64 0,.int .i64 t,.slice D.pa na D.ca,.int .i64 mark,.int .i64 num,.slice D.pr m.reads.length D.cr,.slice D.pw m.buf.length D.cw,.slice D.po m.out.length D.co,.int .i64 e0,.int .i64 e1,.int .i64 e2,.int .i64 0,.int .i64 0,.int .i64 st,.int .i64 0,.int .i64 0,.int .i64 0]
abbrev dZ:Obj:=.cells #[.int .i64 0,.int .i64 0,.int .i64 0,.int .i64 0,.slice none 0 0,.int .i64 0,.int .i64 0,.slice none 0 0,.slice none 0 0,.slice none 0 0,.int .i64 0,.int .i64 0,.int .i64 0,.int .i64 0,.int .i64 0,.int .i64 0,.int .i64 0,.int .i64 0,.int .i64 0] 65
theorem ab8 {fn:Func} {p:Tmp} (h:fn.results=#[.cell p 65]) {R:Ending->World->Prop} {a:Act} {w:World} (g:Nat) {t:Int} {na:Nat} {m:Mac} {D:Ddw} {mark num e0 e1 e2 st:Int} (hp:a.tmps.getD p undef=.pointer (some ⟨g,0,none⟩))
  (hg:w.heap[g]?=some (.cells (dC t na m D mark num e0 e1 e2 st) 65 (0,0))) (hd:a.defers=[]) (hR:R (.returned (.agg (dC t na m D mark num e0 e1 e2 st))) w):bodyPost Tryz.prog fn R .ret a w :=
 bodyPost_ret (results_cell_row h _ _ g _ _ _ _ hp hg Tryz.underlying65 rfl (by kernel_rfl)) hd hR
theorem deedInfo:(Tryz.prog.info? 65).map (·.size)=some 19:=by kernel_rfl
theorem a69 (t:Int) (na:Nat) (m:Mac) (D:Ddw) (mark num e0 e1 e2 st:Int):(dC t na m D mark num e0 e1 e2 st).all (·.oneCell')=true:=by simp[Value.oneCell']
def b38 (x:Wx):Int:=if x.part=1 then -1 else wrap64 x.tick
def endJ (x:Wx) (v:Int):Int:=if x.part=9 then v else 0
structure DdX (w:World) (B g:Nat) (D:Ddw) (args:List Nat) (m:Mac):Prop where
 d:DdAt w B D args m
 na:g∉fpR D.pa
 nr:g∉fpR D.pr
 nw:g∉fpR D.pw
 no:g∉fpR D.po
theorem DdX.put {w:World} {B g:Nat} {D:Ddw} {args:List Nat} {m:Mac} (h:DdX w B g D args m) (j:Nat) (v:Value):DdX (w.setCell ⟨g,j,none⟩ v) B g D args m :=
 ⟨⟨h.d.a.keep (ae1 h.na),h.d.r.keep (ae1 h.nr),h.d.wr.keep (ae1 h.nw),h.d.o.keep (ae1 h.no),h.d.xa,h.d.xr,h.d.xw,h.d.xo⟩,h.na,h.nr,h.nw,h.no⟩
theorem DdX.on {w w':World} {B g:Nat} {D:Ddw} {args:List Nat} {m:Mac} (h:DdX w B g D args m) (k:Bl w w'):DdX w' B g D args m:=⟨h.d.on k,h.na,h.nr,h.nw,h.no⟩
theorem a87 {F:List Nat} {w:World} {g:Nat} {x:Array Value} (h:g∉F):Kept F w (w.setRow g x):=⟨by simp,fun i hi=>setRow_other _ _ _ _ (fun (e:i=g)=>h (e ▸ hi))⟩
theorem a60 {u:World} {p:Option Addr} {g:Nat} (h:Blw u (fpR p)) (hg:u.heap.size<=g):g∉fpR p:=fun y=>by have:=h g y;omega
theorem a59 {p:Option Addr} {g B:Nat} (h:Abv B (fpR p)) (hg:g<B):g∉fpR p:=fun y=>by have:=h g y;omega
theorem a01 {a b c:World} (h:Bl a b) (k:Bl b c):Bl a c:=h.trans (k.mono h.size)
section
variable {w:World} {b:Nat} {x:Wx} {z:Wz} {v:Wv}
theorem Deed_any (h:RawAt w b x z v) (hv:VOk x v) (hI:InY x) {na:Nat} (hna:x.args.length=na) {m:Mac} (hm:x.m=m) {mk nu e0 e1 e2:Int} (hk:b38 x=mk) (hnu:x.num=nu) (h0:endJ x m.how=e0) (h1:endJ x m.cod=e1) (h2:endJ x m.err=e2):Calls Tryz.prog 116 #[.pointer (some ⟨b,0,none⟩)] w fun e w'=>∃ D,e=.returned (.agg (dC x.tag na m D mk nu e0 e1 e2 x.steps))/\DdAt w' w.heap.size D x.args m/\Bl w w':=by
 subst hm;have hf:=hI.few;have ho:=hI.rest.inv.out;have hr:=hI.rest.inv.reads;have hu:=hI.rest.inv.used;have hfu:=hI.rest.inv.fuel;have hw0:(x.m.reads.length:Int)<=1024:=by split at hr <;> omega
 have HNB:Hid (wrap64 v.nb=nu):=hv.nb.trans hnu;have HC:Hid (∀ u,Bl w u->Calls Tryz.prog 108 #[.slice z.pa na z.ca] u fun e w'=>∃ p' c',e=.returned (.slice p' na c')/\RowAt 71 w' p' c' (fls x.args)/\Abv u.heap.size (fpR p')/\Bl u w'):=fun u hu=>al0 (h.on hu).arg hna (by omega)
 have HR:Hid (∀ u,Bl w u->Calls Tryz.prog 138 #[.pointer (some ⟨z.bm,0,none⟩)] u fun e w'=>∃ p' c',e=.returned (.slice p' x.m.reads.length c')/\TRow w' p' c' x.m.reads/\Abv u.heap.size (fpR p')/\Bl u w'):=fun u hu=>aH0 (h.on hu).mac.gm (by omega)
 have HWR:Hid (∀ u,Bl w u->Calls Tryz.prog 139 #[.pointer (some ⟨z.bm,0,none⟩)] u fun e w'=>∃ p' c',e=.returned (.slice p' x.m.buf.length c')/\TRow w' p' c' x.m.buf/\Abv u.heap.size (fpR p')/\Bl u w'):=fun u hu=>(aj0 (h.on hu).mac.gm).mono (by rintro e w' ⟨q1,q2,q3⟩;exact⟨_,_,q1,q2,(fun i hi=>by simp[fpR]at hi;omega),q3⟩)
 have HOU:Hid (∀ u,Bl w u->Calls Tryz.prog 140 #[.pointer (some ⟨z.bm,0,none⟩)] u fun e w'=>∃ p' c',e=.returned (.slice p' x.m.out.length c')/\RowAt 71 w' p' c' (fls x.m.out)/\Abv u.heap.size (fpR p')/\Bl u w'):=fun u hu=>b49 (h.on hu).mac.gm (by omega)
 have HB:Hid (∀ u,Bl w u->u.cell? ⟨b,7,none⟩=some (.int .i64 x.tag)/\u.cell? ⟨b,8,none⟩=some (.slice z.pa na z.ca)/\u.cell? ⟨b,9,none⟩=some (.pointer (some ⟨z.bm,0,none⟩))/\u.cell? ⟨b,10,none⟩=some (.int .i64 x.steps)/\u.cell? ⟨b,19,none⟩=some (.int .u64 v.nb)):=fun u hu=>⟨((h.on hu).cell 7).trans rfl,((h.on hu).cell 8).trans (by rw[<- hna];rfl),((h.on hu).cell 9).trans rfl,((h.on hu).cell 10).trans rfl,((h.on hu).cell 19).trans rfl⟩
 have HBP:Hid (∀ u,Bl w u->u.cell? ⟨b,11,none⟩=some (.int .i64 (x.part:Int))/\u.cell? ⟨b,13,none⟩=some (.int .u64 x.tick)/\u.cell? ⟨b,9,none⟩=some (.pointer (some ⟨z.bm,0,none⟩))/\b<u.heap.size):=fun u hu=>⟨((h.on hu).cell 11).trans rfl,((h.on hu).cell 13).trans rfl,((h.on hu).cell 9).trans rfl,(h.on hu).ltB⟩
 have HO:Hid (∀ u,Bl w u->Calls Tryz.prog 141 #[.pointer (some ⟨b,0,none⟩)] u fun e w'=>e=.returned (.bool (decide ((x.part:Int)=9)))/\w'=u):=fun u hu=>am3 (h.on hu) hv.nx
 have HE:Hid (∀ u,Bl w u->Calls Tryz.prog 142 #[.pointer (some ⟨z.bm,0,none⟩)] u fun e w'=>e=.returned (.agg #[.int .i64 x.m.how,.int .i64 x.m.cod,.int .i64 x.m.err])/\Bl u w'):=fun u hu=>Go.Proofs.YtlkldgopliablaaGreatDoor.end_any (h.on hu).mac.gm
 have HLB:Hid (b<w.heap.size):=h.ltB;have hb:=h.ltB;have HARG:=zH (show x.args=x.args from rfl);clear h hI hf ho hr hu hfu hw0 hna hv hnu HARG;unfold b38 at hk;unfold endJ at h0 h1 h2
 generalize x.args=args at *
 generalize x.tag=tg at *
 generalize x.steps=st at *
 generalize v.nb=nb at *
 have H0:Hid (Bl w (w.alloc dZ)/\(w.alloc dZ).heap[w.heap.size]?=some dZ/\w.heap.size<(w.alloc dZ).heap.size):=⟨below_alloc _ _,zN _ _,by simp⟩;go_enter Tryz.func116,Tryz.ntmps116
 go_upto_region 1 with fail
 obtain⟨w1,hw1⟩:∃ w1,w1=w.alloc dZ:=⟨_,rfl⟩
 rw[<- hw1]at H0;rw[show w.alloc (.cells #[.int .i64 0,.int .i64 0,.int .i64 0,.int .i64 0,.slice none 0 0,.int .i64 0,.int .i64 0,.slice none 0 0,.slice none 0 0,.slice none 0 0,.int .i64 0,.int .i64 0,.int .i64 0,.int .i64 0,.int .i64 0,.int .i64 0,.int .i64 0,.int .i64 0,.int .i64 0] 65)=w1 from hw1.symm];clear hw1
 go_cut [3] (fun v3 wc=>∃ g,v3=.pointer (some ⟨g,0,none⟩)/\Hid (∃ D,wc.heap[g]?=some (.cells (dC tg na x.m D (-1) nu 0 0 0 st) 65 (0,0))/\DdX wc (w.heap.size+1) g D args x.m/\Bl w wc/\wc.heap[w.heap.size]?=some dZ/\w.heap.size<g))
 case first =>
  have HS1:=HB.out _ H0.out.1;clear hk h0 h1 h2 HO HE HBP;refine ai1 (fun u=>u.cell? ⟨b,7,none⟩=some (.int .i64 tg)/\u.cell? ⟨b,8,none⟩=some (.slice z.pa na z.ca)/\u.cell? ⟨b,9,none⟩=some (.pointer (some ⟨z.bm,0,none⟩))/\u.cell? ⟨b,10,none⟩=some (.int .i64 st)/\u.cell? ⟨b,19,none⟩=some (.int .u64 nb)) ((0,true)::(1,true)::(2,true)::(3,true)::(4,true)::(5,true)::(6,true)::(7,true)::(9,true)::(10,true)::(11,true)::(12,true)::(13,true)::(14,true)::(15,true)::(16,true)::(17,true)::(19,true)::(20,true)::(21,true)::(22,true)::(24,true)::(25,true)::(26,true)::(27,true)::(29,true)::(30,true)::(31,true)::(32,true)::(8,false)::(18,false)::(23,false)::(28,false)::(33,true)::[]) 34 [(35,false)] Md.Cv.follows13 (by kernel_rfl) (fun _ _ _ _ _ h=>h) HS1 ?_
  (repeat (refine ae8 (v:=?_) rfl (by rfl) (fun wq hSq=>?_) ?_;rotate_left;(focus ((try dsimp only at hSq);go_simp;try with_reducible rfl));simp only[Act.put,zA,zB,zC]))
  rw[Go.IntWalk.i64_left,HNB.out];obtain⟨w2,hw2⟩:∃ w2,w2=w1.drew:=⟨_,rfl⟩
  have Bw2:Hid (Bl w1 w2):=by rw[hw2];exact(Same.drew w1).below _
  have Ww2:Hid (Bl w w2):=a01 H0.out.1 Bw2.out;rw[<- hw2];clear hw2;refine ak5 rfl (by rfl) (fun KK hK=>?_) ?_
  ·go_simp
   refine(HC.out _ Ww2.out).mono ?_;rintro e u0 ⟨p0,c0,rfl,a1,a2,a3⟩;have R0:Hid (_/\Abv w2.heap.size (fpR p0)/\Bl w2 u0):=⟨a1,a2,a3⟩;have Bu0:=zH (a01 Bw2.out a3);have Wu0:=zH (a01 Ww2.out a3);clear a1 a2 a3;refine hK.out _ _ (HB.out _ Wu0.out) ?_
   (clear hK KK;try simp only[Act.put,zA,zB,zC])
   refine ak5 rfl (by rfl) (fun KK hK=>?_) ?_
   ·go_simp
    refine(HR.out _ Wu0.out).mono ?_;rintro e u1 ⟨p1,c1,rfl,a1,a2,a3⟩;have R1:Hid (_/\Abv u0.heap.size (fpR p1)/\Bl u0 u1):=⟨a1,a2,a3⟩;have Bu1:=zH (a01 Bu0.out a3);have Wu1:=zH (a01 Wu0.out a3);clear a1 a2 a3;refine hK.out _ _ (HB.out _ Wu1.out) ?_
    (clear hK KK;try simp only[Act.put,zA,zB,zC])
    refine ak5 rfl (by rfl) (fun KK hK=>?_) ?_
    ·go_simp
     refine(HWR.out _ Wu1.out).mono ?_;rintro e u2 ⟨p2,c2,rfl,a1,a2,a3⟩;have R2:Hid (_/\Abv u1.heap.size (fpR p2)/\Bl u1 u2):=⟨a1,a2,a3⟩;have Bu2:=zH (a01 Bu1.out a3);have Wu2:=zH (a01 Wu1.out a3);clear a1 a2 a3;refine hK.out _ _ (HB.out _ Wu2.out) ?_
     (clear hK KK;try simp only[Act.put,zA,zB,zC])
     refine ak5 rfl (by rfl) (fun KK hK=>?_) ?_
     ·go_simp
      refine(HOU.out _ Wu2.out).mono ?_;rintro e u3 ⟨p3,c3,rfl,a1,a2,a3⟩;have R3:Hid (_/\Abv u2.heap.size (fpR p3)/\Bl u2 u3):=⟨a1,a2,a3⟩;have Bu3:=zH (a01 Bu2.out a3);have Wu3:=zH (a01 Wu2.out a3);clear a1 a2 a3;refine hK.out _ _ (HB.out _ Wu3.out) ?_
      (clear hK KK;try simp only[Act.put,zA,zB,zC])
      (repeat (refine ae8 (v:=?_) rfl (by rfl) (fun wq hSq=>?_) ?_;rotate_left;(focus ((try dsimp only at hSq);go_simp;try with_reducible rfl));simp only[Act.put,zA,zB,zC]))
      refine aC2 ?_
      (refine a04 rfl (by rfl) (fun KK hK=>?_);go_simp)
      obtain⟨v4,hv4⟩:∃ v4,v4=u3.alloc dZ:=⟨_,rfl⟩
      have Av4:Hid (Bl u3 v4/\v4.heap[u3.heap.size]?=some dZ/\u3.heap.size<v4.heap.size):=by rw[hv4];exact⟨below_alloc _ _,zN _ _,by simp⟩
      have Bv4:=zH (a01 Bu3.out Av4.out.1);have Wv4:=zH (a01 Wu3.out Av4.out.1);rw[show u3.alloc (.cells #[.int .i64 0,.int .i64 0,.int .i64 0,.int .i64 0,.slice none 0 0,.int .i64 0,.int .i64 0,.slice none 0 0,.slice none 0 0,.slice none 0 0,.int .i64 0,.int .i64 0,.int .i64 0,.int .i64 0,.int .i64 0,.int .i64 0,.int .i64 0,.int .i64 0,.int .i64 0] 65)=v4 from hv4.symm];clear hv4;refine hK.out _ _ (HB.out _ Wv4.out) ?_
      (clear hK KK;try simp only[Act.put,zA,zB,zC])
      have XB:Hid (v4.heap[u3.heap.size]?=some dZ):=((zF v4.heap.size v4).block _ (lt_of_block Av4.out.2.1)).trans Av4.out.2.1;have HDD:Hid (DdX (v4.setRow u3.heap.size (dC tg na x.m ⟨p0,c0,p1,c1,p2,c2,p3,c3⟩ (-1) nu 0 0 0 st)) (w.heap.size+1) u3.heap.size ⟨p0,c0,p1,c1,p2,c2,p3,c3⟩ args x.m):=⟨⟨(R0.out.1.on (a01 (a01 (a01 (a01 (zF u0.heap.size u0) R1.out.2.2) R2.out.2.2) R3.out.2.2) Av4.out.1)).keep (a87 (a60 R0.out.1.blw (a01 (a01 (a01 (zF u0.heap.size u0) R1.out.2.2) R2.out.2.2) R3.out.2.2).size)),(R1.out.1.on (a01 (a01 (a01 (zF u1.heap.size u1) R2.out.2.2) R3.out.2.2) Av4.out.1)).keep (a87 (a60 R1.out.1.blw (a01 (a01 (zF u1.heap.size u1) R2.out.2.2) R3.out.2.2).size)),(R2.out.1.on (a01 (a01 (zF u2.heap.size u2) R3.out.2.2) Av4.out.1)).keep (a87 (a60 R2.out.1.blw (a01 (zF u2.heap.size u2) R3.out.2.2).size)),(R3.out.1.on (a01 (zF u3.heap.size u3) Av4.out.1)).keep (a87 (a60 R3.out.1.blw (zF u3.heap.size u3).size)),R0.out.2.1.mono (by have:=Bw2.out.size;have:=H0.out.2.2;omega),R1.out.2.1.mono (by have:=Bu0.out.size;have:=H0.out.2.2;omega),R2.out.2.1.mono (by have:=Bu1.out.size;have:=H0.out.2.2;omega),R3.out.2.1.mono (by have:=Bu2.out.size;have:=H0.out.2.2;omega)⟩,a60 R0.out.1.blw (a01 (a01 (a01 (zF u0.heap.size u0) R1.out.2.2) R2.out.2.2) R3.out.2.2).size,a60 R1.out.1.blw (a01 (a01 (zF u1.heap.size u1) R2.out.2.2) R3.out.2.2).size,a60 R2.out.1.blw (a01 (zF u2.heap.size u2) R3.out.2.2).size,a60 R3.out.1.blw (zF u3.heap.size u3).size⟩;have HGW:Hid (w.heap.size<u3.heap.size/\b≠u3.heap.size):=⟨by have:=Bu3.out.size;have:=H0.out.2.2;omega,fun y=>by have:=Wu3.out.size;have:=HLB.out;omega⟩;refine a04 rfl (by rfl) (fun KK hK=>?_);refine wp_store_row 65 _ _ rfl u3.heap.size (dC tg na x.m ⟨p0,c0,p1,c1,p2,c2,p3,c3⟩ (-1) nu 0 0 0 st) rfl rfl _ _ XB.out deedInfo rfl (a69 _ _ _ _ _ _ _ _ _ _) ?_;obtain⟨s7,s8,s9,s10,s19⟩:=HB.out _ Wv4.out;have O:∀ j,(v4.setRow u3.heap.size (dC tg na x.m ⟨p0,c0,p1,c1,p2,c2,p3,c3⟩ (-1) nu 0 0 0 st)).cell? ⟨b,j,none⟩=v4.cell? ⟨b,j,none⟩:=fun j=>cell_setRow_other _ _ _ _ HGW.out.2
      refine hK.out _ _ ⟨(O 7).trans s7,(O 8).trans s8,(O 9).trans s9,(O 10).trans s10,(O 19).trans s19⟩ ?_;clear O
      (clear hK KK;try simp only[Act.put])
      refine a07 ?_;go_wp2_with fail
      go_meet
      exact⟨_,rfl,⟨p0,c0,p1,c1,p2,c2,p3,c3⟩,setRow_heap _ _ _ _ _ _ XB.out,HDD.out,Md.Ce.bl_setRow Wv4.out (by have:=HGW.out.1;omega) _,(setRow_other _ _ _ _ (by have:=HGW.out.1;omega)).trans ((Bv4.out.block _ H0.out.2.2).trans H0.out.2.1),HGW.out.1⟩
     ·rw[show ∀ (a b:List (Nat × Bool)),a ++ b=List.append a b from fun _ _=>rfl]
      dsimp only[List.append]
      (refine a04 rfl (by rfl) (fun KK hK=>?_);go_simp)
      obtain⟨v3,hv3⟩:∃ v3,v3=u2.alloc dZ:=⟨_,rfl⟩
      have Av3:Hid (Bl u2 v3/\v3.heap[u2.heap.size]?=some dZ/\u2.heap.size<v3.heap.size):=by rw[hv3];exact⟨below_alloc _ _,zN _ _,by simp⟩
      have Bv3:=zH (a01 Bu2.out Av3.out.1);have Wv3:=zH (a01 Wu2.out Av3.out.1);rw[show u2.alloc (.cells #[.int .i64 0,.int .i64 0,.int .i64 0,.int .i64 0,.slice none 0 0,.int .i64 0,.int .i64 0,.slice none 0 0,.slice none 0 0,.slice none 0 0,.int .i64 0,.int .i64 0,.int .i64 0,.int .i64 0,.int .i64 0,.int .i64 0,.int .i64 0,.int .i64 0,.int .i64 0] 65)=v3 from hv3.symm];clear hv3;refine hK.out _ _ (HB.out _ Wv3.out) ?_
      (clear hK KK;try simp only[Act.put,zA,zB,zC])
      (refine a04 rfl (by rfl) (fun KK hK=>?_);go_simp)
      refine(HOU.out _ Wv3.out).mono ?_;rintro e u3 ⟨p3,c3,rfl,a1,a2,a3⟩;have R3:Hid (_/\Abv v3.heap.size (fpR p3)/\Bl v3 u3):=⟨a1,a2,a3⟩;have Bu3:=zH (a01 Bv3.out a3);have Wu3:=zH (a01 Wv3.out a3);clear a1 a2 a3;refine hK.out _ _ (HB.out _ Wu3.out) ?_
      (clear hK KK;try simp only[Act.put,zA,zB,zC])
      (repeat ((first | (refine a02 (v:=?_) rfl (by rfl) (fun wq hSq=>?_) ?_;rotate_left;(focus ((try dsimp only at hSq);go_simp;try with_reducible rfl))) | refine a03 rfl (by rfl) ?_);simp only[Act.put,zA,zB,zC]))
      have XB:Hid (u3.heap[u2.heap.size]?=some dZ):=((a01 (zF v3.heap.size v3) R3.out.2.2).block _ (lt_of_block Av3.out.2.1)).trans Av3.out.2.1;have HDD:Hid (DdX (u3.setRow u2.heap.size (dC tg na x.m ⟨p0,c0,p1,c1,p2,c2,p3,c3⟩ (-1) nu 0 0 0 st)) (w.heap.size+1) u2.heap.size ⟨p0,c0,p1,c1,p2,c2,p3,c3⟩ args x.m):=⟨⟨(R0.out.1.on (a01 (a01 (a01 (a01 (zF u0.heap.size u0) R1.out.2.2) R2.out.2.2) Av3.out.1) R3.out.2.2)).keep (a87 (a60 R0.out.1.blw (a01 (a01 (zF u0.heap.size u0) R1.out.2.2) R2.out.2.2).size)),(R1.out.1.on (a01 (a01 (a01 (zF u1.heap.size u1) R2.out.2.2) Av3.out.1) R3.out.2.2)).keep (a87 (a60 R1.out.1.blw (a01 (zF u1.heap.size u1) R2.out.2.2).size)),(R2.out.1.on (a01 (a01 (zF u2.heap.size u2) Av3.out.1) R3.out.2.2)).keep (a87 (a60 R2.out.1.blw (zF u2.heap.size u2).size)),(R3.out.1.on (zF u3.heap.size u3)).keep (a87 (a59 R3.out.2.1 (zL Av3.out.2.2 (zF v3.heap.size v3).size))),R0.out.2.1.mono (by have:=Bw2.out.size;have:=H0.out.2.2;omega),R1.out.2.1.mono (by have:=Bu0.out.size;have:=H0.out.2.2;omega),R2.out.2.1.mono (by have:=Bu1.out.size;have:=H0.out.2.2;omega),R3.out.2.1.mono (by have:=Bv3.out.size;have:=H0.out.2.2;omega)⟩,a60 R0.out.1.blw (a01 (a01 (zF u0.heap.size u0) R1.out.2.2) R2.out.2.2).size,a60 R1.out.1.blw (a01 (zF u1.heap.size u1) R2.out.2.2).size,a60 R2.out.1.blw (zF u2.heap.size u2).size,a59 R3.out.2.1 (zL Av3.out.2.2 (zF v3.heap.size v3).size)⟩;have HGW:Hid (w.heap.size<u2.heap.size/\b≠u2.heap.size):=⟨by have:=Bu2.out.size;have:=H0.out.2.2;omega,fun y=>by have:=Wu2.out.size;have:=HLB.out;omega⟩;refine a04 rfl (by rfl) (fun KK hK=>?_);refine wp_store_row 65 _ _ rfl u2.heap.size (dC tg na x.m ⟨p0,c0,p1,c1,p2,c2,p3,c3⟩ (-1) nu 0 0 0 st) rfl rfl _ _ XB.out deedInfo rfl (a69 _ _ _ _ _ _ _ _ _ _) ?_;obtain⟨s7,s8,s9,s10,s19⟩:=HB.out _ Wu3.out;have O:∀ j,(u3.setRow u2.heap.size (dC tg na x.m ⟨p0,c0,p1,c1,p2,c2,p3,c3⟩ (-1) nu 0 0 0 st)).cell? ⟨b,j,none⟩=u3.cell? ⟨b,j,none⟩:=fun j=>cell_setRow_other _ _ _ _ HGW.out.2
      refine hK.out _ _ ⟨(O 7).trans s7,(O 8).trans s8,(O 9).trans s9,(O 10).trans s10,(O 19).trans s19⟩ ?_;clear O
      (clear hK KK;try simp only[Act.put])
      refine a07 ?_;go_wp2_with fail
      go_meet
      exact⟨_,rfl,⟨p0,c0,p1,c1,p2,c2,p3,c3⟩,setRow_heap _ _ _ _ _ _ XB.out,HDD.out,Md.Ce.bl_setRow Wu3.out (by have:=HGW.out.1;omega) _,(setRow_other _ _ _ _ (by have:=HGW.out.1;omega)).trans ((Bu3.out.block _ H0.out.2.2).trans H0.out.2.1),HGW.out.1⟩
    ·rw[show ∀ (a b:List (Nat × Bool)),a ++ b=List.append a b from fun _ _=>rfl]
     dsimp only[List.append]
     (refine a04 rfl (by rfl) (fun KK hK=>?_);go_simp)
     obtain⟨v2,hv2⟩:∃ v2,v2=u1.alloc dZ:=⟨_,rfl⟩
     have Av2:Hid (Bl u1 v2/\v2.heap[u1.heap.size]?=some dZ/\u1.heap.size<v2.heap.size):=by rw[hv2];exact⟨below_alloc _ _,zN _ _,by simp⟩
     have Bv2:=zH (a01 Bu1.out Av2.out.1);have Wv2:=zH (a01 Wu1.out Av2.out.1);rw[show u1.alloc (.cells #[.int .i64 0,.int .i64 0,.int .i64 0,.int .i64 0,.slice none 0 0,.int .i64 0,.int .i64 0,.slice none 0 0,.slice none 0 0,.slice none 0 0,.int .i64 0,.int .i64 0,.int .i64 0,.int .i64 0,.int .i64 0,.int .i64 0,.int .i64 0,.int .i64 0,.int .i64 0] 65)=v2 from hv2.symm];clear hv2;refine hK.out _ _ (HB.out _ Wv2.out) ?_
     (clear hK KK;try simp only[Act.put,zA,zB,zC])
     (refine a04 rfl (by rfl) (fun KK hK=>?_);go_simp)
     refine(HWR.out _ Wv2.out).mono ?_;rintro e u2 ⟨p2,c2,rfl,a1,a2,a3⟩;have R2:Hid (_/\Abv v2.heap.size (fpR p2)/\Bl v2 u2):=⟨a1,a2,a3⟩;have Bu2:=zH (a01 Bv2.out a3);have Wu2:=zH (a01 Wv2.out a3);clear a1 a2 a3;refine hK.out _ _ (HB.out _ Wu2.out) ?_
     (clear hK KK;try simp only[Act.put,zA,zB,zC])
     (refine a04 rfl (by rfl) (fun KK hK=>?_);go_simp)
     refine(HOU.out _ Wu2.out).mono ?_;rintro e u3 ⟨p3,c3,rfl,a1,a2,a3⟩;have R3:Hid (_/\Abv u2.heap.size (fpR p3)/\Bl u2 u3):=⟨a1,a2,a3⟩;have Bu3:=zH (a01 Bu2.out a3);have Wu3:=zH (a01 Wu2.out a3);clear a1 a2 a3;refine hK.out _ _ (HB.out _ Wu3.out) ?_
     (clear hK KK;try simp only[Act.put,zA,zB,zC])
     (repeat ((first | (refine a02 (v:=?_) rfl (by rfl) (fun wq hSq=>?_) ?_;rotate_left;(focus ((try dsimp only at hSq);go_simp;try with_reducible rfl))) | refine a03 rfl (by rfl) ?_);simp only[Act.put,zA,zB,zC]))
     have XB:Hid (u3.heap[u1.heap.size]?=some dZ):=((a01 (a01 (zF v2.heap.size v2) R2.out.2.2) R3.out.2.2).block _ (lt_of_block Av2.out.2.1)).trans Av2.out.2.1;have HDD:Hid (DdX (u3.setRow u1.heap.size (dC tg na x.m ⟨p0,c0,p1,c1,p2,c2,p3,c3⟩ (-1) nu 0 0 0 st)) (w.heap.size+1) u1.heap.size ⟨p0,c0,p1,c1,p2,c2,p3,c3⟩ args x.m):=⟨⟨(R0.out.1.on (a01 (a01 (a01 (a01 (zF u0.heap.size u0) R1.out.2.2) Av2.out.1) R2.out.2.2) R3.out.2.2)).keep (a87 (a60 R0.out.1.blw (a01 (zF u0.heap.size u0) R1.out.2.2).size)),(R1.out.1.on (a01 (a01 (a01 (zF u1.heap.size u1) Av2.out.1) R2.out.2.2) R3.out.2.2)).keep (a87 (a60 R1.out.1.blw (zF u1.heap.size u1).size)),(R2.out.1.on (a01 (zF u2.heap.size u2) R3.out.2.2)).keep (a87 (a59 R2.out.2.1 (zL Av2.out.2.2 (zF v2.heap.size v2).size))),(R3.out.1.on (zF u3.heap.size u3)).keep (a87 (a59 R3.out.2.1 (zL Av2.out.2.2 (a01 (zF v2.heap.size v2) R2.out.2.2).size))),R0.out.2.1.mono (by have:=Bw2.out.size;have:=H0.out.2.2;omega),R1.out.2.1.mono (by have:=Bu0.out.size;have:=H0.out.2.2;omega),R2.out.2.1.mono (by have:=Bv2.out.size;have:=H0.out.2.2;omega),R3.out.2.1.mono (by have:=Bu2.out.size;have:=H0.out.2.2;omega)⟩,a60 R0.out.1.blw (a01 (zF u0.heap.size u0) R1.out.2.2).size,a60 R1.out.1.blw (zF u1.heap.size u1).size,a59 R2.out.2.1 (zL Av2.out.2.2 (zF v2.heap.size v2).size),a59 R3.out.2.1 (zL Av2.out.2.2 (a01 (zF v2.heap.size v2) R2.out.2.2).size)⟩;have HGW:Hid (w.heap.size<u1.heap.size/\b≠u1.heap.size):=⟨by have:=Bu1.out.size;have:=H0.out.2.2;omega,fun y=>by have:=Wu1.out.size;have:=HLB.out;omega⟩;refine a04 rfl (by rfl) (fun KK hK=>?_);refine wp_store_row 65 _ _ rfl u1.heap.size (dC tg na x.m ⟨p0,c0,p1,c1,p2,c2,p3,c3⟩ (-1) nu 0 0 0 st) rfl rfl _ _ XB.out deedInfo rfl (a69 _ _ _ _ _ _ _ _ _ _) ?_;obtain⟨s7,s8,s9,s10,s19⟩:=HB.out _ Wu3.out;have O:∀ j,(u3.setRow u1.heap.size (dC tg na x.m ⟨p0,c0,p1,c1,p2,c2,p3,c3⟩ (-1) nu 0 0 0 st)).cell? ⟨b,j,none⟩=u3.cell? ⟨b,j,none⟩:=fun j=>cell_setRow_other _ _ _ _ HGW.out.2
     refine hK.out _ _ ⟨(O 7).trans s7,(O 8).trans s8,(O 9).trans s9,(O 10).trans s10,(O 19).trans s19⟩ ?_;clear O
     (clear hK KK;try simp only[Act.put])
     refine a07 ?_;go_wp2_with fail
     go_meet
     exact⟨_,rfl,⟨p0,c0,p1,c1,p2,c2,p3,c3⟩,setRow_heap _ _ _ _ _ _ XB.out,HDD.out,Md.Ce.bl_setRow Wu3.out (by have:=HGW.out.1;omega) _,(setRow_other _ _ _ _ (by have:=HGW.out.1;omega)).trans ((Bu3.out.block _ H0.out.2.2).trans H0.out.2.1),HGW.out.1⟩
   ·rw[show ∀ (a b:List (Nat × Bool)),a ++ b=List.append a b from fun _ _=>rfl]
    dsimp only[List.append]
    (refine a04 rfl (by rfl) (fun KK hK=>?_);go_simp)
    obtain⟨v1,hv1⟩:∃ v1,v1=u0.alloc dZ:=⟨_,rfl⟩
    have Av1:Hid (Bl u0 v1/\v1.heap[u0.heap.size]?=some dZ/\u0.heap.size<v1.heap.size):=by rw[hv1];exact⟨below_alloc _ _,zN _ _,by simp⟩
    have Bv1:=zH (a01 Bu0.out Av1.out.1);have Wv1:=zH (a01 Wu0.out Av1.out.1);rw[show u0.alloc (.cells #[.int .i64 0,.int .i64 0,.int .i64 0,.int .i64 0,.slice none 0 0,.int .i64 0,.int .i64 0,.slice none 0 0,.slice none 0 0,.slice none 0 0,.int .i64 0,.int .i64 0,.int .i64 0,.int .i64 0,.int .i64 0,.int .i64 0,.int .i64 0,.int .i64 0,.int .i64 0] 65)=v1 from hv1.symm];clear hv1;refine hK.out _ _ (HB.out _ Wv1.out) ?_
    (clear hK KK;try simp only[Act.put,zA,zB,zC])
    (refine a04 rfl (by rfl) (fun KK hK=>?_);go_simp)
    refine(HR.out _ Wv1.out).mono ?_;rintro e u1 ⟨p1,c1,rfl,a1,a2,a3⟩;have R1:Hid (_/\Abv v1.heap.size (fpR p1)/\Bl v1 u1):=⟨a1,a2,a3⟩;have Bu1:=zH (a01 Bv1.out a3);have Wu1:=zH (a01 Wv1.out a3);clear a1 a2 a3;refine hK.out _ _ (HB.out _ Wu1.out) ?_
    (clear hK KK;try simp only[Act.put,zA,zB,zC])
    (refine a04 rfl (by rfl) (fun KK hK=>?_);go_simp)
    refine(HWR.out _ Wu1.out).mono ?_;rintro e u2 ⟨p2,c2,rfl,a1,a2,a3⟩;have R2:Hid (_/\Abv u1.heap.size (fpR p2)/\Bl u1 u2):=⟨a1,a2,a3⟩;have Bu2:=zH (a01 Bu1.out a3);have Wu2:=zH (a01 Wu1.out a3);clear a1 a2 a3;refine hK.out _ _ (HB.out _ Wu2.out) ?_
    (clear hK KK;try simp only[Act.put,zA,zB,zC])
    (refine a04 rfl (by rfl) (fun KK hK=>?_);go_simp)
    refine(HOU.out _ Wu2.out).mono ?_;rintro e u3 ⟨p3,c3,rfl,a1,a2,a3⟩;have R3:Hid (_/\Abv u2.heap.size (fpR p3)/\Bl u2 u3):=⟨a1,a2,a3⟩;have Bu3:=zH (a01 Bu2.out a3);have Wu3:=zH (a01 Wu2.out a3);clear a1 a2 a3;refine hK.out _ _ (HB.out _ Wu3.out) ?_
    (clear hK KK;try simp only[Act.put,zA,zB,zC])
    (repeat ((first | (refine a02 (v:=?_) rfl (by rfl) (fun wq hSq=>?_) ?_;rotate_left;(focus ((try dsimp only at hSq);go_simp;try with_reducible rfl))) | refine a03 rfl (by rfl) ?_);simp only[Act.put,zA,zB,zC]))
    have XB:Hid (u3.heap[u0.heap.size]?=some dZ):=((a01 (a01 (a01 (zF v1.heap.size v1) R1.out.2.2) R2.out.2.2) R3.out.2.2).block _ (lt_of_block Av1.out.2.1)).trans Av1.out.2.1;have HDD:Hid (DdX (u3.setRow u0.heap.size (dC tg na x.m ⟨p0,c0,p1,c1,p2,c2,p3,c3⟩ (-1) nu 0 0 0 st)) (w.heap.size+1) u0.heap.size ⟨p0,c0,p1,c1,p2,c2,p3,c3⟩ args x.m):=⟨⟨(R0.out.1.on (a01 (a01 (a01 (a01 (zF u0.heap.size u0) Av1.out.1) R1.out.2.2) R2.out.2.2) R3.out.2.2)).keep (a87 (a60 R0.out.1.blw (zF u0.heap.size u0).size)),(R1.out.1.on (a01 (a01 (zF u1.heap.size u1) R2.out.2.2) R3.out.2.2)).keep (a87 (a59 R1.out.2.1 (zL Av1.out.2.2 (zF v1.heap.size v1).size))),(R2.out.1.on (a01 (zF u2.heap.size u2) R3.out.2.2)).keep (a87 (a59 R2.out.2.1 (zL Av1.out.2.2 (a01 (zF v1.heap.size v1) R1.out.2.2).size))),(R3.out.1.on (zF u3.heap.size u3)).keep (a87 (a59 R3.out.2.1 (zL Av1.out.2.2 (a01 (a01 (zF v1.heap.size v1) R1.out.2.2) R2.out.2.2).size))),R0.out.2.1.mono (by have:=Bw2.out.size;have:=H0.out.2.2;omega),R1.out.2.1.mono (by have:=Bv1.out.size;have:=H0.out.2.2;omega),R2.out.2.1.mono (by have:=Bu1.out.size;have:=H0.out.2.2;omega),R3.out.2.1.mono (by have:=Bu2.out.size;have:=H0.out.2.2;omega)⟩,a60 R0.out.1.blw (zF u0.heap.size u0).size,a59 R1.out.2.1 (zL Av1.out.2.2 (zF v1.heap.size v1).size),a59 R2.out.2.1 (zL Av1.out.2.2 (a01 (zF v1.heap.size v1) R1.out.2.2).size),a59 R3.out.2.1 (zL Av1.out.2.2 (a01 (a01 (zF v1.heap.size v1) R1.out.2.2) R2.out.2.2).size)⟩;have HGW:Hid (w.heap.size<u0.heap.size/\b≠u0.heap.size):=⟨by have:=Bu0.out.size;have:=H0.out.2.2;omega,fun y=>by have:=Wu0.out.size;have:=HLB.out;omega⟩;refine a04 rfl (by rfl) (fun KK hK=>?_);refine wp_store_row 65 _ _ rfl u0.heap.size (dC tg na x.m ⟨p0,c0,p1,c1,p2,c2,p3,c3⟩ (-1) nu 0 0 0 st) rfl rfl _ _ XB.out deedInfo rfl (a69 _ _ _ _ _ _ _ _ _ _) ?_;obtain⟨s7,s8,s9,s10,s19⟩:=HB.out _ Wu3.out;have O:∀ j,(u3.setRow u0.heap.size (dC tg na x.m ⟨p0,c0,p1,c1,p2,c2,p3,c3⟩ (-1) nu 0 0 0 st)).cell? ⟨b,j,none⟩=u3.cell? ⟨b,j,none⟩:=fun j=>cell_setRow_other _ _ _ _ HGW.out.2
    refine hK.out _ _ ⟨(O 7).trans s7,(O 8).trans s8,(O 9).trans s9,(O 10).trans s10,(O 19).trans s19⟩ ?_;clear O
    (clear hK KK;try simp only[Act.put])
    refine a07 ?_;go_wp2_with fail
    go_meet
    exact⟨_,rfl,⟨p0,c0,p1,c1,p2,c2,p3,c3⟩,setRow_heap _ _ _ _ _ _ XB.out,HDD.out,Md.Ce.bl_setRow Wu3.out (by have:=HGW.out.1;omega) _,(setRow_other _ _ _ _ (by have:=HGW.out.1;omega)).trans ((Bu3.out.block _ H0.out.2.2).trans H0.out.2.1),HGW.out.1⟩
  ·rw[show ∀ (a b:List (Nat × Bool)),a ++ b=List.append a b from fun _ _=>rfl]
   dsimp only[List.append]
   (refine a04 rfl (by rfl) (fun KK hK=>?_);go_simp)
   obtain⟨v0,hv0⟩:∃ v0,v0=w2.alloc dZ:=⟨_,rfl⟩
   have Av0:Hid (Bl w2 v0/\v0.heap[w2.heap.size]?=some dZ/\w2.heap.size<v0.heap.size):=by rw[hv0];exact⟨below_alloc _ _,zN _ _,by simp⟩
   have Bv0:=zH (a01 Bw2.out Av0.out.1);have Wv0:=zH (a01 Ww2.out Av0.out.1);rw[show w2.alloc (.cells #[.int .i64 0,.int .i64 0,.int .i64 0,.int .i64 0,.slice none 0 0,.int .i64 0,.int .i64 0,.slice none 0 0,.slice none 0 0,.slice none 0 0,.int .i64 0,.int .i64 0,.int .i64 0,.int .i64 0,.int .i64 0,.int .i64 0,.int .i64 0,.int .i64 0,.int .i64 0] 65)=v0 from hv0.symm];clear hv0;refine hK.out _ _ (HB.out _ Wv0.out) ?_
   (clear hK KK;try simp only[Act.put,zA,zB,zC])
   (refine a04 rfl (by rfl) (fun KK hK=>?_);go_simp)
   refine(HC.out _ Wv0.out).mono ?_;rintro e u0 ⟨p0,c0,rfl,a1,a2,a3⟩;have R0:Hid (_/\Abv v0.heap.size (fpR p0)/\Bl v0 u0):=⟨a1,a2,a3⟩;have Bu0:=zH (a01 Bv0.out a3);have Wu0:=zH (a01 Wv0.out a3);clear a1 a2 a3;refine hK.out _ _ (HB.out _ Wu0.out) ?_
   (clear hK KK;try simp only[Act.put,zA,zB,zC])
   (refine a04 rfl (by rfl) (fun KK hK=>?_);go_simp)
   refine(HR.out _ Wu0.out).mono ?_;rintro e u1 ⟨p1,c1,rfl,a1,a2,a3⟩;have R1:Hid (_/\Abv u0.heap.size (fpR p1)/\Bl u0 u1):=⟨a1,a2,a3⟩;have Bu1:=zH (a01 Bu0.out a3);have Wu1:=zH (a01 Wu0.out a3);clear a1 a2 a3;refine hK.out _ _ (HB.out _ Wu1.out) ?_
   (clear hK KK;try simp only[Act.put,zA,zB,zC])
   (refine a04 rfl (by rfl) (fun KK hK=>?_);go_simp)
   refine(HWR.out _ Wu1.out).mono ?_;rintro e u2 ⟨p2,c2,rfl,a1,a2,a3⟩;have R2:Hid (_/\Abv u1.heap.size (fpR p2)/\Bl u1 u2):=⟨a1,a2,a3⟩;have Bu2:=zH (a01 Bu1.out a3);have Wu2:=zH (a01 Wu1.out a3);clear a1 a2 a3;refine hK.out _ _ (HB.out _ Wu2.out) ?_
   (clear hK KK;try simp only[Act.put,zA,zB,zC])
   (refine a04 rfl (by rfl) (fun KK hK=>?_);go_simp)
   refine(HOU.out _ Wu2.out).mono ?_;rintro e u3 ⟨p3,c3,rfl,a1,a2,a3⟩;have R3:Hid (_/\Abv u2.heap.size (fpR p3)/\Bl u2 u3):=⟨a1,a2,a3⟩;have Bu3:=zH (a01 Bu2.out a3);have Wu3:=zH (a01 Wu2.out a3);clear a1 a2 a3;refine hK.out _ _ (HB.out _ Wu3.out) ?_
   (clear hK KK;try simp only[Act.put,zA,zB,zC])
   (repeat ((first | (refine a02 (v:=?_) rfl (by rfl) (fun wq hSq=>?_) ?_;rotate_left;(focus ((try dsimp only at hSq);go_simp;try with_reducible rfl))) | refine a03 rfl (by rfl) ?_);simp only[Act.put,zA,zB,zC]))
   have XB:Hid (u3.heap[w2.heap.size]?=some dZ):=((a01 (a01 (a01 (a01 (zF v0.heap.size v0) R0.out.2.2) R1.out.2.2) R2.out.2.2) R3.out.2.2).block _ (lt_of_block Av0.out.2.1)).trans Av0.out.2.1;have HDD:Hid (DdX (u3.setRow w2.heap.size (dC tg na x.m ⟨p0,c0,p1,c1,p2,c2,p3,c3⟩ (-1) nu 0 0 0 st)) (w.heap.size+1) w2.heap.size ⟨p0,c0,p1,c1,p2,c2,p3,c3⟩ args x.m):=⟨⟨(R0.out.1.on (a01 (a01 (a01 (zF u0.heap.size u0) R1.out.2.2) R2.out.2.2) R3.out.2.2)).keep (a87 (a59 R0.out.2.1 (zL Av0.out.2.2 (zF v0.heap.size v0).size))),(R1.out.1.on (a01 (a01 (zF u1.heap.size u1) R2.out.2.2) R3.out.2.2)).keep (a87 (a59 R1.out.2.1 (zL Av0.out.2.2 (a01 (zF v0.heap.size v0) R0.out.2.2).size))),(R2.out.1.on (a01 (zF u2.heap.size u2) R3.out.2.2)).keep (a87 (a59 R2.out.2.1 (zL Av0.out.2.2 (a01 (a01 (zF v0.heap.size v0) R0.out.2.2) R1.out.2.2).size))),(R3.out.1.on (zF u3.heap.size u3)).keep (a87 (a59 R3.out.2.1 (zL Av0.out.2.2 (a01 (a01 (a01 (zF v0.heap.size v0) R0.out.2.2) R1.out.2.2) R2.out.2.2).size))),R0.out.2.1.mono (by have:=Bv0.out.size;have:=H0.out.2.2;omega),R1.out.2.1.mono (by have:=Bu0.out.size;have:=H0.out.2.2;omega),R2.out.2.1.mono (by have:=Bu1.out.size;have:=H0.out.2.2;omega),R3.out.2.1.mono (by have:=Bu2.out.size;have:=H0.out.2.2;omega)⟩,a59 R0.out.2.1 (zL Av0.out.2.2 (zF v0.heap.size v0).size),a59 R1.out.2.1 (zL Av0.out.2.2 (a01 (zF v0.heap.size v0) R0.out.2.2).size),a59 R2.out.2.1 (zL Av0.out.2.2 (a01 (a01 (zF v0.heap.size v0) R0.out.2.2) R1.out.2.2).size),a59 R3.out.2.1 (zL Av0.out.2.2 (a01 (a01 (a01 (zF v0.heap.size v0) R0.out.2.2) R1.out.2.2) R2.out.2.2).size)⟩;have HGW:Hid (w.heap.size<w2.heap.size/\b≠w2.heap.size):=⟨by have:=Bw2.out.size;have:=H0.out.2.2;omega,fun y=>by have:=Ww2.out.size;have:=HLB.out;omega⟩;refine a04 rfl (by rfl) (fun KK hK=>?_);refine wp_store_row 65 _ _ rfl w2.heap.size (dC tg na x.m ⟨p0,c0,p1,c1,p2,c2,p3,c3⟩ (-1) nu 0 0 0 st) rfl rfl _ _ XB.out deedInfo rfl (a69 _ _ _ _ _ _ _ _ _ _) ?_;obtain⟨s7,s8,s9,s10,s19⟩:=HB.out _ Wu3.out;have O:∀ j,(u3.setRow w2.heap.size (dC tg na x.m ⟨p0,c0,p1,c1,p2,c2,p3,c3⟩ (-1) nu 0 0 0 st)).cell? ⟨b,j,none⟩=u3.cell? ⟨b,j,none⟩:=fun j=>cell_setRow_other _ _ _ _ HGW.out.2
   refine hK.out _ _ ⟨(O 7).trans s7,(O 8).trans s8,(O 9).trans s9,(O 10).trans s10,(O 19).trans s19⟩ ?_;clear O
   (clear hK KK;try simp only[Act.put])
   refine a07 ?_;go_wp2_with fail
   go_meet
   exact⟨_,rfl,⟨p0,c0,p1,c1,p2,c2,p3,c3⟩,setRow_heap _ _ _ _ _ _ XB.out,HDD.out,Md.Ce.bl_setRow Wu3.out (by have:=HGW.out.1;omega) _,(setRow_other _ _ _ _ (by have:=HGW.out.1;omega)).trans ((Bu3.out.block _ H0.out.2.2).trans H0.out.2.1),HGW.out.1⟩
 case rest =>
  obtain⟨g,rfl,HQ⟩:=hcut;obtain⟨D,q1,q2,q3,q4,q5⟩:=HQ.out;have X:=zH q1;have XD:=zH q2;have XB:=zH q3;have XZ:=zH q4;have XG:Hid (w.heap.size≠g/\w.heap.size<=g):=⟨by omega,by omega⟩;obtain⟨e11,e13,e9,eb⟩:=HBP.out _ q3;clear HQ q1 q2 q3 q4 q5 HB HC HR HWR HOU HNB;obtain⟨mk',hmk'⟩:∃ mk',mk'=mk:=⟨_,rfl⟩
  have k5:wc.cell? ⟨g,5,none⟩=some (.int .i64 (-1)):=(zR _ _ 5 _ _ _ X.out).trans rfl;have f5:=zZ wc g 5 _ _ X.out;have lg:=lt_of_block X.out;have HM:Hid (∀ u,u=(if x.part=1 then wc else wc.setCell ⟨g,5,none⟩ (.int .i64 (wrap64 x.tick)))->u.heap[g]?=some (.cells (dC tg na x.m D mk nu 0 0 0 st) 65 (0,0))/\DdX u (w.heap.size+1) g D args x.m/\Bl w u/\u.heap[w.heap.size]?=some dZ):=fun u hu=>by
   by_cases e:x.part=1
   ·rw[if_pos e]at hu hk
    subst hu hk;exact⟨X.out,XD.out,XB.out,XZ.out⟩
   ·rw[if_neg e]at hu hk
    subst hu hk;exact⟨(zS wc g 5 _ _ _ X.out).trans rfl,XD.out.put _ _,XB.out.setCell XG.out.2 _,(zO _ _ _ _ XG.out.1).trans XZ.out⟩
  clear mk' hmk';have HFIN:Hid (∀ u a0 a1 a2,u.heap[g]?=some (.cells (dC tg na x.m D mk nu a0 a1 a2 st) 65 (0,0))/\DdX u (w.heap.size+1) g D args x.m/\Bl w u/\u.heap[w.heap.size]?=some dZ->DdAt (u.setRow w.heap.size (dC tg na x.m D mk nu a0 a1 a2 st)) w.heap.size D args x.m/\Bl w (u.setRow w.heap.size (dC tg na x.m D mk nu a0 a1 a2 st))):=fun u a0 a1 a2 q=>⟨(q.2.1.d.keep (fun i hi _=>setRow_other _ _ _ _ (by omega)) (by simp)).mono (by omega),Md.Ce.bl_setRow q.2.2.1 (zE _) _⟩
  by_cases p1:x.part=1
  ·have ne9:¬ (x.part:Int)=9:=by omega
   rw[if_neg (by omega)]at h0 h1 h2;subst h0 h1 h2;obtain⟨y1,y2,y3,y4⟩:=HM.out wc (by rw[if_pos p1]);have Y:=zH (And.intro y1 (And.intro y2 (And.intro y3 y4)));have t11:((x.part:Int) != 1)=false:=by simp[p1]
   rw[zU ne9]at HO;clear y1 y2 y3 y4 HM X XD XZ p1 hk k5 f5 ne9
   go_wp2_with (first
    | (refine wpList_store_row rfl 65 _ _ rfl w.heap.size (dC tg na x.m D mk nu 0 0 0 st) rfl rfl _ _ Y.out.2.2.2 deedInfo rfl (a69 _ _ _ _ _ _ _ _ _ _) ?_)
    | (refine wpList_load_row rfl 65 _ rfl g rfl _ (dC tg na x.m D mk nu 0 0 0 st) _ _ Y.out.1 Tryz.underlying65 rfl deedInfo ?_)
    | (go_at_call 141;refine(HO.out _ XB.out).mono ?_;rintro e u3 ⟨rfl,hw⟩;subst u3))
   refine ab8 (D:=D) (m:=x.m) rfl w.heap.size rfl (setRow_heap _ _ _ _ _ _ Y.out.2.2.2) rfl ⟨_,rfl,?_⟩;exact HFIN.out _ _ _ _ Y.out
  ·obtain⟨u1,hu1⟩:∃ u1,u1=wc.setCell ⟨g,5,none⟩ (.int .i64 (wrap64 x.tick)):=⟨_,rfl⟩
   obtain⟨y1,y2,y3,y4⟩:=HM.out u1 (by rw[if_neg p1];exact hu1);have Y:=zH (And.intro y1 (And.intro y2 (And.intro y3 y4)));have t11:((x.part:Int) != 1)=true:=by simp;omega
   have HU1:=zH hu1;obtain⟨_,_,z9,zb⟩:=HBP.out _ y3;have lgu:=lt_of_block y1;clear y1 y2 y3 y4 HM X XD XZ hu1
   by_cases p9:x.part=9
   ·rw[if_pos p9]at h0 h1 h2
    subst h0 h1 h2;rw[zT (by omega)]at HO;clear p1 p9 hk
    go_upto_region 4 with fail
    rw[<- HU1.out];clear HU1;have HEN:Hid (∀ u3,Bl u1 u3->(u3.cell? ⟨g,10,none⟩=some (.int .i64 0)/\u3.cell? ⟨g,11,none⟩=some (.int .i64 0)/\u3.cell? ⟨g,12,none⟩=some (.int .i64 0)/\u3.frozen? ⟨g,10,none⟩=false/\u3.frozen? ⟨g,11,none⟩=false/\u3.frozen? ⟨g,12,none⟩=false/\g<u3.heap.size)/\Hid ((((u3.setCell ⟨g,10,none⟩ (.int .i64 x.m.how)).setCell ⟨g,11,none⟩ (.int .i64 x.m.cod)).setCell ⟨g,12,none⟩ (.int .i64 x.m.err)).heap[g]?=some (.cells (dC tg na x.m D mk nu x.m.how x.m.cod x.m.err st) 65 (0,0))/\DdX (((u3.setCell ⟨g,10,none⟩ (.int .i64 x.m.how)).setCell ⟨g,11,none⟩ (.int .i64 x.m.cod)).setCell ⟨g,12,none⟩ (.int .i64 x.m.err)) (w.heap.size+1) g D args x.m/\Bl w (((u3.setCell ⟨g,10,none⟩ (.int .i64 x.m.how)).setCell ⟨g,11,none⟩ (.int .i64 x.m.cod)).setCell ⟨g,12,none⟩ (.int .i64 x.m.err))/\(((u3.setCell ⟨g,10,none⟩ (.int .i64 x.m.how)).setCell ⟨g,11,none⟩ (.int .i64 x.m.cod)).setCell ⟨g,12,none⟩ (.int .i64 x.m.err)).heap[w.heap.size]?=some dZ)):=fun u3 k=>by
     have hg:u3.heap[g]?=some (.cells (dC tg na x.m D mk nu 0 0 0 st) 65 (0,0)):=(k.block _ lgu).trans Y.out.1;have a1:=(zS u3 g 10 _ _ (.int .i64 x.m.how) hg).trans (show _=some (Obj.cells (dC tg na x.m D mk nu x.m.how 0 0 st) 65) from rfl);have a2:=(zS _ g 11 _ _ (.int .i64 x.m.cod) a1).trans (show _=some (Obj.cells (dC tg na x.m D mk nu x.m.how x.m.cod 0 st) 65) from rfl);have a3:=(zS _ g 12 _ _ (.int .i64 x.m.err) a2).trans (show _=some (Obj.cells (dC tg na x.m D mk nu x.m.how x.m.cod x.m.err st) 65) from rfl);refine⟨⟨(zR _ _ 10 _ _ _ hg).trans rfl,(zR _ _ 11 _ _ _ hg).trans rfl,(zR _ _ 12 _ _ _ hg).trans rfl,zZ _ _ _ _ _ hg,zZ _ _ _ _ _ hg,zZ _ _ _ _ _ hg,lt_of_block hg⟩,a3,(((Y.out.2.1.on k).put _ _).put _ _).put _ _,?_,?_⟩
     ·have hw:=a01 Y.out.2.2.1 k
      exact((hw.setCell XG.out.2 _).setCell XG.out.2 _).setCell XG.out.2 _
     ·exact(zO _ _ _ _ XG.out.1).trans ((zO _ _ _ _ XG.out.1).trans ((zO _ _ _ _ XG.out.1).trans ((k.block _ (lt_of_block Y.out.2.2.2)).trans Y.out.2.2.2)))
    go_wp2_with (first
     | (refine wpList_store_row rfl 65 _ _ rfl w.heap.size (dC tg na x.m D mk nu x.m.how x.m.cod x.m.err st) rfl rfl _ _ Z.out.2.2.2 deedInfo rfl (a69 _ _ _ _ _ _ _ _ _ _) ?_)
     | (refine wpList_load_row rfl 65 _ rfl g rfl _ (dC tg na x.m D mk nu x.m.how x.m.cod x.m.err st) _ _ Z.out.1 Tryz.underlying65 rfl deedInfo ?_)
     | (go_at_call 142;refine(HE.out _ Y.out.2.2.1).mono ?_;rintro e u4 ⟨rfl,q⟩;obtain⟨⟨k10,k11,k12,f10,f11,f12,l4⟩,Z⟩:=HEN.out _ q;clear q HEN)
     | (go_at_call 141;refine(HO.out _ Y.out.2.2.1).mono ?_;rintro e u3 ⟨rfl,hw⟩;subst u3))
    refine ab8 (D:=D) (m:=x.m) rfl w.heap.size rfl (setRow_heap _ _ _ _ _ _ Z.out.2.2.2) rfl ⟨_,rfl,?_⟩;exact HFIN.out _ _ _ _ Z.out
   ·rw[if_neg p9]at h0 h1 h2
    subst h0 h1 h2;rw[zU (by omega)]at HO;clear p1 p9 hk
    go_upto_region 4 with fail
    rw[<- HU1.out];clear HU1
    go_wp2_with (first
     | (refine wpList_store_row rfl 65 _ _ rfl w.heap.size (dC tg na x.m D mk nu 0 0 0 st) rfl rfl _ _ Y.out.2.2.2 deedInfo rfl (a69 _ _ _ _ _ _ _ _ _ _) ?_)
     | (refine wpList_load_row rfl 65 _ rfl g rfl _ (dC tg na x.m D mk nu 0 0 0 st) _ _ Y.out.1 Tryz.underlying65 rfl deedInfo ?_)
     | (go_at_call 141;refine(HO.out _ Y.out.2.2.1).mono ?_;rintro e u3 ⟨rfl,hw⟩;subst u3))
    refine ab8 (D:=D) (m:=x.m) rfl w.heap.size rfl (setRow_heap _ _ _ _ _ _ Y.out.2.2.2) rfl ⟨_,rfl,?_⟩;exact HFIN.out _ _ _ _ Y.out
end
end Go.Proofs.YtlkldgopliablaaGreatDoor.Ww
namespace Go.Proofs.YtlkldgopliablaaGreatDoor.En
open Go.ChangeShapes Go.WideShapes Go.ChangeAt Go.RowKit Num Ww
open Rr (Rx a25 InX okW u64B Alike step_in newX a30)
def TxAt (w:World) (b:Nat) (G K:List Nat):Ty->Prop
 | .inl (_,x)=>∃ z q F r,Rr.RawAt w b x z q F (Rr.comC x) r/\Rr.RdOk x q r/\G=Rr.gX b z q F/\K=z.KK
 | .inr (_,x)=>∃ z v,RawAt w b x z v/\VOk x v/\G=gY b v/\K=z.KK
def bF3:Ty->FuncId
 | .inl _=>328
 | .inr _=>325
def bI1:Ty->FuncId
 | .inl _=>327
 | .inr _=>116
def txT:Ty->TypeId
 | .inl _=>192
 | .inr _=>190
def txV (y:Ty) (b:Nat):Value:=.iface (txT y) (.pointer (some ⟨b,0,none⟩))
section
variable {w w':World} {b mb mg:Nat} {G K:List Nat} {y:Ty} {s:Su} {t:Nat} {N n:Int} {ws:List Int} {o:Bool}
theorem TxAt.blw (h:TxAt w b G K y):Blw w G:=by
 rcases y with⟨_,x⟩ | ⟨_,x⟩
 ·obtain⟨z,q,F,r,h1,_,rfl,_⟩:=h;exact h1.blw
 ·obtain⟨z,v,h1,_,rfl,_⟩:=h;exact h1.blw
theorem TxAt.blwK (h:TxAt w b G K y):Blw w K:=by
 rcases y with⟨_,x⟩ | ⟨_,x⟩
 ·obtain⟨z,q,F,r,h1,_,_,rfl⟩:=h;exact h1.blwK
 ·obtain⟨z,v,h1,_,_,rfl⟩:=h;exact h1.blwK
theorem TxAt.sep (h:TxAt w b G K y):Sep K G:=by
 rcases y with⟨_,x⟩ | ⟨_,x⟩
 ·obtain⟨z,q,F,r,h1,_,rfl,rfl⟩:=h;exact h1.sep
 ·obtain⟨z,v,h1,_,rfl,rfl⟩:=h;exact h1.sep
theorem TxAt.keep (h:TxAt w b G K y) (k:Kept G w w') (k2:Kept K w w'):TxAt w' b G K y:=by
 rcases y with⟨_,x⟩ | ⟨_,x⟩
 ·obtain⟨z,q,F,r,h1,h2,rfl,rfl⟩:=h;exact⟨z,q,F,r,h1.keep k k2,h2,rfl,rfl⟩
 ·obtain⟨z,v,h1,h2,rfl,rfl⟩:=h;exact⟨z,v,h1.keep k k2,h2,rfl,rfl⟩
theorem TxAt.on (h:TxAt w b G K y) (k:Bl w w'):TxAt w' b G K y:=h.keep (a27 k h.blw) (a27 k h.blwK)
def Went (w w':World) (b mb mg:Nat) (G K:List Nat) (y:Ty) (ws:List Int) (n:Int):Prop :=
 ∃ G' o',TxAt w' b G' K (goS y ws)/\MemAt 145 w' mb mg (goW y ws) o' (if goA y ws then up n else n)/\Sep [mb,mg] G'/\Turn (mb::mg::G) (mb::mg::G') w w'
theorem bz6 (h:TxAt w b G K y) (hm:MemAt 145 w mb mg ws o n) (s1:Sep [mb,mg] G) (s2:Sep [mb,mg] K) (hT:a78 w (mb::mg::G)) (hI:TIn s t N y) (ho:a72 y=false) (hw:okW ws) (hl:(ws.length:Int)=3+s.b+3*s.a) (hN:N<9223372036854775807) :
  Calls Tryz.prog (bF3 y) #[.pointer (some ⟨b,0,none⟩),.pointer (some ⟨mb,0,none⟩)] w fun e w'=>e=.returned (.tuple #[.bool (a72 (goS y ws)),.int .i64 0])/\Went w w' b mb mg G K y ws n:=by
 rcases y with⟨m,x⟩ | ⟨m,x⟩
 ·obtain⟨z,q,F,r,h1,h2,rfl,rfl⟩:=h
  obtain⟨i1,i2,i3,i4⟩:=hI;have hF:Rr.Full w (mb::mg::Rr.gX b z q F) b z mb mg w x ws o n:=⟨q,r,⟨F,h1,hm,s1,s2,Turn.refl _ _⟩,h2⟩;refine(Rr.step_any hF hT i1 (zM ho) (by unfold Rr.plW;omega) hw (y:=(a25 x ws).1) (ws':=(a25 x ws).2.1) (ac:=(a25 x ws).2.2) rfl).mono ?_;rintro e w' ⟨rfl,q',r',⟨F',g1,g2,g3,g4,g5⟩,k2⟩;refine⟨?_,_,_,⟨z,q',F',r',g1,k2,rfl,rfl⟩,g2,g3,g5⟩
  show Ending.returned (.tuple #[.bool (decide (((a25 x ws).1.part:Int)=4)),.int .i64 0])=.returned (.tuple #[.bool (decide ((a25 x ws).1.part=4)),.int .i64 0])
  rw[show decide (((a25 x ws).1.part:Int)=4)=decide ((a25 x ws).1.part=4) from decide_eq_decide.2 ⟨fun q=>by omega,fun q=>by omega⟩]
 ·obtain⟨z,v,h1,h2,rfl,rfl⟩:=h
  obtain⟨i1,i2,i3,i4,i5,i6⟩:=hI;have hF:Full w (mb::mg::gY b v) b z mb mg w x ws o n:=⟨v,⟨h1,hm,s1,s2,Turn.refl _ _⟩,h2⟩;refine(Ww.step_any hF hT i1 (zM ho) (by unfold plY;omega) i5 (by omega) (y:=(ac9 x ws).1) (ws':=(ac9 x ws).2.1) (ac:=(ac9 x ws).2.2) rfl).mono ?_;rintro e w' ⟨rfl,v',⟨g1,g2,g3,g4,g5⟩,k2⟩;refine⟨?_,_,_,⟨z,v',g1,k2,rfl,rfl⟩,g2,g3,g5⟩
  show Ending.returned (.tuple #[.bool (decide (((ac9 x ws).1.part:Int)=9)),.int .i64 0])=.returned (.tuple #[.bool (decide ((ac9 x ws).1.part=9)),.int .i64 0])
  rw[show decide (((ac9 x ws).1.part:Int)=9)=decide ((ac9 x ws).1.part=9) from decide_eq_decide.2 ⟨fun q=>by omega,fun q=>by omega⟩]
def tagT:Ty->Int
 | .inl (_,x)=>x.tag
 | .inr (_,x)=>x.tag
def af0:Ty->List Nat
 | .inl (_,x)=>x.args
 | .inr (_,x)=>x.args
def macT:Ty->Mac
 | .inl (_,x)=>x.m
 | .inr (_,x)=>x.m
def bf5:Ty->Int
 | .inl (_,x)=>Rr.markV x
 | .inr (_,x)=>b38 x
def numT:Ty->Int
 | .inl _=>0
 | .inr (_,x)=>x.num
def endT (y:Ty) (v:Int):Int:=if a72 y then v else 0
def aQ2:Ty->Int
 | .inl (_,x)=>x.steps
 | .inr (_,x)=>x.steps
def dCel (th no pr tag:Int) (na:Nat) (mark num:Int) (m:Mac) (D:Rr.Dd) (e0 e1 e2 bg en st ah fr to_:Int):Array Value :=
 #[.int .i64 th,.int .i64 no,.int .i64 pr,.int .i64 tag,.slice D.pa na D.ca,.int .i64 mark,.int .i64 num,.slice D.pr m.reads.length D.cr,.slice D.pw m.buf.length D.cw,.slice D.po m.out.length D.co,.int .i64 e0,.int .i64 e1,.int .i64 e2,.int .i64 bg,.int .i64 en,.int .i64 st,.int .i64 ah,.int .i64 fr,.int .i64 to_]
def dTx (y:Ty) (D:Rr.Dd) (th no pr bg en ah fr to_:Int):Array Value :=
 dCel th no pr (tagT y) (af0 y).length (bf5 y) (numT y) (macT y) D (endT y (macT y).how) (endT y (macT y).cod) (endT y (macT y).err) bg en (aQ2 y) ah fr to_
theorem aM7 (h:TxAt w b G K y) (hI:TIn s t N y):Calls Tryz.prog (bI1 y) #[.pointer (some ⟨b,0,none⟩)] w fun e w'=>∃ D,e=.returned (.agg (dTx y D 0 0 0 0 0 0 0 0))/\Rr.DdAt w' w.heap.size D (af0 y) (macT y)/\Bl w w':=by
 rcases y with⟨m,x⟩ | ⟨m,x⟩
 ·obtain⟨z,q,F,r,h1,h2,rfl,rfl⟩:=h
  have e:∀ v,Rr.endI x v=endT (.inl (m,x)) v:=fun v=>by
   unfold Rr.endI endT a72
   by_cases q:x.part=4
   ·simp[q]
   ·simp[q]
  exact Rr.Deed_any h1 hI.1.toIn0 rfl rfl rfl (e _) (e _) (e _)
 ·obtain⟨z,v,h1,h2,rfl,rfl⟩:=h
  have e:∀ v,endJ x v=endT (.inr (m,x)) v:=fun v=>by
   unfold endJ endT a72
   by_cases q:x.part=9
   ·simp[q]
   ·simp[q]
  refine(Ww.Deed_any h1 h2 hI.1 rfl rfl rfl rfl (e _) (e _) (e _)).mono ?_;rintro r w' ⟨D,rfl,k1,k2⟩;exact⟨⟨D.pa,D.ca,D.pr,D.cr,D.pw,D.cw,D.po,D.co⟩,rfl,⟨k1.a,k1.r,k1.wr,k1.o,k1.xa,k1.xr,k1.xw,k1.xo⟩,k2⟩
end
end Go.Proofs.YtlkldgopliablaaGreatDoor.En
namespace Go.Proofs.YtlkldgopliablaaGreatDoor.Sd
open Go.ChangeShapes Go.WideShapes Go.ChangeAt Go.RowKit
structure Rd where
 n:Nat
 g:Nat->Bool
 s:Nat->Bool
 o:Nat
def putF (f:Nat->Bool) (t:Nat) (x:Bool):Nat->Bool:=fun k=>if k=t then x else f k
def noneF:Nat->Bool:=fun _=>false
def eq8 (f h:Nat->Bool):Bool:=f 0 == h 0 && f 1 == h 1 && f 2 == h 2 && f 3 == h 3 && f 4 == h 4 && f 5 == h 5 && f 6 == h 6 && f 7 == h 7
theorem eq8_iff (f h:Nat->Bool):eq8 f h=true ↔ ∀ k,k<8->f k=h k:=by
 simp only[eq8,Bool.and_eq_true,beq_iff_eq]
 constructor
 ·rintro⟨⟨⟨⟨⟨⟨⟨h0,h1⟩,h2⟩,h3⟩,h4⟩,h5⟩,h6⟩,h7⟩ k hk
  match k,hk with
  | 0,_=>exact h0
  | 1,_=>exact h1
  | 2,_=>exact h2
  | 3,_=>exact h3
  | 4,_=>exact h4
  | 5,_=>exact h5
  | 6,_=>exact h6
  | 7,_=>exact h7
  | k+8,h=>omega
 ·intro q
  exact⟨⟨⟨⟨⟨⟨⟨q 0 (by omega),q 1 (by omega)⟩,q 2 (by omega)⟩,q 3 (by omega)⟩,q 4 (by omega)⟩,q 5 (by omega)⟩,q 6 (by omega)⟩,q 7 (by omega)⟩
def overB (m:Rd):Bool:=!eq8 m.g noneF && eq8 m.s m.g
def settleM (m:Rd):Rd:=if overB m then { m with s:=noneF,o:=m.o+1 } else m
def hasT (m:Rd) (t:Int):Bool:=decide (0<=t/\t<(m.n:Int))
def stepN (m:Rd) (t:Nat):Rd:=if m.g t then settleM { m with s:=putF m.s t true } else m
def finN (m:Rd) (t:Nat):Rd:=if m.g t then settleM { m with g:=putF m.g t false,s:=putF m.s t false } else m
def boxV (m:Rd):Array Value:=#[.int .i64 m.n,.bool (m.g 0),.bool (m.g 1),.bool (m.g 2),.bool (m.g 3),.bool (m.g 4),.bool (m.g 5),.bool (m.g 6),.bool (m.g 7),.bool (m.s 0),.bool (m.s 1),.bool (m.s 2),.bool (m.s 3),.bool (m.s 4),.bool (m.s 5),.bool (m.s 6),.bool (m.s 7),.int .i64 m.o]
structure RdAt (w:World) (b:Nat) (m:Rd):Prop where
 box:w.heap[b]?=some (.cells (boxV m) 170 (0,0))
section
variable {w w':World} {b:Nat} {m:Rd}
theorem RdAt.lt (h:RdAt w b m):b<w.heap.size:=lt_of_block h.box
theorem RdAt.free (h:RdAt w b m) (j:Nat):w.frozen? ⟨b,j,none⟩=false:=zZ w b j _ _ h.box
theorem RdAt.cellN (h:RdAt w b m):w.cell? ⟨b,0,none⟩=some (.int .i64 m.n):=by rw[zR w b 0 _ _ _ h.box];rfl
theorem RdAt.cellO (h:RdAt w b m):w.cell? ⟨b,17,none⟩=some (.int .i64 m.o):=by rw[zR w b 17 _ _ _ h.box];rfl
theorem RdAt.cellG (h:RdAt w b m) (k:Nat) (hk:k<8):w.cell? ⟨b,1+k,none⟩=some (.bool (m.g k)):=by
 rw[zR w b (1+k) _ _ _ h.box]
 match k,hk with
 | 0,_=>rfl
 | 1,_=>rfl
 | 2,_=>rfl
 | 3,_=>rfl
 | 4,_=>rfl
 | 5,_=>rfl
 | 6,_=>rfl
 | 7,_=>rfl
 | k+8,h=>omega
theorem RdAt.cellS (h:RdAt w b m) (k:Nat) (hk:k<8):w.cell? ⟨b,9+k,none⟩=some (.bool (m.s k)):=by
 rw[zR w b (9+k) _ _ _ h.box]
 match k,hk with
 | 0,_=>rfl
 | 1,_=>rfl
 | 2,_=>rfl
 | 3,_=>rfl
 | 4,_=>rfl
 | 5,_=>rfl
 | 6,_=>rfl
 | 7,_=>rfl
 | k+8,h=>omega
theorem RdAt.keep (h:RdAt w b m) (k:Kept [b] w w'):RdAt w' b m:=⟨(k.2 b (List.mem_cons_self ..)).trans h.box⟩
theorem RdAt.same (h:RdAt w b m) (k:Same w w'):RdAt w' b m:=h.keep (k.kept _)
theorem RdAt.on (h:RdAt w b m) (k:Bl w w'):RdAt w' b m:=⟨(k.block b h.lt).trans h.box⟩
theorem a24 (w:World) (b j:Nat) (v:Value):Turn [b] [b] w (w.setCell ⟨b,j,none⟩ v) :=
 ⟨rfl,rfl,rfl,by simp,fun k _ hn=>zO _ _ _ _ (by simpa using hn),fun _ h=>.inl h⟩
theorem RdAt.setG (h:RdAt w b m) (k:Nat) (hk:k<8) (x:Bool):RdAt (w.setCell ⟨b,1+k,none⟩ (.bool x)) b { m with g:=putF m.g k x }:=by
 refine⟨(zS w b (1+k) _ _ _ h.box).trans ?_⟩
 congr 2
 match k,hk with
 | 0,_=>rfl
 | 1,_=>rfl
 | 2,_=>rfl
 | 3,_=>rfl
 | 4,_=>rfl
 | 5,_=>rfl
 | 6,_=>rfl
 | 7,_=>rfl
 | k+8,h=>omega
theorem RdAt.setS (h:RdAt w b m) (k:Nat) (hk:k<8) (x:Bool):RdAt (w.setCell ⟨b,9+k,none⟩ (.bool x)) b { m with s:=putF m.s k x }:=by
 refine⟨(zS w b (9+k) _ _ _ h.box).trans ?_⟩
 congr 2
 match k,hk with
 | 0,_=>rfl
 | 1,_=>rfl
 | 2,_=>rfl
 | 3,_=>rfl
 | 4,_=>rfl
 | 5,_=>rfl
 | 6,_=>rfl
 | 7,_=>rfl
 | k+8,h=>omega
theorem RdAt.setO (h:RdAt w b m) (o:Nat):RdAt (w.setCell ⟨b,17,none⟩ (.int .i64 o)) b { m with o:=o } :=
 ⟨(zS w b 17 _ _ _ h.box).trans rfl⟩
end
def mayT (t:Int):Bool:=decide (1<=t/\t<=8)
theorem a82 (t:Int) (w:World):Calls Tryz.prog 78 #[.int .i64 t] w fun e w'=>e=.returned (.bool (mayT t))/\w'=w:=by
 unfold mayT
 by_cases h1:1<=t
 ·by_cases h2:t<=8
  ·have e:decide (1<=t/\t<=8)=true:=by simp[h1,h2]
   rw[e];clear e;go_enter Tryz.func78,Tryz.ntmps78
   go_wp2
   go_ret;exact⟨by simp,rfl⟩
  ·have e:decide (1<=t/\t<=8)=false:=by simp[h2]
   rw[e];clear e;go_enter Tryz.func78,Tryz.ntmps78
   go_wp2
   go_ret;exact⟨by simp,rfl⟩
 ·have e:decide (1<=t/\t<=8)=false:=by simp[h1]
  rw[e];clear e;go_enter Tryz.func78,Tryz.ntmps78
  go_wp2
  go_ret;exact⟨by simp,rfl⟩
section
variable {w:World} {b:Nat} {m:Rd}
theorem a74 (h:RdAt w b m) (t:Int):Calls Tryz.prog 117 #[.pointer (some ⟨b,0,none⟩),.int .i64 t] w fun e w'=>e=.returned (.bool (hasT m t))/\w'=w:=by
 have h0:=h.cellN;have hb:=h.lt;unfold hasT;clear h
 generalize m.n=n at h0
 by_cases h1:0<=t
 ·have e:decide (0<=t/\t<(n:Int))=decide (t<(n:Int)):=by simp[h1]
  rw[e];clear e;go_enter Tryz.func117,Tryz.ntmps117
  go_wp2
  go_ret;exact⟨rfl,rfl⟩
 ·have e:decide (0<=t/\t<(n:Int))=false:=by simp[h1]
  rw[e];clear e;go_enter Tryz.func117,Tryz.ntmps117
  go_wp2
  go_ret;exact⟨rfl,rfl⟩
theorem over_any (h:RdAt w b m):Calls Tryz.prog 51 #[.pointer (some ⟨b,0,none⟩)] w fun e w'=>e=.returned (.int .i64 m.o)/\w'=w:=by
 have h0:=h.cellO;have hb:=h.lt;clear h;go_enter Tryz.func51,Tryz.ntmps51
 go_wp2
 go_ret;exact⟨rfl,rfl⟩
end
def arr8 (f:Nat->Bool):Array Value:=#[.bool (f 0),.bool (f 1),.bool (f 2),.bool (f 3),.bool (f 4),.bool (f 5),.bool (f 6),.bool (f 7)]
theorem aC7 (f:Nat->Bool) (i:Nat) (hi:i<8) (w:World):(part 4 (arr8 f) (i*1)).run Tryz.prog w=.ok (.bool (f i)) w:=by
 have a3:=Tryz.isAgg4
 match i,hi with
 | 0,_=>simp[part,arr8,a3]
 | 1,_=>simp[part,arr8,a3]
 | 2,_=>simp[part,arr8,a3]
 | 3,_=>simp[part,arr8,a3]
 | 4,_=>simp[part,arr8,a3]
 | 5,_=>simp[part,arr8,a3]
 | 6,_=>simp[part,arr8,a3]
 | 7,_=>simp[part,arr8,a3]
 | k+8,h=>omega
theorem aw4 (f h:Nat->Bool) (w:World):∀ l:List Nat,(∀ i∈l,i<8)->(Op.eqItems 9999 4 1 (arr8 f) (arr8 h) l).run Tryz.prog w=.ok (l.all fun i=>f i == h i) w
 | [],_=>by simp[Op.eqItems]
 | i::l,hl=>by
  have ih:=aw4 f h w l (fun j hj=>hl j (List.mem_cons_of_mem _ hj));have h1:=hl i (List.mem_cons_self ..);simp only[Op.eqItems,Sem.run_bind,aC7 f i h1,aC7 h i h1,Result.andThen_ok,run_equalIn_bool w 9998 4 (f i) (h i) Tryz.underlying4]
  cases e:f i == h i
  ·simp[e]
  ·simp[e,ih]
theorem aO8 (f h:Nat->Bool) (w:World):(Op.equalIn 10000 168 (.agg #[.bool (f 0),.bool (f 1),.bool (f 2),.bool (f 3),.bool (f 4),.bool (f 5),.bool (f 6),.bool (f 7)]) (.agg #[.bool (h 0),.bool (h 1),.bool (h 2),.bool (h 3),.bool (h 4),.bool (h 5),.bool (h 6),.bool (h 7)])).run Tryz.prog w=.ok (eq8 f h) w:=by
 obtain⟨i,hi⟩:∃ i,Tryz.prog.info? 4=some i:=Option.isSome_iff_exists.1 (by kernel_rfl)
 have hc:Tryz.prog.cellsOf 4=1:=by kernel_rfl
 have q:=run_equalIn_array w 9999 (arr8 f) (arr8 h) Tryz.underlying168 hi;rw[hc,aw4 f h w _ (fun i hi=>by simpa using hi)]at q;exact q.trans (by simp[eq8,List.range,List.range.loop,Bool.and_assoc])
theorem RdAt.cong {w:World} {b:Nat} {m m':Rd} (h:RdAt w b m) (e:boxV m=boxV m'):RdAt w b m':=⟨by rw[<- e];exact h.box⟩
theorem br0 {w:World} {b:Nat} {m:Rd} (h:RdAt w b m):w.cell? ⟨b,1,none⟩=some (.bool (m.g 0))/\w.cell? ⟨b,2,none⟩=some (.bool (m.g 1))/\w.cell? ⟨b,3,none⟩=some (.bool (m.g 2))/\w.cell? ⟨b,4,none⟩=some (.bool (m.g 3))/\w.cell? ⟨b,5,none⟩=some (.bool (m.g 4))/\w.cell? ⟨b,6,none⟩=some (.bool (m.g 5))/\w.cell? ⟨b,7,none⟩=some (.bool (m.g 6))/\w.cell? ⟨b,8,none⟩=some (.bool (m.g 7))/\w.cell? ⟨b,9,none⟩=some (.bool (m.s 0))/\w.cell? ⟨b,10,none⟩=some (.bool (m.s 1))/\w.cell? ⟨b,11,none⟩=some (.bool (m.s 2))/\w.cell? ⟨b,12,none⟩=some (.bool (m.s 3))/\w.cell? ⟨b,13,none⟩=some (.bool (m.s 4))/\w.cell? ⟨b,14,none⟩=some (.bool (m.s 5))/\w.cell? ⟨b,15,none⟩=some (.bool (m.s 6))/\w.cell? ⟨b,16,none⟩=some (.bool (m.s 7))/\w.cell? ⟨b,17,none⟩=some (.int .i64 m.o)/\b<w.heap.size :=
 ⟨h.cellG 0 (by omega),h.cellG 1 (by omega),h.cellG 2 (by omega),h.cellG 3 (by omega),h.cellG 4 (by omega),h.cellG 5 (by omega),h.cellG 6 (by omega),h.cellG 7 (by omega),h.cellS 0 (by omega),h.cellS 1 (by omega),h.cellS 2 (by omega),h.cellS 3 (by omega),h.cellS 4 (by omega),h.cellS 5 (by omega),h.cellS 6 (by omega),h.cellS 7 (by omega),h.cellO,h.lt⟩
theorem RdAt.over {w:World} {b:Nat} {m:Rd} (h:RdAt w b m):RdAt (((((((((w.setCell ⟨b,17,none⟩ (.int .i64 ((m.o+1:Nat):Int))).setCell ⟨b,9,none⟩ (.bool false)).setCell ⟨b,10,none⟩ (.bool false)).setCell ⟨b,11,none⟩ (.bool false)).setCell ⟨b,12,none⟩ (.bool false)).setCell ⟨b,13,none⟩ (.bool false)).setCell ⟨b,14,none⟩ (.bool false)).setCell ⟨b,15,none⟩ (.bool false)).setCell ⟨b,16,none⟩ (.bool false)) b { m with s:=noneF,o:=m.o+1 }/\Turn [b] [b] w (((((((((w.setCell ⟨b,17,none⟩ (.int .i64 ((m.o+1:Nat):Int))).setCell ⟨b,9,none⟩ (.bool false)).setCell ⟨b,10,none⟩ (.bool false)).setCell ⟨b,11,none⟩ (.bool false)).setCell ⟨b,12,none⟩ (.bool false)).setCell ⟨b,13,none⟩ (.bool false)).setCell ⟨b,14,none⟩ (.bool false)).setCell ⟨b,15,none⟩ (.bool false)).setCell ⟨b,16,none⟩ (.bool false)):=by
 have a:=((((((((h.setO (m.o+1)).setS 0 (by omega) false).setS 1 (by omega) false).setS 2 (by omega) false).setS 3 (by omega) false).setS 4 (by omega) false).setS 5 (by omega) false).setS 6 (by omega) false).setS 7 (by omega) false;refine⟨a.cong ?_,?_⟩
 ·simp[boxV,putF,noneF]
 ·exact((((((((a24 w b 17 _).trans (a24 _ b 9 _)).trans (a24 _ b 10 _)).trans (a24 _ b 11 _)).trans (a24 _ b 12 _)).trans (a24 _ b 13 _)).trans (a24 _ b 14 _)).trans (a24 _ b 15 _)).trans (a24 _ b 16 _)
theorem ax5 {w:World} {b:Nat} {m:Rd} (h:RdAt w b m) (ho:m.o<9223372036854775807):Calls Tryz.prog 118 #[.pointer (some ⟨b,0,none⟩)] w fun e w'=>e=.returned (.tuple #[])/\RdAt w' b (settleM m)/\Turn [b] [b] w w':=by
 have HT:Hid (∀ k,Turn [b] [b] w ((w.alloc (.cells #[.bool false,.bool false,.bool false,.bool false,.bool false,.bool false,.bool false,.bool false] 168)).drewN k)/\RdAt ((w.alloc (.cells #[.bool false,.bool false,.bool false,.bool false,.bool false,.bool false,.bool false,.bool false] 168)).drewN k) b m):=fun k=>⟨⟨rfl,rfl,rfl,by simp,fun j hj _=>Below.heap_alloc _ _ _ hj,fun _ q=>.inl q⟩,⟨(Below.heap_alloc _ _ _ h.lt).trans h.box⟩⟩
 obtain⟨g0,g1,g2,g3,g4,g5,g6,g7,s0,s1,s2,s3,s4,s5,s6,s7,o0,hb⟩:=br0 h;have f17:=h.free 17;have f9:=h.free 9;have f10:=h.free 10;have f11:=h.free 11;have f12:=h.free 12;have f13:=h.free 13;have f14:=h.free 14;have f15:=h.free 15;have f16:=h.free 16;have E1:∀ u,(Op.equalIn 10000 168 (.agg #[.bool (m.g 0),.bool (m.g 1),.bool (m.g 2),.bool (m.g 3),.bool (m.g 4),.bool (m.g 5),.bool (m.g 6),.bool (m.g 7)]) (.agg #[.bool false,.bool false,.bool false,.bool false,.bool false,.bool false,.bool false,.bool false])).run Tryz.prog u=.ok (eq8 m.g noneF) u:=fun u=>aO8 m.g noneF u
 have E2:∀ u,(Op.equalIn 10000 168 (.agg #[.bool (m.s 0),.bool (m.s 1),.bool (m.s 2),.bool (m.s 3),.bool (m.s 4),.bool (m.s 5),.bool (m.s 6),.bool (m.s 7)]) (.agg #[.bool (m.g 0),.bool (m.g 1),.bool (m.g 2),.bool (m.g 3),.bool (m.g 4),.bool (m.g 5),.bool (m.g 6),.bool (m.g 7)])).run Tryz.prog u=.ok (eq8 m.s m.g) u:=fun u=>aO8 m.s m.g u
 clear h
 cases h1:eq8 m.g noneF
 ·cases h2:eq8 m.s m.g
  ·have e:settleM m=m:=by simp[settleM,overB,h1,h2]
   rw[e];rw[h1]at E1;rw[h2]at E2;clear e h1 h2;go_enter Tryz.func118,Tryz.ntmps118
   go_wp2
   go_quiet (fail)
   go_wp2
   go_end0
   exact⟨rfl,(HT.out _).2,(HT.out _).1⟩
  ·have e:settleM m={ m with s:=noneF,o:=m.o+1 }:=by simp[settleM,overB,h1,h2]
   rw[e];rw[h1]at E1;rw[h2]at E2;clear e h1 h2;go_enter Tryz.func118,Tryz.ntmps118
   go_wp2
   go_quiet (fail)
   go_wp2
   go_end0
   exact⟨rfl,(HT.out _).2.over.1,(HT.out _).1.trans (HT.out _).2.over.2⟩
 ·have e:settleM m=m:=by simp[settleM,overB,h1]
  rw[e];rw[h1]at E1;clear e h1 E2;go_enter Tryz.func118,Tryz.ntmps118
  go_wp2
  go_quiet (fail)
  go_wp2
  go_end0
  exact⟨rfl,(HT.out _).2,(HT.out _).1⟩
def newR (n:Nat):Rd:={ n:=n,g:=fun k=>decide (k<n),s:=noneF,o:=0 }
def newI (n i:Nat):Rd:={ n:=n,g:=fun k=>decide (k<i),s:=noneF,o:=0 }
theorem bg9 (n i:Nat):{ newI n i with g:=putF (newI n i).g i true }=newI n (i+1):=by
 show Rd.mk n (putF (fun k=>decide (k<i)) i true) noneF 0=Rd.mk n (fun k=>decide (k<i+1)) noneF 0
 congr 1
 funext k
 show (if k=i then true else decide (k<i))=decide (k<i+1)
 by_cases h:k=i
 ·simp[h]
 ·have e:(k<i+1)=(k<i):=by simp;omega
  simp[h,e]
theorem new_yes (n:Nat) (h1:1<=n) (h8:n<=8) (w:World):Calls Tryz.prog 67 #[.int .i64 (n:Int)] w fun e w'=>e=.returned (.tuple #[.pointer (some ⟨w.heap.size,0,none⟩),.int .i64 0])/\RdAt w' w.heap.size (newR n)/\Bl w w':=by
 have e:mayT (n:Int)=true:=zT ⟨by omega,by omega⟩;have H1:=zH (a82 (n:Int));rw[e]at H1;clear e;have HB:Hid (∀ o,Bl w (w.alloc o)):=fun o=>(zF w.heap.size w).alloc (zE _) o
 have HA:=zH (show RdAt (w.alloc (.cells #[.int .i64 (n:Int),.bool false,.bool false,.bool false,.bool false,.bool false,.bool false,.bool false,.bool false,.bool false,.bool false,.bool false,.bool false,.bool false,.bool false,.bool false,.bool false,.int .i64 0] 170)) w.heap.size (newI n 0) from⟨zN _ _⟩);go_enter Tryz.func67,Tryz.ntmps67
 go_wp2_with (go_at_call 78;refine(H1.out _).mono ?_;rintro e w1 ⟨rfl,hw⟩;subst w1)
 go_loopw [13] (fun vi wr=>∃ i:Nat,vi=.int .i64 i/\i<=n/\Hid (RdAt wr w.heap.size (newI n i)/\Bl w wr)) (fun vi _=>n - (intOf vi).toNat)
 case atStart=>exact⟨0,rfl,zV _,HA.out,HB.out _⟩
 case round =>
  obtain⟨i,rfl,hi,HQ⟩:=hrel
  by_cases hlt:i<n
  ·have hlt':(i:Int)<(n:Int):=by omega
   have k8:(i:Int)<8:=by omega
   have hc:=HQ.out.1.cellG i (by omega);have hb:=HQ.out.1.lt;have hf:=HQ.out.1.free (1+i);have HN:Hid (RdAt (wr.setCell ⟨w.heap.size,1+i,none⟩ (.bool true)) w.heap.size (newI n (i+1))/\Bl w (wr.setCell ⟨w.heap.size,1+i,none⟩ (.bool true))):=by
    have q:=HQ.out.1.setG i (by omega) true;rw[bg9]at q;exact⟨q,HQ.out.2.trans ((a24 _ _ _ _).below (fun k hk=>by simp at hk;omega) HQ.out.2.size)⟩
   clear HQ HA HB
   go_wp2
   exact⟨⟨i+1,by first | rfl | (congr 1),by omega,HN⟩,by simp[intOf];omega⟩
  ·have hlt':¬ (i:Int)<(n:Int):=by omega
   obtain rfl:i=n:=by omega
   go_wp2
   go_ret2;exact⟨rfl,HQ.out.1,HQ.out.2⟩
end Go.Proofs.YtlkldgopliablaaGreatDoor.Sd
namespace Go.Proofs.YtlkldgopliablaaGreatDoor.En
open Go.ChangeShapes Go.WideShapes Go.ChangeAt Go.RowKit Num Ww
open Rr (Rx a25 InX okW u64B Alike step_in newX a30)
structure Ex where
 b:Nat
 mb:Nat
 mg:Nat
 rb:Nat
 gc:Nat
 pp:Nat
structure Ev where
 pt:Option Addr
 ct:Nat
 tb:Nat->Nat
 G:Nat->List Nat
 R:List Nat
structure Ed where
 N:Int
 ws:List Int
 cnt:Int
 rd:Sd.Rd
 cr:Nat->Array Value
 dn:Nat
 tr:Nat->Array Value
 T:Nat->Option Ty
 L:Nat->Option (Rr.Dd × List Nat × Mac)
def eBox (s:Su) (f:Ex) (v:Ev) (d:Ed):Array Value:=#[.int .i64 s.a,.int .i64 s.b,.int .i64 s.c,.int .i64 s.e,.slice (some ⟨f.pp,0,none⟩) s.pg.length s.pg.length,.int .i64 0,.int .i64 1,.int .i64 2,.int .i64 3,.int .i64 (3+s.b),.int .i64 (3+s.b+3*s.a),.pointer (some ⟨f.mb,0,none⟩),.pointer (some ⟨f.rb,0,none⟩),.slice (some ⟨f.gc,0,none⟩) s.n s.n,.slice v.pt d.dn v.ct,.int .i64 d.N]
def own (f:Ex) (v:Ev):Nat->List Nat
 | 0=>[f.b]
 | 1=>[f.mb,f.mg]
 | 2=>[f.rb]
 | 3=>[f.gc]
 | 4=>fpR v.pt
 | 5=>v.R
 | t+6=>v.G t
def fF (f:Ex) (v:Ev):List Nat:=f.b::f.mb::f.mg::f.rb::f.gc::(fpR v.pt ++ (List.range 8).flatMap v.G)
def PgIn (w:World) (R:List Nat) (g i:Nat) (x:Int × List Ins):Prop:=g∈R/\w.cell? ⟨g,i*2,none⟩=some (.int .i64 x.1)/\∃ ao c,w.cell? ⟨g,i*2+1,none⟩=some (.slice ao x.2.length c)/\a35 w ao x.2/\(∀ k∈fpR ao,k∈R)/\x.2.length<=9223372036854775807
def ClIn (w:World) (R:List Nat) (qa:Option Addr) (j:Nat) (x:Int × List Nat):Prop:=∃ g,qa=some ⟨g,0,none⟩/\g∈R/\w.cell? ⟨g,j*2,none⟩=some (.int .i64 x.1)/\∃ po c,w.cell? ⟨g,j*2+1,none⟩=some (.slice po x.2.length c)/\FlAt w po x.2/\∀ k∈fpR po,k∈R
def DlIn (w:World) (R:List Nat) (D:Rr.Dd) (args:List Nat) (m:Mac):Prop:=Rr.DdAt w 0 D args m/\∀ k,k∈fpR D.pa∨k∈fpR D.pr∨k∈fpR D.pw∨k∈fpR D.po->k∈R
structure Fx (w:World) (R:List Nat) (f:Ex) (s:Su) (cr:Nat->Array Value):Prop where
 tab:Shaped5 w
 tin:1∈R
 prg:∀ i,i<s.pg.length->PgIn w R f.pp i (s.pg.getD i (0,[]))
 cls:∀ t,t<s.n->∃ qa qc,(cr t)[0]?=some (.slice qa (s.cs t).length qc)/\∀ j,j<(s.cs t).length->ClIn w R qa j (s.call t j)
structure EnAt (w:World) (f:Ex) (v:Ev) (s:Su) (d:Ed):Prop where
 box:w.heap[f.b]?=some (.cells (eBox s f v d) 91 (0,0))
 mem:∃ o,MemAt 145 w f.mb f.mg d.ws o d.cnt
 rds:Sd.RdAt w f.rb d.rd
 crs:Arr w f.gc 94 3 s.n s.n d.cr
 trn:w.ownsRow 0 110 20 (.slice v.pt d.dn v.ct) d.dn (ac2 d.tr d.dn)
 tsz:∀ i,i<d.dn->(d.tr i).size=20
 fx:Fx w v.R f s d.cr
 tx:∀ t y,d.T t=some y->t<8/\∃ K,TxAt w (v.tb t) (v.G t) K y/\∀ k∈K,k∈v.R
 no:∀ t,d.T t=none->v.G t=[]
 dl:∀ i D a m,d.L i=some (D,a,m)->DlIn w v.R D a m
 blR:Blw w v.R
 apart:∀ i j,i≠j->Sep (own f v i) (own f v j)
theorem a96 {w w':World} {g j:Nat} {R:List Nat} (k:Kept R w w') (hg:g∈R):w'.cell? ⟨g,j,none⟩=w.cell? ⟨g,j,none⟩:=by
 unfold World.cell?;dsimp only;rw[k.2 g hg]
theorem al2 {w w':World} {ao:Option Addr} {c:List Ins} (h:a35 w ao c) (k:Kept (fpR ao) w w'):a35 w' ao c:=fun i hi=>by
 obtain⟨b,off,e,hlt,c0,c1,c2⟩:=h i hi;have hb:b∈fpR ao:=aL0.2 ⟨_,e,rfl⟩;exact⟨b,off,e,zL hlt k.1,(a96 k hb).trans c0,(a96 k hb).trans c1,(a96 k hb).trans c2⟩
theorem b07 {w w':World} {po:Option Addr} {l:List Nat} (h:FlAt w po l) (k:Kept (fpR po) w w'):FlAt w' po l:=fun i hi=>by
 obtain⟨b,off,e,hlt,c0⟩:=h i hi;have hb:b∈fpR po:=aL0.2 ⟨_,e,rfl⟩;exact⟨b,off,e,zL hlt k.1,(a96 k hb).trans c0⟩
theorem af4 {R L:List Nat} {w w':World} (k:Kept R w w') (h:∀ i∈L,i∈R):Kept L w w':=⟨k.1,fun i hi=>k.2 i (h i hi)⟩
theorem aG2 {w w':World} {T:TypeId} {sz n c:Nat} {p:Option Addr} {xs:List Value} (h:w.ownsRow 0 T sz (.slice p n c) n xs) (k:Kept (fpR p) w w'):w'.ownsRow 0 T sz (.slice p n c) n xs:=by
 refine⟨h.1,?_⟩
 rcases h.2 with q | ⟨g,cap,cur,hv,hb,hg,rest⟩
 ·exact .inl q
 ·refine .inr ⟨g,cap,cur,hv,hb,?_,rest⟩
  rw[k.2 g (a40 (n:=n) (c:=c).2 (by rw[hv];rfl))];exact hg
theorem aP3 {w:World} {T:TypeId} {sz n c:Nat} {p:Option Addr} {xs:List Value} (h:w.ownsRow 0 T sz (.slice p n c) n xs):Blw w (fpR p):=fun k hk=>(h.lt k (a40.1 hk)).2
section
variable {w w':World} {R R':List Nat} {f:Ex} {v:Ev} {s:Su} {d:Ed} {cr cr':Nat->Array Value}
theorem PgIn.keep {g i:Nat} {x:Int × List Ins} (h:PgIn w R g i x) (k:Kept R w w') (hR:∀ i∈R,i∈R'):PgIn w' R' g i x:=by
 obtain⟨h1,h2,ao,c,h3,h4,h5,h6⟩:=h;exact⟨hR _ h1,(a96 k h1).trans h2,ao,c,(a96 k h1).trans h3,al2 h4 (af4 k h5),fun i hi=>hR _ (h5 i hi),h6⟩
theorem ClIn.keep {qa:Option Addr} {j:Nat} {x:Int × List Nat} (h:ClIn w R qa j x) (k:Kept R w w') (hR:∀ i∈R,i∈R'):ClIn w' R' qa j x:=by
 obtain⟨g,h0,h1,h2,po,c,h3,h4,h5⟩:=h;exact⟨g,h0,hR _ h1,(a96 k h1).trans h2,po,c,(a96 k h1).trans h3,b07 h4 (af4 k h5),fun i hi=>hR _ (h5 i hi)⟩
theorem DlIn.keep {D:Rr.Dd} {a:List Nat} {m:Mac} (h:DlIn w R D a m) (k:Kept R w w') (hR:∀ i∈R,i∈R'):DlIn w' R' D a m :=
 ⟨⟨h.1.a.keep (af4 k fun i hi=>h.2 i (.inl hi)),h.1.r.keep (af4 k fun i hi=>h.2 i (.inr (.inl hi))),h.1.wr.keep (af4 k fun i hi=>h.2 i (.inr (.inr (.inl hi)))),h.1.o.keep (af4 k fun i hi=>h.2 i (.inr (.inr (.inr hi)))),h.1.xa,h.1.xr,h.1.xw,h.1.xo⟩,fun i hi=>hR _ (h.2 i hi)⟩
theorem av2 (h:Shaped5 w) (k:Kept R w w') (hR:1∈R):Shaped5 w':=by
 have hb:=k.2 _ hR;refine⟨fun k hk=>?_⟩;obtain⟨c0,c1,c2,c3,c4,c5⟩:=h.shp k hk;exact⟨(World.cell?_of_block hb).trans c0,(World.cell?_of_block hb).trans c1,(World.cell?_of_block hb).trans c2,(World.cell?_of_block hb).trans c3,(World.cell?_of_block hb).trans c4,(World.cell?_of_block hb).trans c5⟩
theorem Fx.keep (h:Fx w R f s cr) (k:Kept R w w') (hR:∀ i∈R,i∈R') (hc:∀ t,t<s.n->(cr' t)[0]?=(cr t)[0]?):Fx w' R' f s cr' :=
 ⟨av2 h.tab k h.tin,hR _ h.tin,fun i hi=>(h.prg i hi).keep k hR,fun t ht=>by
  obtain⟨qa,qc,e,q⟩:=h.cls t ht;exact⟨qa,qc,(hc t ht).trans e,fun j hj=>(q j hj).keep k hR⟩⟩
theorem EnAt.blws (h:EnAt w f v s d):∀ i,Blw w (own f v i)
 | 0=>fun k hk=>by rw[show k=f.b by simpa[own]using hk];exact lt_of_block h.box
 | 1=>fun k hk=>by
  obtain⟨o,hm⟩:=h.mem;simp only[own,List.mem_cons,List.not_mem_nil,or_false]at hk
  rcases hk with rfl | rfl
  ·exact hm.ltB
  ·exact hm.ltG
 | 2=>fun k hk=>by rw[show k=f.rb by simpa[own]using hk];exact h.rds.lt
 | 3=>fun k hk=>by rw[show k=f.gc by simpa[own]using hk];exact h.crs.lt
 | 4=>aP3 h.trn
 | 5=>h.blR
 | t+6=>by
  show Blw w (v.G t)
  cases e:d.T t with
  | none=>rw[h.no t e];intro k hk;cases hk
  | some y=>obtain⟨_,K,q,_⟩:=h.tx t y e;exact q.blw
theorem ao5 {v:Ev} {k:Nat}:k∈fF f v ↔ ∃ j,j≠5/\j<14/\k∈own f v j:=by
 simp only[fF,List.mem_cons,List.mem_append,List.mem_flatMap,List.mem_range]
 constructor
 ·rintro(rfl | rfl | rfl | rfl | rfl | q | ⟨t,ht,q⟩)
  ·exact⟨0,by omega,by omega,by simp[own]⟩
  ·exact⟨1,by omega,by omega,by simp[own]⟩
  ·exact⟨1,by omega,by omega,by simp[own]⟩
  ·exact⟨2,by omega,by omega,by simp[own]⟩
  ·exact⟨3,by omega,by omega,by simp[own]⟩
  ·exact⟨4,by omega,by omega,q⟩
  ·exact⟨t+6,by omega,by omega,q⟩
 ·rintro⟨j,h1,h2,q⟩
  match j,h1,h2,q with
  | 0,_,_,q=>simp[own]at q;simp[q]
  | 1,_,_,q=>simp[own]at q;rcases q with q | q <;> simp[q]
  | 2,_,_,q=>simp[own]at q;simp[q]
  | 3,_,_,q=>simp[own]at q;simp[q]
  | 4,_,_,q=>exact .inr (.inr (.inr (.inr (.inr (.inl q)))))
  | t+6,_,h2,q=>exact .inr (.inr (.inr (.inr (.inr (.inr ⟨t,by omega,q⟩)))))
theorem EnAt.inF (h:EnAt w f v s d) {j k:Nat} (hj:j≠5) (hk:k∈own f v j):k∈fF f v:=by
 refine ao5.2 ⟨j,hj,?_,hk⟩
 match j,hk with
 | t+6,hk =>
  have hk:k∈v.G t:=hk
  cases e:d.T t with
  | none=>rw[h.no t e]at hk;cases hk
  | some y=>have:=(h.tx t y e).1;omega
 | 0,_=>omega
 | 1,_=>omega
 | 2,_=>omega
 | 3,_=>omega
 | 4,_=>omega
 | 5,_=>omega
structure Ext (f:Ex) (v v':Ev) (w w':World):Prop where
 turn:Turn (fF f v) (fF f v') w w'
 ro:∀ k,k∈v'.R->k∈v.R∨w.heap.size<=k
theorem Ext.trans {v' v'':Ev} {w'':World} (h:Ext f v v' w w') (k:Ext f v' v'' w' w''):Ext f v v'' w w'':=⟨h.turn.trans k.turn,fun i hi=>(k.ro i hi).elim (h.ro i) (fun q=>.inr (zQ h.turn.size q))⟩
theorem Ext.of_below (k:Bl w w'):Ext f v v w w':=⟨Below.turn k _,fun _ h=>.inl h⟩
theorem as0 {v':Ev} {L L':List Nat} (t:Turn L L' w w') (hL:∀ k∈L,k∈fF f v) (hV:∀ k∈fF f v',k∈fF f v∨k∈L'∨w.heap.size<=k) (hR:∀ k,k∈v'.R->k∈v.R∨w.heap.size<=k):Ext f v v' w w' :=
 ⟨⟨t.os,t.tape,t.output,t.size,fun k hk hn=>t.block k hk (fun q=>hn (hL k q)),fun k hk=>by
  rcases hV k hk with q | q | q
  ·exact .inl q
  ·exact(t.own k q).imp (hL k) id
  ·exact .inr q⟩,hR⟩
theorem EnAt.ap_gen (h:EnAt w f v s d) {v':Ev} {i:Nat} (c:∀ j k,k∈own f v' j->k∈own f v j∨(j=i/\∀ j',k∉own f v j')):∀ a b,a≠b->Sep (own f v' a) (own f v' b):=fun a b hab k ha hb=>by
 rcases c a k ha with p | ⟨p,p'⟩
 ·rcases c b k hb with q | ⟨q,q'⟩
  ·exact h.apart a b hab k p q
  ·exact q' a p
 ·rcases c b k hb with q | ⟨q,q'⟩
  ·exact p' b q
  ·omega
theorem EnAt.new (h:EnAt w f v s d) {k:Nat} (hk:w.heap.size<=k):∀ j,k∉own f v j:=fun j q=>absurd (h.blws j k q) (Nat.not_lt.2 hk)
theorem EnAt.but (h:EnAt w f v s d) {i:Nat} {L:List Nat} (t:Turn (own f v i) L w w'):∀ j,j≠i->Kept (own f v j) w w':=fun j hj=>t.kept (h.apart j i hj) (h.blws j)
theorem EnAt.kBox (h:EnAt w f v s d) (k:Kept (own f v 0) w w'):w'.heap[f.b]?=some (.cells (eBox s f v d) 91 (0,0)):=(k.2 f.b (by simp[own])).trans h.box
theorem EnAt.kMem (h:EnAt w f v s d) (k:Kept (own f v 1) w w'):∃ o,MemAt 145 w' f.mb f.mg d.ws o d.cnt:=by
 obtain⟨o,hm⟩:=h.mem;exact⟨o,hm.keep (k.2 _ (by simp[own])) (k.2 _ (by simp[own]))⟩
theorem EnAt.kRds (h:EnAt w f v s d) (k:Kept (own f v 2) w w'):Sd.RdAt w' f.rb d.rd:=h.rds.keep k
theorem EnAt.kCrs (h:EnAt w f v s d) (k:Kept (own f v 3) w w'):Arr w' f.gc 94 3 s.n s.n d.cr:=h.crs.keep (k.2 _ (by simp[own]))
theorem EnAt.kTrn (h:EnAt w f v s d) (k:Kept (own f v 4) w w'):w'.ownsRow 0 110 20 (.slice v.pt d.dn v.ct) d.dn (ac2 d.tr d.dn):=aG2 h.trn k
theorem EnAt.kFx (h:EnAt w f v s d) (k:Kept (own f v 5) w w'):Fx w' v.R f s d.cr:=h.fx.keep k (fun _ q=>q) (fun _ _=>rfl)
theorem EnAt.kTx (h:EnAt w f v s d) (k5:Kept (own f v 5) w w') {t:Nat} {y:Ty} (e:d.T t=some y) (k:Kept (own f v (t+6)) w w'):t<8/\∃ K,TxAt w' (v.tb t) (v.G t) K y/\∀ k∈K,k∈v.R:=by
 obtain⟨h1,K,h2,h3⟩:=h.tx t y e;exact⟨h1,K,h2.keep k (af4 k5 h3),h3⟩
theorem EnAt.kDl (h:EnAt w f v s d) (k:Kept (own f v 5) w w'):∀ i D a m,d.L i=some (D,a,m)->DlIn w' v.R D a m:=fun i D a m e=>(h.dl i D a m e).keep k fun _ q=>q
theorem EnAt.kBl (h:EnAt w f v s d) (k:Kept (own f v 5) w w'):Blw w' v.R:=fun i hi=>zL (h.blR i hi) k.1
theorem EnAt.keep (h:EnAt w f v s d) (k:∀ i,Kept (own f v i) w w'):EnAt w' f v s d :=
 ⟨h.kBox (k 0),h.kMem (k 1),h.kRds (k 2),h.kCrs (k 3),h.kTrn (k 4),h.tsz,h.kFx (k 5),fun _ _ e=>h.kTx (k 5) e (k _),h.no,h.kDl (k 5),h.kBl (k 5),h.apart⟩
theorem EnAt.on (h:EnAt w f v s d) (k:Bl w w'):EnAt w' f v s d:=h.keep fun i=>a27 k (h.blws i)
theorem EnAt.same (h:EnAt w f v s d) (k:Same w w'):EnAt w' f v s d:=h.on (k.below _)
theorem EnAt.cell (h:EnAt w f v s d) (j:Nat):w.cell? ⟨f.b,j,none⟩=(eBox s f v d)[j]?:=zR w f.b j _ _ _ h.box
theorem EnAt.ltB (h:EnAt w f v s d):f.b<w.heap.size:=lt_of_block h.box
theorem EnAt.free (h:EnAt w f v s d) (j:Nat):w.frozen? ⟨f.b,j,none⟩=false:=zZ w f.b j _ _ h.box
theorem as1 (h:EnAt w f v s d) {i:Nat} (hi:i≠5) (t:Turn (own f v i) (own f v i) w w'):Ext f v v w w':=as0 t (fun _ q=>h.inF hi q) (fun _ q=>.inl q) fun _ q=>.inl q
theorem EnAt.setN (h:EnAt w f v s d) (N':Int):EnAt (w.setCell ⟨f.b,15,none⟩ (.int .i64 N')) f v s { d with N:=N' }/\Ext f v v w (w.setCell ⟨f.b,15,none⟩ (.int .i64 N')):=by
 have t:Turn (own f v 0) (own f v 0) w (w.setCell ⟨f.b,15,none⟩ (.int .i64 N')):=a24 w f.b 15 _;have k:=h.but t;exact⟨⟨zS w f.b 15 _ _ _ h.box,h.kMem (k 1 (by omega)),h.kRds (k 2 (by omega)),h.kCrs (k 3 (by omega)),h.kTrn (k 4 (by omega)),h.tsz,h.kFx (k 5 (by omega)),fun _ _ e=>h.kTx (k 5 (by omega)) e (k _ (by omega)),h.no,h.kDl (k 5 (by omega)),h.kBl (k 5 (by omega)),h.apart⟩,as1 h (by omega) t⟩
theorem EnAt.setC (h:EnAt w f v s d) {t j:Nat} (ht:t<s.n) (h1:1<=j) (h3:j<3) (x:Value):EnAt (w.setCell ⟨f.gc,t*3+j,none⟩ x) f v s { d with cr:=updA d.cr t ((d.cr t).setIfInBounds j x) }/\Ext f v v w (w.setCell ⟨f.gc,t*3+j,none⟩ x):=by
 have tt:Turn (own f v 3) (own f v 3) w (w.setCell ⟨f.gc,t*3+j,none⟩ x):=a24 w f.gc _ _;have k:=h.but tt;refine⟨⟨h.kBox (k 0 (by omega)),h.kMem (k 1 (by omega)),h.kRds (k 2 (by omega)),h.crs.put ht h3 x,h.kTrn (k 4 (by omega)),h.tsz,h.fx.keep (k 5 (by omega)) (fun _ q=>q) (fun u hu=>?_),fun _ _ e=>h.kTx (k 5 (by omega)) e (k _ (by omega)),h.no,h.kDl (k 5 (by omega)),h.kBl (k 5 (by omega)),h.apart⟩,as1 h (by omega) tt⟩;dsimp only
 by_cases e:u=t
 ·subst e
  rw[a22,Array.getElem?_setIfInBounds_ne (by omega)]
 ·rw[a37 _ _ e]
theorem EnAt.setR (h:EnAt w f v s d) {r:Sd.Rd} (t:Turn [f.rb] [f.rb] w w') (hr:Sd.RdAt w' f.rb r):EnAt w' f v s { d with rd:=r }/\Ext f v v w w':=by
 have t:Turn (own f v 2) (own f v 2) w w':=t;have k:=h.but t;exact⟨⟨h.kBox (k 0 (by omega)),h.kMem (k 1 (by omega)),hr,h.kCrs (k 3 (by omega)),h.kTrn (k 4 (by omega)),h.tsz,h.kFx (k 5 (by omega)),fun _ _ e=>h.kTx (k 5 (by omega)) e (k _ (by omega)),h.no,h.kDl (k 5 (by omega)),h.kBl (k 5 (by omega)),h.apart⟩,as1 h (by omega) t⟩
def updG (G:Nat->List Nat) (t:Nat) (L:List Nat):Nat->List Nat:=fun u=>if u=t then L else G u
theorem aa1 (G:Nat->List Nat) (t:Nat) (L:List Nat):updG G t L t=L:=if_pos rfl
theorem ak2 (G:Nat->List Nat) {t u:Nat} (L:List Nat) (h:u≠t):updG G t L u=G u:=if_neg h
theorem aB1 {v:Ev} {t:Nat} {L:List Nat} {tb:Nat->Nat} {j:Nat} (hj:j≠t+6):own f { v with G:=updG v.G t L,tb:=tb } j=own f v j:=by
 match j,hj with
 | 0,_=>rfl
 | 1,_=>rfl
 | 2,_=>rfl
 | 3,_=>rfl
 | 4,_=>rfl
 | 5,_=>rfl
 | u+6,hj=>exact ak2 _ _ (by omega)
theorem EnAt.goes (h:EnAt w f v s d) {t:Nat} {y:Ty} {K:List Nat} (e:d.T t=some y) (hK:∀ k∈K,k∈v.R) (g:Went w w' (v.tb t) f.mb f.mg (v.G t) K y d.ws d.cnt):∃ L,EnAt w' f { v with G:=updG v.G t L } s { d with ws:=goW y d.ws,cnt:=(if goA y d.ws then up d.cnt else d.cnt),T:=upT d.T t (some (goS y d.ws)) }/\Ext f v { v with G:=updG v.G t L } w w':=by
 obtain⟨L,o,g1,g2,g3,g4⟩:=g;have ht:=(h.tx t y e).1;have k:∀ j,j≠1->j≠t+6->Kept (own f v j) w w':=fun j h1 h2=>g4.kept (fun i hi q=>by
  simp only[List.mem_cons]at q
  rcases q with q | q | q
  ·exact h.apart j 1 h1 i hi (by simp[own,q])
  ·exact h.apart j 1 h1 i hi (by simp[own,q])
  ·exact h.apart j (t+6) h2 i hi q) (h.blws j)
 have hL:∀ i,i∈L->i∈v.G t∨w.heap.size<=i:=fun i hi=>by
  rcases g4.own i (by simp[hi]) with q | q
  ·simp only[List.mem_cons]at q
   rcases q with q | q | q
   ·exact absurd hi (g3 i (by simp[q]))
   ·exact absurd hi (g3 i (by simp[q]))
   ·exact .inl q
  ·exact .inr q
 have c:∀ j i,i∈own f { v with G:=updG v.G t L } j->i∈own f v j∨(j=t+6/\∀ j',i∉own f v j'):=fun j i hi=>by
  by_cases q:j=t+6
  ·subst q
   have hi:i∈updG v.G t L t:=hi;rw[aa1]at hi
   rcases hL i hi with z | z
   ·exact .inl z
   ·exact .inr ⟨rfl,h.new z⟩
  ·rw[show own f { v with G:=updG v.G t L } j=own f v j from aB1 q]at hi
   exact .inl hi
 refine⟨L,⟨h.kBox (k 0 (by omega) (by omega)),⟨o,g2⟩,h.kRds (k 2 (by omega) (by omega)),h.kCrs (k 3 (by omega) (by omega)),h.kTrn (k 4 (by omega) (by omega)),h.tsz,h.kFx (k 5 (by omega) (by omega)),fun u y' e'=>?_,fun u e'=>?_,h.kDl (k 5 (by omega) (by omega)),h.kBl (k 5 (by omega) (by omega)),h.ap_gen c⟩,as0 g4 (fun i hi=>?_) (fun i hi=>?_) fun i hi=>.inl hi⟩
 ·dsimp only at e' ⊢
  by_cases q:u=t
  ·subst q
   rw[a34]at e'
   cases e'
   rw[aa1];exact⟨ht,K,g1,hK⟩
  ·rw[a76 _ _ q]at e'
   rw[ak2 _ _ q];exact h.kTx (k 5 (by omega) (by omega)) e' (k _ (by omega) (by omega))
 ·dsimp only at e' ⊢
  by_cases q:u=t
  ·subst q
   rw[a34]at e'
   cases e'
  ·rw[a76 _ _ q]at e'
   rw[ak2 _ _ q];exact h.no u e'
 ·simp only[List.mem_cons]at hi
  rcases hi with q | q | q
  ·exact h.inF (j:=1) (by omega) (by simp[own,q])
  ·exact h.inF (j:=1) (by omega) (by simp[own,q])
  ·exact h.inF (j:=t+6) (by omega) q
 ·obtain⟨j,h1,h2,h3⟩:=ao5.1 hi
  rcases c j i h3 with q | ⟨rfl,q⟩
  ·exact .inl (h.inF h1 q)
  ·have h3:i∈updG v.G t L t:=h3
   rw[aa1]at h3;exact .inr (.inl (by simp[h3]))
end
section
variable {w w':World} {f:Ex} {v:Ev} {s:Su} {d:Ed}
theorem EnAt.grow (h:EnAt w f v s d) (k:Bl w w') {L:List Nat} (a:Abv w.heap.size L) (b:Blw w' L):EnAt w' f { v with R:=L ++ v.R } s d/\Ext f v { v with R:=L ++ v.R } w w':=by
 have h':=h.on k;have sub:∀ i∈v.R,i∈L ++ v.R:=fun i hi=>List.mem_append.2 (.inr hi)
 have c:∀ j i,i∈own f { v with R:=L ++ v.R } j->i∈own f v j∨(j=5/\∀ j',i∉own f v j'):=fun j i hi=>by
  match j,hi with
  | 0,hi=>exact .inl hi
  | 1,hi=>exact .inl hi
  | 2,hi=>exact .inl hi
  | 3,hi=>exact .inl hi
  | 4,hi=>exact .inl hi
  | 5,hi=>exact(List.mem_append.1 hi).elim (fun q=>.inr ⟨rfl,h.new (a i q)⟩) .inl
  | t+6,hi=>exact .inl hi
 refine⟨⟨h'.box,h'.mem,h'.rds,h'.crs,h'.trn,h'.tsz,h'.fx.keep ⟨zE _,fun _ _=>rfl⟩ sub (fun _ _=>rfl),fun t y e=>?_,h'.no,fun i D x m e=>(h'.dl i D x m e).keep ⟨zE _,fun _ _=>rfl⟩ sub,fun i hi=>(List.mem_append.1 hi).elim (b i) (h'.blR i),h.ap_gen c⟩,as0 (Below.turn k []) (fun i hi=>by cases hi) (fun i hi=>.inl hi) fun i hi=>(List.mem_append.1 hi).elim (fun q=>.inr (a i q)) .inl⟩;obtain⟨h1,K,h2,h3⟩:=h'.tx t y e;exact⟨h1,K,h2,fun i hi=>sub i (h3 i hi)⟩
theorem EnAt.born (h:EnAt w f v s d) (k:Bl w w') {t b:Nat} {y:Ty} {G K:List Nat} (ht:t<8) (hT:d.T t=none) (tx:TxAt w' b G K y) (aG:Abv w.heap.size G) (aK:Abv w.heap.size K) :
  EnAt w' f { v with tb:=updN v.tb t b,G:=updG v.G t G,R:=K ++ v.R } s { d with T:=upT d.T t (some y) }/\Ext f v { v with tb:=updN v.tb t b,G:=updG v.G t G,R:=K ++ v.R } w w':=by
 obtain⟨h',x⟩:=h.grow k aK tx.blwK;have o5:∀ j,j≠t+6->own f { v with tb:=updN v.tb t b,G:=updG v.G t G,R:=K ++ v.R } j=own f { v with R:=K ++ v.R } j:=fun j hj=>aB1 (v:={ v with R:=K ++ v.R }) hj
 have nG:∀ i,i∈G->∀ j,i∉own f { v with R:=K ++ v.R } j:=fun i hi j q=>by
  by_cases e:j=5
  ·subst e
   rcases List.mem_append.1 q with q | q
   ·exact tx.sep i q hi
   ·exact h.new (aG i hi) 5 q
  ·refine h.new (aG i hi) j ?_
   match j,e,q with
   | 0,_,q=>exact q
   | 1,_,q=>exact q
   | 2,_,q=>exact q
   | 3,_,q=>exact q
   | 4,_,q=>exact q
   | u+6,_,q=>exact q
 have c:∀ j i,i∈own f { v with tb:=updN v.tb t b,G:=updG v.G t G,R:=K ++ v.R } j->i∈own f { v with R:=K ++ v.R } j∨(j=t+6/\∀ j',i∉own f { v with R:=K ++ v.R } j'):=fun j i hi=>by
  by_cases q:j=t+6
  ·subst q
   have hi:i∈updG v.G t G t:=hi;rw[aa1]at hi;exact .inr ⟨rfl,nG i hi⟩
  ·rw[o5 j q]at hi
   exact .inl hi
 refine⟨⟨h'.box,h'.mem,h'.rds,h'.crs,h'.trn,h'.tsz,h'.fx,fun u y' e=>?_,fun u e=>?_,h'.dl,h'.blR,h'.ap_gen c⟩,⟨x.turn.os,x.turn.tape,x.turn.output,x.turn.size,x.turn.block,fun i hi=>?_⟩,x.ro⟩
 ·dsimp only at e ⊢
  by_cases q:u=t
  ·subst q
   rw[a34]at e
   cases e
   rw[aa1,a62];exact⟨ht,K,tx,fun i hi=>List.mem_append.2 (.inl hi)⟩
  ·rw[a76 _ _ q]at e
   rw[ak2 _ _ q,aa7 _ _ q];exact h'.tx u y' e
 ·dsimp only at e ⊢
  by_cases q:u=t
  ·subst q
   rw[a34]at e
   cases e
  ·rw[a76 _ _ q]at e
   rw[ak2 _ _ q];exact h'.no u e
 ·obtain⟨j,h1,h2,h3⟩:=ao5.1 hi
  by_cases q:j=t+6
  ·subst q
   have h3:i∈updG v.G t G t:=h3;rw[aa1]at h3;exact .inr (aG i h3)
  ·rw[o5 j q]at h3
   exact x.turn.own i (ao5.2 ⟨j,h1,h2,h3⟩)
theorem EnAt.died (h:EnAt w f v s d) (t:Nat):EnAt w f { v with G:=updG v.G t [] } s { d with T:=upT d.T t none }/\Ext f v { v with G:=updG v.G t [] } w w:=by
 have c:∀ j i,i∈own f { v with G:=updG v.G t [] } j->i∈own f v j:=fun j i hi=>by
  by_cases q:j=t+6
  ·subst q
   have hi:i∈updG v.G t [] t:=hi;rw[aa1]at hi
   cases hi
  ·rwa[show own f { v with G:=updG v.G t [] } j=own f v j from aB1 q]at hi
 refine⟨⟨h.box,h.mem,h.rds,h.crs,h.trn,h.tsz,h.fx,fun u y e=>?_,fun u e=>?_,h.dl,h.blR,fun i j hij k hi hj=>h.apart i j hij k (c i k hi) (c j k hj)⟩,as0 (Turn.refl [] w) (fun i hi=>by cases hi) (fun i hi=>?_) fun i hi=>.inl hi⟩
 ·dsimp only at e ⊢
  by_cases q:u=t
  ·subst q
   rw[a34]at e
   cases e
  ·rw[a76 _ _ q]at e
   rw[ak2 _ _ q];exact h.tx u y e
 ·dsimp only at e ⊢
  by_cases q:u=t
  ·subst q
   exact aa1 _ _ _
  ·rw[a76 _ _ q]at e
   rw[ak2 _ _ q];exact h.no u e
 ·obtain⟨j,h1,h2,h3⟩:=ao5.1 hi
  exact .inl (h.inF h1 (c j i h3))
theorem EnAt.told (h:EnAt w f v s d) (i:Nat) {D:Rr.Dd} {a:List Nat} {m:Mac} (q:DlIn w v.R D a m):EnAt w f v s { d with L:=fun k=>if k=i then some (D,a,m) else d.L k } :=
 ⟨h.box,h.mem,h.rds,h.crs,h.trn,h.tsz,h.fx,h.tx,h.no,fun k D' a' m' e=>by
  dsimp only at e
  by_cases z:k=i
  ·rw[if_pos z]at e
   cases e
   exact q
  ·rw[if_neg z]at e
   exact h.dl k D' a' m' e,h.blR,h.apart⟩
theorem EnAt.arr (h:EnAt w f v s d) (h0:0<d.dn):∃ g,v.pt=some ⟨g,0,none⟩/\v.ct<=maxLen/\Arr w g 110 20 v.ct d.dn d.tr:=by
 obtain⟨g,c,e,h1,h2⟩:=bn7 h.trn h0 h.tsz;injection e with e1 _ e3;subst e3;exact⟨g,e1,h1,h2⟩
theorem EnAt.turned (h:EnAt w f v s d) {g:Nat} (hp:v.pt=some ⟨g,0,none⟩) (hm:v.ct<=maxLen) (t:Turn [g] [g] w w') {tr:Nat->Array Value} (A:Arr w' g 110 20 v.ct d.dn tr):EnAt w' f v s { d with tr:=tr }/\Ext f v v w w':=by
 have t:Turn (own f v 4) (own f v 4) w w':=by
  have e:own f v 4=[g]:=by simp[own,hp,fpR]
  rw[e];exact t
 have k:=h.but t;refine⟨⟨h.kBox (k 0 (by omega)),h.kMem (k 1 (by omega)),h.kRds (k 2 (by omega)),h.kCrs (k 3 (by omega)),?_,A.sz,h.kFx (k 5 (by omega)),fun _ _ e=>h.kTx (k 5 (by omega)) e (k _ (by omega)),h.no,h.kDl (k 5 (by omega)),h.kBl (k 5 (by omega)),h.apart⟩,as1 h (by omega) t⟩;have:=A.owns (by omega) hm;rw[<- hp]at this;exact this
theorem bm2 {w:World} {g:Nat} {a:Array Value}:Turn [g] [g] w (w.setRow g a):=⟨rfl,rfl,rfl,by simp,fun k _ hn=>setRow_other _ _ _ _ (by simpa using hn),fun _ q=>.inl q⟩
theorem EnAt.more (h:EnAt w f v s d) {w3:World} {u:Value} {c:Array Value} (hc:c.size=20) (hown:w3.ownsRow 0 110 20 u (d.dn+1) (ac2 d.tr d.dn ++ c.toList)) (hg:w.grownBy w3 (Value.slice v.pt d.dn v.ct).ownBlock) (hat:u.ownBlock=(Value.slice v.pt d.dn v.ct).ownBlock∨∃ s,u.ownBlock=some s/\w.heap.size<=s) :
  ∃ p' c',u=.slice p' (d.dn+1) c'/\w3.heap[f.b]?=some (.cells (eBox s f v d) 91 (0,0))/\EnAt (w3.setCell ⟨f.b,14,none⟩ u) f { v with pt:=p',ct:=c' } s { d with dn:=d.dn+1,tr:=updA d.tr d.dn c }/\Ext f v { v with pt:=p',ct:=c' } w (w3.setCell ⟨f.b,14,none⟩ u):=by
 obtain⟨p',c',rfl⟩:∃ p' c',u=.slice p' (d.dn+1) c':=by
  rcases hown.2 with⟨rfl,h0⟩ | ⟨g,cap,cur,rfl,_⟩
  ·omega
  ·exact⟨_,_,rfl⟩
 have hf:ac2 d.tr d.dn ++ c.toList=ac2 (updA d.tr d.dn c) (d.dn+1):=by
  show _=ac2 (updA d.tr d.dn c) d.dn ++ (updA d.tr d.dn c d.dn).toList
  rw[a22,ao4 d.dn (fun i hi=>(a37 d.tr c (show i≠d.dn by omega)).symm)]
 rw[hf]at hown;have ho:∀ k,k∈fpR p'->k∈fpR v.pt∨w.heap.size<=k:=by
  rcases hat with q | ⟨s,q,hs⟩
  ·exact aj3 (s:=w.heap.size) (.inl q) (zE _)
  ·exact aj3 (n:=d.dn) (c:=v.ct) (.inr q) hs
 have t1:Turn (own f v 4) (fpR p') w w3:=⟨hg.os,hg.tape,hg.output,hg.size,fun k hk hn=>hg.block k hk (fun q=>hn (a40.2 q.symm)),ho⟩;have k1:=h.but t1;have hb:=h.kBox (k1 0 (by omega));have hne:f.b∉fpR p':=fun q=>(ho _ q).elim (fun z=>h.apart 0 4 (by omega) f.b (by simp[own]) z) (fun z=>h.new z 0 (by simp[own]))
 have k2:∀ L:List Nat,f.b∉L->Kept L w3 (w3.setCell ⟨f.b,14,none⟩ (.slice p' (d.dn+1) c')):=fun L hn=>⟨by simp,fun i hi=>zO _ _ _ _ (fun (e:i=f.b)=>hn (e ▸ hi))⟩
 have k:∀ j,j≠4->j≠0->Kept (own f v j) w (w3.setCell ⟨f.b,14,none⟩ (.slice p' (d.dn+1) c')):=fun j h1 h2=>by
  have z:=k2 (own f v j) (fun q=>h.apart 0 j (by omega) f.b (by simp[own]) q);exact⟨zQ (k1 j h1).1 z.1,fun i hi=>(z.2 i hi).trans ((k1 j h1).2 i hi)⟩
 have c4:∀ j i,i∈own f { v with pt:=p',ct:=c' } j->i∈own f v j∨(j=4/\∀ j',i∉own f v j'):=fun j i hi=>by
  match j,hi with
  | 0,hi=>exact .inl hi
  | 1,hi=>exact .inl hi
  | 2,hi=>exact .inl hi
  | 3,hi=>exact .inl hi
  | 4,hi=>exact(ho i hi).imp id (fun q=>⟨rfl,h.new q⟩)
  | 5,hi=>exact .inl hi
  | t+6,hi=>exact .inl hi
 have t3:Turn (own f v 4 ++ [f.b]) (fpR p' ++ [f.b]) w (w3.setCell ⟨f.b,14,none⟩ (.slice p' (d.dn+1) c')):=⟨hg.os,hg.tape,hg.output,by simpa using hg.size,fun i hi hn=>by
  rw[List.mem_append,not_or]at hn;exact(zO _ _ _ _ (by simpa using hn.2)).trans (t1.block i hi hn.1),fun i hi=>(List.mem_append.1 hi).elim (fun q=>(ho i q).imp (fun z=>List.mem_append.2 (.inl z)) id) (fun q=>.inl (List.mem_append.2 (.inr q)))⟩
 refine⟨p',c',rfl,hb,⟨zS w3 f.b 14 _ _ _ hb,h.kMem (k 1 (by omega) (by omega)),h.kRds (k 2 (by omega) (by omega)),h.kCrs (k 3 (by omega) (by omega)),aG2 hown (k2 _ hne),fun i hi=>?_,h.kFx (k 5 (by omega) (by omega)),fun _ _ e=>h.kTx (k 5 (by omega) (by omega)) e (k _ (by omega) (by omega)),h.no,h.kDl (k 5 (by omega) (by omega)),h.kBl (k 5 (by omega) (by omega)),h.ap_gen c4⟩,as0 t3 (fun i hi=>?_) (fun i hi=>?_) fun i hi=>.inl hi⟩
 ·dsimp only at hi ⊢
  by_cases e:i=d.dn
  ·rw[e,a22,hc]
  ·rw[a37 _ _ e]
   exact h.tsz i (by omega)
 ·rcases List.mem_append.1 hi with q | q
  ·exact h.inF (j:=4) (by omega) q
  ·exact h.inF (j:=0) (by omega) q
 ·obtain⟨j,h1,h2,h3⟩:=ao5.1 hi
  rcases c4 j i h3 with q | ⟨rfl,q⟩
  ·exact .inl (h.inF h1 q)
  ·exact .inr (.inl (List.mem_append.2 (.inl h3)))
end
def finB (E:Eg) (u:Nat):Bool:=decide (finE E u)
def rdZ (s:Su) (X:Rs):Sd.Rd:={ n:=s.n,g:=fun u=>decide (u<s.n) && !finB X.H.E u,s:=fun u=>decide (u<s.n) && (X.stp u && !finB X.H.E u),o:=X.R }
structure Alk (m m':Sd.Rd):Prop where
 n:m.n=m'.n
 o:m.o=m'.o
 g:∀ k,k<8->m.g k=m'.g k
 s:∀ k,k<8->m.s k=m'.s k
theorem Alk.at_ {w:World} {b:Nat} {m m':Sd.Rd} (h:Alk m m') (k:Sd.RdAt w b m):Sd.RdAt w b m':=by
 refine k.cong ?_;unfold Sd.boxV;rw[h.n,h.o,h.g 0 (by omega),h.g 1 (by omega),h.g 2 (by omega),h.g 3 (by omega),h.g 4 (by omega),h.g 5 (by omega),h.g 6 (by omega),h.g 7 (by omega),h.s 0 (by omega),h.s 1 (by omega),h.s 2 (by omega),h.s 3 (by omega),h.s 4 (by omega),h.s 5 (by omega),h.s 6 (by omega),h.s 7 (by omega)]
section
variable {s:Su} {X:Rs} {t:Nat}
theorem bq5 (H:Hs) {u:Nat} (h:u≠t):(begH H t).E.T u=H.E.T u/\(begH H t).E.B u=H.E.B u/\(begH H t).E.nc=H.E.nc/\(begH H t).E.n=H.E.n:=by
 unfold begH
 split
 ·dsimp only[begE]
  split
  ·exact⟨a76 _ _ h,aa7 _ _ h,rfl,rfl⟩
  ·exact⟨rfl,rfl,rfl,rfl⟩
 ·exact⟨rfl,rfl,rfl,rfl⟩
theorem go_T (H:Hs) {u:Nat} (h:u≠t):(goH H t).E.T u=H.E.T u/\(goH H t).E.B=H.E.B/\(goH H t).E.nc=H.E.nc/\(goH H t).E.n=H.E.n:=by
 unfold goH
 split
 ·exact⟨rfl,rfl,rfl,rfl⟩
 ·exact⟨a76 _ _ h,rfl,rfl,rfl⟩
theorem al3 {u:Nat} (h:u≠t):finB (stepR X t).H.E u=finB X.H.E u:=by
 have e1:=go_T (t:=t) (begH X.H t) h;have e2:=bq5 (t:=t) X.H h;refine decide_eq_decide.2 ?_
 show finE (goH (begH X.H t) t).E u ↔ _
 unfold finE;rw[e1.1,e1.2.1,e1.2.2.1,e2.1,e2.2.1,e2.2.2.1]
theorem bF4:(stepR X t).H.E.n=X.H.E.n:=by
 by_cases h:(0:Nat)≠t
 ·exact((go_T (t:=t) (begH X.H t) h).2.2.2).trans (bq5 (t:=t) X.H h).2.2.2
 ·have h:(t+1)≠t:=by omega
  exact((go_T (t:=t) (begH X.H t) h).2.2.2).trans (bq5 (t:=t) X.H h).2.2.2
theorem b60 (hn:X.H.E.n=s.n) (h8:s.n<=8) (ht:t<s.n) (hf:finB X.H.E t=false):Alk (if finB (stepR X t).H.E t then Sd.finN (Sd.stepN (rdZ s X) t) t else Sd.stepN (rdZ s X) t) (rdZ s (stepR X t)):=by
 have hg:(rdZ s X).g t=true:=by
  show (decide (t<s.n) && !finB X.H.E t)=true
  rw[hf,zT ht];rfl
 obtain⟨dn,hdn⟩:∃ dn,dn=aJ3 (stepR X t).H.E (fun u=>if u=t then true else X.stp u) (stepR X t).H.E.n:=⟨_,rfl⟩
 have hR:(stepR X t).R=if dn then X.R+1 else X.R:=by rw[hdn];rfl
 have hS:(stepR X t).stp=if dn then fun _=>false else fun u=>if u=t then true else X.stp u:=by rw[hdn];rfl
 have hD:dn=true ↔ ∀ u,u<s.n->u≠t->finB X.H.E u=true∨X.stp u=true:=by
  rw[hdn,aD7,bF4,hn]
  constructor
  ·intro q u hu hne
   rcases q u hu with z | z
   ·exact .inl (by rw[<- al3 hne];exact zT z)
   ·rw[if_neg hne]at z;exact .inr z
  ·intro q u hu
   by_cases e:u=t
   ·exact .inr (if_pos e)
   ·rcases q u hu e with z | z
    ·rw[<- al3 e]at z;exact .inl (zP z)
    ·exact .inr (by rw[if_neg e];exact z)
 obtain⟨m1,hm1⟩:∃ m1:Sd.Rd,m1={ rdZ s X with s:=Sd.putF (rdZ s X).s t true }:=⟨_,rfl⟩
 have s1:∀ k,m1.s k=if k=t then true else decide (k<s.n) && (X.stp k && !finB X.H.E k):=fun k=>by rw[hm1];rfl
 have g1:∀ k,m1.g k=(decide (k<s.n) && !finB X.H.E k):=fun k=>by rw[hm1];rfl
 have hov:Sd.overB m1=dn:=by
  rw[Bool.eq_iff_iff,hD];unfold Sd.overB;rw[Bool.and_eq_true,Sd.eq8_iff]
  constructor
  ·rintro⟨_,q⟩ u hu hne
   have:=q u (by omega);rw[s1,g1,if_neg hne,zT hu]at this
   cases e1:finB X.H.E u with
   | true=>exact .inl rfl
   | false =>
    rw[e1]at this
    cases e2:X.stp u with
    | true=>exact .inr rfl
    | false=>rw[e2]at this;cases this
  ·intro q
   refine⟨?_,fun k hk=>?_⟩
   ·rw[Bool.not_eq_true',Bool.eq_false_iff]
    intro z;have:=(Sd.eq8_iff _ _).1 z t (by omega);rw[g1,hf,zT ht]at this
    cases this
   ·rw[s1,g1]
    by_cases e:k=t
    ·rw[if_pos e,e,hf,zT ht];rfl
    ·rw[if_neg e]
     by_cases hk':k<s.n
     ·rcases q k hk' e with z | z
      ·rw[z,zT hk'];cases X.stp k <;> rfl
      ·rw[z];rfl
     ·rw[zU hk'];rfl
 have hst:Sd.stepN (rdZ s X) t=if dn then { m1 with s:=Sd.noneF,o:=m1.o+1 } else m1:=by
  unfold Sd.stepN;rw[if_pos hg,<- hm1];unfold Sd.settleM;rw[hov]
 have mo:m1.o=X.R:=by rw[hm1];rfl
 have mn:m1.n=s.n:=by rw[hm1];rfl
 have G':∀ k,(rdZ s (stepR X t)).g k=(decide (k<s.n) && !finB (stepR X t).H.E k):=fun _=>rfl
 have S':∀ k,(rdZ s (stepR X t)).s k=(decide (k<s.n) && ((stepR X t).stp k && !finB (stepR X t).H.E k)):=fun _=>rfl
 rw[hst]
 cases hft:finB (stepR X t).H.E t with
 | false =>
  rw[if_neg Bool.false_ne_true];have fe:∀ k,finB (stepR X t).H.E k=finB X.H.E k:=fun k=>by
   by_cases e:k=t
   ·rw[e,hft,hf]
   ·exact al3 e
  cases hd:dn with
  | true =>
   rw[if_pos rfl];rw[hd]at hR hS;refine⟨mn,?_,fun k hk=>?_,fun k hk=>?_⟩
   ·show m1.o+1=(stepR X t).R
    rw[hR,mo];rfl
   ·rw[G',fe];exact g1 k
   ·rw[S',hS];show false=_;simp
  | false =>
   rw[if_neg Bool.false_ne_true];rw[hd]at hR hS;refine⟨mn,?_,fun k hk=>?_,fun k hk=>?_⟩
   ·show m1.o=(stepR X t).R
    rw[hR,mo];rfl
   ·rw[G',fe];exact g1 k
   ·rw[S',hS,fe,s1]
    by_cases e:k=t
    ·rw[if_pos e,e,hf,zT ht];simp
    ·rw[if_neg e];simp[e]
 | true =>
  rw[if_pos rfl];have fe:∀ k,k≠t->finB (stepR X t).H.E k=finB X.H.E k:=fun k e=>al3 e
  have gf:∀ m:Sd.Rd,m.g=m1.g->Sd.finN m t=Sd.settleM { m with g:=Sd.putF m.g t false,s:=Sd.putF m.s t false }:=fun m e=>by
   unfold Sd.finN;rw[if_pos];rw[e,g1,hf,zT ht];rfl
  have no:∀ m:Sd.Rd,m.g=m1.g->(dn=true->m.s=Sd.noneF)->(dn=false->m.s=m1.s)->Sd.overB { m with g:=Sd.putF m.g t false,s:=Sd.putF m.s t false }=false:=fun m e e1 e2=>by
   rw[Bool.eq_false_iff];unfold Sd.overB;rw[Ne,Bool.and_eq_true,Sd.eq8_iff];rintro⟨z1,z2⟩;rw[Bool.not_eq_true',Bool.eq_false_iff]at z1;have z2:∀ k,k<8->(if k=t then false else m.s k)=(if k=t then false else m.g k):=z2
   cases hd:dn with
   | true =>
    apply z1
    refine(Sd.eq8_iff _ _).2 fun k hk=>?_
    have:=z2 k hk
    show (if k=t then false else m.g k)=false
    rw[<- this,e1 hd]
    split <;> rfl
   | false =>
    have:¬ ∀ u,u<s.n->u≠t->finB X.H.E u=true∨X.stp u=true:=fun q=>by
     have:=hD.2 q;rw[hd]at this
     cases this
    apply this
    intro u hu hne;have z:=z2 u (by omega);rw[if_neg hne,if_neg hne,e2 hd,e,s1,g1,if_neg hne,zT hu]at z
    cases e1:finB X.H.E u with
    | true=>exact .inl rfl
    | false =>
     rw[e1]at z
     cases e2:X.stp u with
     | true=>exact .inr rfl
     | false=>rw[e2]at z;cases z
  have gg:∀ k,(if k=t then false else m1.g k)=(rdZ s (stepR X t)).g k:=fun k=>by
   rw[G']
   by_cases e:k=t
   ·rw[if_pos e,e,hft];simp
   ·rw[if_neg e,fe k e];exact g1 k
  cases hd:dn with
  | true =>
   rw[if_pos rfl,gf { m1 with s:=Sd.noneF,o:=m1.o+1 } rfl];unfold Sd.settleM;rw[no { m1 with s:=Sd.noneF,o:=m1.o+1 } rfl (fun _=>rfl) (fun z=>by rw[hd]at z;cases z),if_neg Bool.false_ne_true];rw[hd]at hR hS;refine⟨mn,?_,fun k hk=>gg k,fun k hk=>?_⟩
   ·show m1.o+1=(stepR X t).R
    rw[hR,mo];rfl
   ·rw[S',hS]
    show (if k=t then false else false)=_
    simp
  | false =>
   rw[if_neg Bool.false_ne_true,gf m1 rfl];unfold Sd.settleM;rw[no m1 rfl (fun z=>by rw[hd]at z;cases z) (fun _=>rfl),if_neg Bool.false_ne_true];rw[hd]at hR hS;refine⟨mn,?_,fun k hk=>gg k,fun k hk=>?_⟩
   ·show m1.o=(stepR X t).R
    rw[hR,mo];rfl
   ·rw[S',hS]
    show (if k=t then false else m1.s k)=_
    by_cases e:k=t
    ·rw[if_pos e,e,hft];simp
    ·rw[if_neg e,fe k e,s1,if_neg e];simp[e]
end
structure Es where
 X:Rs
 A:Nat->Int
def aw3 (ws:List Int):Ty->Int
 | .inl _=>0
 | .inr (_,x)=>Md.Ct.aheadI ws 1 x.tick
def updI (A:Nat->Int) (i:Nat) (x:Int):Nat->Int:=fun k=>if k=i then x else A k
theorem b96 (A:Nat->Int) (i:Nat) (x:Int):updI A i x i=x:=if_pos rfl
theorem b95 (A:Nat->Int) {i k:Nat} (x:Int) (h:k≠i):updI A i x k=A k:=if_neg h
def Z0 (s:Su):Es:=⟨X0 s,fun _=>0⟩
def ad2 (s:Su) (Z:Es) (t:Nat):Es:=⟨stepR Z.X t,if (Z.X.H.E.T t).isNone then updI Z.A Z.X.H.dn (aw3 (goW (newT s t (s.call t (Z.X.H.E.B t))) Z.X.H.E.ws) (goS (newT s t (s.call t (Z.X.H.E.B t))) Z.X.H.E.ws)) else Z.A⟩
def trU (g:Value) (th no pr bg ah fr:Int):Array Value:=#[g,.int .i64 th,.int .i64 no,.int .i64 pr,.int .i64 0,.slice none 0 0,.int .i64 0,.int .i64 0,.slice none 0 0,.slice none 0 0,.slice none 0 0,.int .i64 0,.int .i64 0,.int .i64 0,.int .i64 bg,.int .i64 0,.int .i64 0,.int .i64 ah,.int .i64 fr,.int .i64 0]
def trO (y:Ty) (D:Rr.Dd) (th no pr bg en ah fr to_:Int):Array Value:=#[Value.nilIface] ++ dTx y D th no pr bg en ah fr to_
def goI (X:Rs) (t:Nat):Int:=if (X.H.E.T t).isNone then -1 else (X.H.at_ t:Int)
structure Fits (s:Su) (v:Ev) (d:Ed) (Z:Es):Prop where
 N:d.N=(Z.X.H.N:Int)
 ws:d.ws=Z.X.H.E.ws
 cnt:d.cnt=Z.X.H.E.cnt
 rd:d.rd=rdZ s Z.X
 T:d.T=Z.X.H.E.T
 dn:d.dn=Z.X.H.dn
 cr:∀ t,t<s.n->∃ qa qc,d.cr t=#[.slice qa (s.cs t).length qc,.int .i64 (Z.X.H.E.B t:Int),.int .i64 (goI Z.X t)]
 up:∀ i,i<Z.X.H.dn->(Z.X.H.D i).en=0->d.tr i=trU (txV (Z.X.H.D i).tx (v.tb (Z.X.H.D i).th)) (Z.X.H.D i).th (Z.X.H.D i).no (s.call (Z.X.H.D i).th (Z.X.H.D i).no).1 (Z.X.H.D i).bg (Z.A i) (Z.X.fr i)
 ov:∀ i,i<Z.X.H.dn->(Z.X.H.D i).en≠0->∃ D,d.L i=some (D,af0 (Z.X.H.D i).tx,macT (Z.X.H.D i).tx)/\d.tr i=trO (Z.X.H.D i).tx D (Z.X.H.D i).th (Z.X.H.D i).no (s.call (Z.X.H.D i).th (Z.X.H.D i).no).1 (Z.X.H.D i).bg (Z.X.H.D i).en (Z.A i) (Z.X.fr i) (Z.X.to_ i)
structure Eng (w:World) (f:Ex) (v:Ev) (s:Su) (Z:Es):Prop where
 at_:∃ d,EnAt w f v s d/\Fits s v d Z
 wi:WI s Z.X
 rn:Z.X.R<=Z.X.H.N
section
variable {w:World} {a b c e th:Int} {ao:Option Addr} {cs:List Ins} {n cap:Nat} {po:Option Addr} {l:List Nat} {k co:Nat}
def Born (w w':World) (bx:Nat) (y:Ty):Prop:=∃ G K,TxAt w' bx G K y/\Abv w.heap.size G/\Abv w.heap.size K/\Bl w w'
theorem av6 (w:World) (o o':Obj):Bl w ((w.alloc o).alloc o'):=(below_alloc w o).trans ((below_alloc _ o').mono (by simp))
theorem bz3 (hc:Md.cfgB a b c e=true) (hn:cs.length=n) (hk:l.length=k) (hk8:k<=8) (hT:Shaped5 w) (hC:a35 w ao cs) (hL:FlAt w po l) (hnl:n<=9223372036854775807) (h0:0<=th) (h1:th<b):Calls Tryz.prog 80 #[cfgV a b c e,.int .i64 th,.agg #[.int .i64 2,.slice ao n cap],.slice po k co] w fun r w'=>∃ bx,r=.returned (.iface 190 (.pointer (some ⟨bx,0,none⟩)))/\Hid (Born w w' bx (.inr ((newY a b c e 2 cs l th).m,newY a b c e 2 cs l th))):=by
 have HN:Hid (∀ u,Bl w u->Calls Tryz.prog 113 #[cfgV a b c e,.int .i64 th,.agg #[.int .i64 2,.slice ao n cap],.slice po k co] u fun r w'=>∃ bx,r=.returned (.pointer (some ⟨bx,0,none⟩))/\Made u w' bx (newY a b c e 2 cs l th)):=fun u hb=>Ww.new_yes hc hn hk hk8 (hT.on hb) (hC.on hb) (hL.on hb) hnl h0 h1
 have HB:=zH (av6 w (cfgO a b c e) (prgO 2 ao n cap));clear hT hC hL;go_enter Tryz.func80,Tryz.ntmps80
 go_wp2_with (go_at_call 113;refine(HN.out _ HB.out).mono ?_;rintro r u1 ⟨bx,rfl,q⟩;have HQ:=zH q;clear q HN)
 go_ret;refine⟨bx,rfl,?_⟩;obtain⟨z,v,q1,q2,q3,q4⟩:=HQ.out.at_;exact⟨_,_,⟨z,v,q1,q2,rfl,rfl⟩,q3.mono HB.out.size,q4.mono HB.out.size,HB.out.trans (HQ.out.bl.mono HB.out.size)⟩
theorem bz2 {tg:Int} (htg:¬ tg=2) (hc:Md.cfgB a b c e=true) (hn:cs.length=n) (hk:l.length=k) (hk8:k<=8) (hT:Shaped5 w) (hC:a35 w ao cs) (hL:FlAt w po l) (hnl:n<=9223372036854775807) (h0:0<=th) (h1:th<b):Calls Tryz.prog 80 #[cfgV a b c e,.int .i64 th,.agg #[.int .i64 tg,.slice ao n cap],.slice po k co] w fun r w'=>∃ bx,r=.returned (.iface 192 (.pointer (some ⟨bx,0,none⟩)))/\Hid (Born w w' bx (.inl ((newX a b c e tg cs l th).m,newX a b c e tg cs l th))):=by
 have HN:Hid (∀ u,Bl w u->Calls Tryz.prog 114 #[cfgV a b c e,.int .i64 th,.agg #[.int .i64 tg,.slice ao n cap],.slice po k co] u fun r w'=>∃ bx,r=.returned (.pointer (some ⟨bx,0,none⟩))/\Rr.Made u w' bx (newX a b c e tg cs l th)):=fun u hb=>Rr.new_yes hc hn hk hk8 (hT.on hb) (hC.on hb) (hL.on hb) hnl h0 h1
 have HB:=zH (av6 w (cfgO a b c e) (prgO tg ao n cap));have htb:(tg == 2)=false:=by simpa using htg
 clear hT hC hL htg;go_enter Tryz.func80,Tryz.ntmps80
 go_wp2_with (go_at_call 114;refine(HN.out _ HB.out).mono ?_;rintro r u1 ⟨bx,rfl,q⟩;have HQ:=zH q;clear q HN)
 go_ret;refine⟨bx,rfl,?_⟩;obtain⟨z,F,r,q1,q3,q4⟩:=HQ.out.at_;exact⟨_,_,⟨z,none,F,r,q1,.inl ⟨rfl,by show (-1:Int)<0;omega⟩,rfl,rfl⟩,q3.mono HB.out.size,q4.mono HB.out.size,HB.out.trans (HQ.out.bl.mono HB.out.size)⟩
end
theorem b88 {w:World} {s:Su} (hs:SuIn s) {t j:Nat} (ht:t<s.n) (hj:j<(s.cs t).length) (hT:Shaped5 w) {x:Int × List Nat} (hx:s.call t j=x) {ao po:Option Addr} {n cap k co:Nat} (hn:(s.prog x.1).2.length=n) (hk:x.2.length=k) (hC:a35 w ao (s.prog x.1).2) (hL:FlAt w po x.2) (hnl:n<=9223372036854775807) :
  Calls Tryz.prog 80 #[cfgV s.a s.b s.c s.e,.int .i64 (t:Int),.agg #[.int .i64 (s.prog x.1).1,.slice ao n cap],.slice po k co] w fun r w'=>∃ bx,r=.returned (txV (newT s t x) bx)/\Hid (Born w w' bx (newT s t x)):=by
 have ha:=hs.args hj;rw[hx]at ha;have hb:=hs.nb;unfold newT
 by_cases q:(s.prog x.1).1=2
 ·rw[if_pos q,q]
  exact bz3 hs.cfg hn hk (by omega) hT hC hL hnl (by omega) (by omega)
 ·rw[if_neg q]
  exact bz2 q hs.cfg hn hk (by omega) hT hC hL hnl (by omega) (by omega)
section
variable {w:World} {b mb mg:Nat} {G K:List Nat} {y:Ty} {s:Su} {t:Nat} {N n:Int} {ws:List Int} {o:Bool} {p4 p5:Int}
abbrev plO (p4 p5:Int):Obj:=.cells #[.int .i64 0,.int .i64 1,.int .i64 2,.int .i64 3,.int .i64 p4,.int .i64 p5] 45
abbrev plV (p4 p5:Int):Value:=.agg #[.int .i64 0,.int .i64 1,.int .i64 2,.int .i64 3,.int .i64 p4,.int .i64 p5]
theorem bM6 (a:Addr) (w:World):(Instr.typeAssert (.iface 192 (.pointer (some a))) 108 190 true).run Tryz.prog w=.ok (.tuple #[.pointer none,.bool false]) w:=by kernel_rfl
theorem bF5 (a:Addr) (w:World):(Instr.typeAssert (.iface 190 (.pointer (some a))) 108 190 true).run Tryz.prog w=.ok (.tuple #[.pointer (some a),.bool true]) w:=by kernel_rfl
attribute [local go_sem] bM6 bF5
theorem bq1:Calls Tryz.prog 81 #[.iface 192 (.pointer (some ⟨b,0,none⟩)),.pointer (some ⟨mb,0,none⟩),plV p4 p5] w fun r w'=>r=.returned (.int .i64 0)/\Bl w w':=by
 have HB:=zH (below_alloc w (plO p4 p5));go_enter Tryz.func81,Tryz.ntmps81;go_wp2_with fail;go_ret;exact⟨rfl,HB.out⟩
theorem bd4 (th no pr tag:Int) (na:Nat) (mark num:Int) (m:Mac) (D:Rr.Dd) (e0 e1 e2 bg en st ah fr to_:Int) (w:World):(Instr.field 65 (.agg (dCel th no pr tag na mark num m D e0 e1 e2 bg en st ah fr to_)) 5).run Tryz.prog w=.ok (.int .i64 mark) w:=by kernel_rfl
theorem bm3 {x:Int} (h:u64B x):IntKind.u64.wrap (wrap64 x)=x:=by
 unfold u64B at h;simp only[IntKind.wrap_u64,wrap64];omega
attribute [local go_sem] bd4
theorem a90 {u:World} {g:Nat} (h:u.heap[g]?=some (plO p4 p5)):u.cell? ⟨g,0,none⟩=some (.int .i64 0)/\u.cell? ⟨g,1,none⟩=some (.int .i64 1)/\u.cell? ⟨g,2,none⟩=some (.int .i64 2)/\u.cell? ⟨g,3,none⟩=some (.int .i64 3)/\u.cell? ⟨g,4,none⟩=some (.int .i64 p4)/\u.cell? ⟨g,5,none⟩=some (.int .i64 p5) :=
 ⟨(zR u g 0 _ _ _ h).trans rfl,(zR u g 1 _ _ _ h).trans rfl,(zR u g 2 _ _ _ h).trans rfl,(zR u g 3 _ _ _ h).trans rfl,(zR u g 4 _ _ _ h).trans rfl,(zR u g 5 _ _ _ h).trans rfl⟩
theorem bq2 {m:Mac} {x:Wx} (h:TxAt w b G K (.inr (m,x))) (hI:TIn s t N (.inr (m,x))) (hp:x.part≠1) (hm:MemAt 145 w mb mg ws o n):Calls Tryz.prog 81 #[.iface 190 (.pointer (some ⟨b,0,none⟩)),.pointer (some ⟨mb,0,none⟩),plV p4 p5] w fun r w'=>r=.returned (.int .i64 (Md.Ct.aheadI ws 1 x.tick))/\Bl w w':=by
 have hmk:b38 x=wrap64 x.tick:=by unfold b38;rw[if_neg hp]
 have HCV:Hid (IntKind.u64.wrap (wrap64 x.tick)=x.tick):=bm3 hI.1.tk;have HD:Hid (∀ u,Bl w u->Calls Tryz.prog 116 #[.pointer (some ⟨b,0,none⟩)] u fun e w'=>∃ D,e=.returned (.agg (dCel 0 0 0 x.tag x.args.length (wrap64 x.tick) x.num x.m D (endT (.inr (m,x)) x.m.how) (endT (.inr (m,x)) x.m.cod) (endT (.inr (m,x)) x.m.err) 0 0 x.steps 0 0 0))/\Bl u w'):=fun u hu=>by
  refine(aM7 (h.on hu) hI).mono ?_;rintro e w' ⟨D,rfl,_,k⟩;refine⟨D,?_,k⟩;rw[<- hmk]
  rfl
 have HA:Hid (∀ u,Bl w u->Calls Tryz.prog 115 #[.pointer (some ⟨mb,0,none⟩),plV p4 p5,.int .u64 x.tick] u fun e w'=>e=.returned (.tuple #[.int .i64 (Md.Ct.aheadI ws 1 x.tick),.int .i64 (errP ws 1)])/\Bl u w'):=fun u hu=>(Md.Ct.ahead_any (hm.on hu) 0 1 2 3 p4 p5 x.tick).mono fun e w' q=>⟨q.1,q.2.2⟩
 have HB:=zH (And.intro (below_alloc w (plO p4 p5)) (zN w (plO p4 p5)));have HX:Hid (∀ u,Below (w.alloc (plO p4 p5)).heap.size (w.alloc (plO p4 p5)) u->Bl w u/\u.heap[w.heap.size]?=some (plO p4 p5)):=fun u hu=>⟨HB.out.1.trans (hu.mono HB.out.1.size),(hu.block _ (lt_of_block HB.out.2)).trans HB.out.2⟩
 clear h hI hp hm hmk
 generalize endT (.inr (m,x)) x.m.how=e0 at *
 generalize endT (.inr (m,x)) x.m.cod=e1 at *
 generalize endT (.inr (m,x)) x.m.err=e2 at *
 generalize Md.Ct.aheadI ws 1 x.tick=A at *
 generalize errP ws 1=E at *
 obtain⟨mk,hmk⟩:∃ mk,wrap64 x.tick=mk:=⟨_,rfl⟩
 rw[hmk]at HCV HD;clear hmk;go_enter Tryz.func81,Tryz.ntmps81;go_wp2_with fail;obtain⟨w1,hw1⟩:∃ w1,w1=w.alloc (plO p4 p5):=⟨_,rfl⟩
 rw[<- hw1]at HB HX;rw[show w.alloc (.cells #[.int .i64 0,.int .i64 1,.int .i64 2,.int .i64 3,.int .i64 p4,.int .i64 p5] 45)=w1 from hw1.symm];clear hw1;refine a05 (fun u=>u.cell? ⟨w.heap.size,0,none⟩=some (.int .i64 0)/\u.cell? ⟨w.heap.size,1,none⟩=some (.int .i64 1)/\u.cell? ⟨w.heap.size,2,none⟩=some (.int .i64 2)/\u.cell? ⟨w.heap.size,3,none⟩=some (.int .i64 3)/\u.cell? ⟨w.heap.size,4,none⟩=some (.int .i64 p4)/\u.cell? ⟨w.heap.size,5,none⟩=some (.int .i64 p5) )  ((0,true)::(1,true)::(2,true)::(3,false)::(4,true)::(5,true)::(6,false)::(7,true)::(8,true)::(9,true)::(10,true)::(11,true)::[])  Md.Cv.follows13 (by kernel_rfl) (fun _ _ _ _ _ h=>h)  (a90 HB.out.2) ?_
 (repeat ((first | (refine a02 (v:=?_) rfl (by rfl) (fun wq hSq=>?_) ?_;rotate_left;(focus ((try dsimp only at hSq);go_simp;try with_reducible rfl))) | refine a03 rfl (by rfl) ?_);simp only[Act.put,zA,zB,zC]))
 (refine a04 rfl (by rfl) (fun KK hK=>?_);go_simp)
 refine(HD.out _ (HX.out _ ((Same.drew w1).below _)).1).mono ?_;rintro e u2 ⟨D,rfl,k⟩;have A2:Hid (Bl w1 u2):=((Same.drew w1).below _).trans k;clear k;refine hK.out _ _ (a90 (HX.out _ A2.out).2) ?_
 (clear hK KK;try simp only[Act.put,zA,zB,zC])
 (repeat ((first | (refine a02 (v:=?_) rfl (by rfl) (fun wq hSq=>?_) ?_;rotate_left;(focus ((try dsimp only at hSq);go_simp;try with_reducible rfl))) | refine a03 rfl (by rfl) ?_);simp only[Act.put,zA,zB,zC]))
 rw[HCV.out]
 (refine a04 rfl (by rfl) (fun KK hK=>?_);go_simp)
 refine(HA.out _ (HX.out _ A2.out).1).mono ?_;rintro e u3 ⟨rfl,k⟩;have A3:Hid (Bl w1 u3):=a06 A2.out k;clear k;refine hK.out _ _ (a90 (HX.out _ A3.out).2) ?_
 (clear hK KK;try simp only[Act.put,zA,zB,zC])
 (repeat ((first | (refine a02 (v:=?_) rfl (by rfl) (fun wq hSq=>?_) ?_;rotate_left;(focus ((try dsimp only at hSq);go_simp;try with_reducible rfl))) | refine a03 rfl (by rfl) ?_);simp only[Act.put,zA,zB,zC]))
 refine a07 ?_;go_wp2_with fail;go_ret;exact⟨rfl,(HX.out _ A3.out).1⟩
theorem ahead_any (h:TxAt w b G K y) (hI:TIn s t N y) (hp:∀ m x,y=.inr (m,x)->x.part≠1) (hm:MemAt 145 w mb mg ws o n):Calls Tryz.prog 81 #[txV y b,.pointer (some ⟨mb,0,none⟩),plV p4 p5] w fun r w'=>r=.returned (.int .i64 (aw3 ws y))/\Bl w w':=by
 rcases y with⟨m,x⟩ | ⟨m,x⟩
 ·exact bq1
 ·exact bq2 h hI (hp m x rfl) hm
end
section
variable {w w':World} {f:Ex} {v:Ev} {s:Su} {d:Ed} {t nc qc:Nat} {qa:Option Addr} {bgn go:Int}
def finI (bgn go:Int) (nc:Nat):Bool:=decide (go=-1) && decide (bgn=(nc:Int))
theorem EnAt.course (h:EnAt w f v s d) (ht:t<s.n) (hc:d.cr t=#[.slice qa nc qc,.int .i64 bgn,.int .i64 go]):w.cell? ⟨f.gc,t*3,none⟩=some (.slice qa nc qc)/\w.cell? ⟨f.gc,t*3+1,none⟩=some (.int .i64 bgn)/\w.cell? ⟨f.gc,t*3+2,none⟩=some (.int .i64 go)/\f.gc<w.heap.size:=by
 have C:∀ j,j<3->w.cell? ⟨f.gc,t*3+j,none⟩=(d.cr t)[j]?:=fun j hj=>h.crs.cell ht hj
 rw[hc]at C;exact⟨(C 0 (by omega)).trans rfl,(C 1 (by omega)).trans rfl,(C 2 (by omega)).trans rfl,h.crs.lt⟩
theorem ad4 {g o:Nat} (h0:w.cell? ⟨g,o,none⟩=some (.slice qa nc qc)) (h1:w.cell? ⟨g,o+1,none⟩=some (.int .i64 bgn)) (h2:w.cell? ⟨g,o+2,none⟩=some (.int .i64 go)):Calls Tryz.prog 42 #[.pointer (some ⟨g,o,none⟩)] w fun e w'=>e=.returned (.bool (finI bgn go nc))/\Same w w':=by
 by_cases q:go=-1
 ·have qb:(go == -1)=true:=by simpa using q
  have HB:Hid (finI bgn go nc=(bgn == (nc:Int))):=by unfold finI;rw[zT q,Bool.true_and];rfl
  clear q;go_enter Tryz.func42,Tryz.ntmps42;go_wp2_with fail;refine a05 (fun u=>u.cell? ⟨g,o,none⟩=some (.slice qa nc qc)/\u.cell? ⟨g,o+1,none⟩=some (.int .i64 bgn)/\u.cell? ⟨g,o+2,none⟩=some (.int .i64 go) )  ((0,true)::(1,true)::(2,true)::(3,true)::(4,true)::(5,true)::(6,true)::(7,true)::(8,true)::(9,true)::(10,true)::(11,true)::(12,true)::(13,true)::(14,true)::(15,true)::(16,true)::(17,true)::[])  Md.Cv.follows13 (by kernel_rfl) (fun _ _ _ _ _ h=>h)  ⟨h0,h1,h2⟩ ?_
  (repeat ((first | (refine a02 (v:=?_) rfl (by rfl) (fun wq hSq=>?_) ?_;rotate_left;(focus ((try dsimp only at hSq);go_simp;try with_reducible rfl))) | refine a03 rfl (by rfl) ?_);simp only[Act.put,zA,zB,zC]))
  refine a07 ?_;go_wp2_with fail;go_ret;exact⟨by rw[HB.out];rfl,Same.drew w⟩
 ·have qb:(go == -1)=false:=by simpa using q
  have HB:Hid (finI bgn go nc=false):=by unfold finI;rw[zU q,Bool.false_and];trivial
  clear q;go_enter Tryz.func42,Tryz.ntmps42;go_wp2_with fail;refine a05 (fun u=>u.cell? ⟨g,o,none⟩=some (.slice qa nc qc)/\u.cell? ⟨g,o+1,none⟩=some (.int .i64 bgn)/\u.cell? ⟨g,o+2,none⟩=some (.int .i64 go) )  ((0,true)::(1,true)::(2,true)::(3,true)::(4,true)::(5,true)::(6,true)::(7,true)::(8,true)::(9,true)::(10,true)::(11,true)::(12,true)::(13,true)::(14,true)::(15,true)::(16,true)::(17,true)::[])  Md.Cv.follows13 (by kernel_rfl) (fun _ _ _ _ _ h=>h)  ⟨h0,h1,h2⟩ ?_
  (repeat ((first | (refine a02 (v:=?_) rfl (by rfl) (fun wq hSq=>?_) ?_;rotate_left;(focus ((try dsimp only at hSq);go_simp;try with_reducible rfl))) | refine a03 rfl (by rfl) ?_);simp only[Act.put,zA,zB,zC]))
  refine a07 ?_;go_wp2_with fail;go_ret;exact⟨by rw[HB.out];rfl,Same.drew w⟩
theorem a74 (h:EnAt w f v s d) (hs:SuIn s) (x:Int):Calls Tryz.prog 41 #[.pointer (some ⟨f.b,0,none⟩),.int .i64 x] w fun e w'=>e=.returned (.bool (decide (0<=x) && decide (x<(s.n:Int))))/\w'=w:=by
 have c:=(h.cell 13).trans (rfl:_=some (Value.slice (some ⟨f.gc,0,none⟩) s.n s.n));have hb:=h.ltB;have h8:(s.n:Int)<=8:=by have:=hs.nb;have:=hs.b8;omega
 clear h;go_enter Tryz.func41,Tryz.ntmps41
 by_cases q:0<=x
 ·go_wp2_with fail
  go_ret;exact⟨by simp[q],rfl⟩
 ·go_wp2_with fail
  go_ret;exact⟨by simp;omega,rfl⟩
end
section
variable {w:World} {b g o:Nat} {G K:List Nat} {y:Ty} {s:Su} {t:Nat} {N:Int} {th no pr bg ah fr to_:Int}
structure UpC (u:World) (g o:Nat) (x:Value) (th no pr bg ah fr:Int):Prop where
 c0:u.cell? ⟨g,o,none⟩=some x
 c1:u.cell? ⟨g,o+1,none⟩=some (.int .i64 th)
 c2:u.cell? ⟨g,o+2,none⟩=some (.int .i64 no)
 c3:u.cell? ⟨g,o+3,none⟩=some (.int .i64 pr)
 c14:u.cell? ⟨g,o+14,none⟩=some (.int .i64 bg)
 c17:u.cell? ⟨g,o+17,none⟩=some (.int .i64 ah)
 c18:u.cell? ⟨g,o+18,none⟩=some (.int .i64 fr)
 lt:g<u.heap.size
theorem ab0 (th no pr tag:Int) (na:Nat) (mark num:Int) (m:Mac) (D:Rr.Dd) (e0 e1 e2 bg en st ah fr to_:Int):(dCel th no pr tag na mark num m D e0 e1 e2 bg en st ah fr to_).all (·.oneCell')=true:=by simp[dCel,Value.oneCell']
theorem bB1 {u:World} {B g:Nat} {D:Rr.Dd} {args:List Nat} {m:Mac} (h:Rr.DdAt u B D args m) (hn:g∉fpR D.pa/\g∉fpR D.pr/\g∉fpR D.pw/\g∉fpR D.po) (j:Nat) (x:Value):Rr.DdAt (u.setCell ⟨g,j,none⟩ x) B D args m :=
 ⟨h.a.keep (ae1 hn.1),h.r.keep (ae1 hn.2.1),h.wr.keep (ae1 hn.2.2.1),h.o.keep (ae1 hn.2.2.2),h.xa,h.xr,h.xw,h.xo⟩
structure TBox (w u:World) (g:Nat) (D:Rr.Dd) (args:List Nat) (m:Mac) (c:Array Value):Prop where
 box:u.heap[g]?=some (.cells c 65 (0,0))
 dd:Rr.DdAt u (w.alloc Rr.dZ).heap.size D args m
 bl:Below (w.alloc Rr.dZ).heap.size (w.alloc Rr.dZ) u
 lo:(w.alloc Rr.dZ).heap.size<=g
 ap:g∉fpR D.pa/\g∉fpR D.pr/\g∉fpR D.pw/\g∉fpR D.po
theorem TBox.old {u:World} {D:Rr.Dd} {args:List Nat} {m:Mac} {c:Array Value} (h:TBox w u g D args m c):Bl w u:=(below_alloc w _).trans (h.bl.mono (below_alloc w _).size)
theorem TBox.set {u:World} {D:Rr.Dd} {args:List Nat} {m:Mac} {c:Array Value} (h:TBox w u g D args m c) (j:Nat) (x:Value) (c':Array Value) (e:c.setIfInBounds j x=c'):TBox w (u.setCell ⟨g,j,none⟩ x) g D args m c' :=
 ⟨by rw[<- e];exact zS u g j _ _ x h.box,bB1 h.dd h.ap j x,h.bl.setCell h.lo _,h.lo,h.ap⟩
theorem TBox.drew {u:World} {D:Rr.Dd} {args:List Nat} {m:Mac} {c:Array Value} (h:TBox w u g D args m c):TBox w u.drew g D args m c:=⟨h.box,h.dd.on ((Same.drew _).below _),h.bl.trans ((Same.drew _).below _),h.lo,h.ap⟩
theorem TBox.res {u:World} {D:Rr.Dd} {args:List Nat} {m:Mac} {c:Array Value} (h:TBox w u g D args m c):u.heap[w.heap.size]?=some Rr.dZ:=(h.bl.block _ (by simp)).trans (zN _ _)
theorem TBox.done {u:World} {D:Rr.Dd} {args:List Nat} {m:Mac} {c c':Array Value} (h:TBox w u g D args m c):Rr.DdAt (u.setRow w.heap.size c') w.heap.size D args m/\Bl w (u.setRow w.heap.size c'):=by
 have hl:w.heap.size<(w.alloc Rr.dZ).heap.size:=by simp
 exact⟨(h.dd.keep (fun i hi _=>setRow_other _ _ _ _ (by omega)) (by simp)).mono (by omega),Md.Ce.bl_setRow h.old (zE _) _⟩
theorem aq5 {fn:Func} {p:Tmp} (h:fn.results=#[.cell p 65]) {R:Ending->World->Prop} {a:Act} {w:World} (g:Nat) {th no pr tag:Int} {na:Nat} {mark num:Int} {m:Mac} {D:Rr.Dd} {e0 e1 e2 bg en st ah fr to_:Int} (hp:a.tmps.getD p undef=.pointer (some ⟨g,0,none⟩))
  (hg:w.heap[g]?=some (.cells (dCel th no pr tag na mark num m D e0 e1 e2 bg en st ah fr to_) 65 (0,0))) (hd:a.defers=[]) (hR:R (.returned (.agg (dCel th no pr tag na mark num m D e0 e1 e2 bg en st ah fr to_))) w):bodyPost Tryz.prog fn R .ret a w :=
 bodyPost_ret (results_cell_row h _ _ g _ _ _ _ hp hg Tryz.underlying65 rfl (by kernel_rfl)) hd hR
theorem bF6 {tg:Int} {na:Nat} {mk nu:Int} {m:Mac} {e0 e1 e2 st:Int} {args:List Nat} (hc:∀ u,Bl w u->UpC u g o (.iface 192 (.pointer (some ⟨b,0,none⟩))) th no pr bg ah fr) (hD:∀ u,Bl w u->Calls Tryz.prog 327 #[.pointer (some ⟨b,0,none⟩)] u fun e w'=>∃ D,e=.returned (.agg (dCel 0 0 0 tg na mk nu m D e0 e1 e2 0 0 st 0 0 0))/\Rr.DdAt w' u.heap.size D args m/\Bl u w') :
  Calls Tryz.prog 58 #[.pointer (some ⟨g,o,none⟩),.int .i64 to_] w fun e w'=>∃ D,e=.returned (.agg (dCel th no pr tg na mk nu m D e0 e1 e2 bg 0 st ah fr to_))/\Hid (Rr.DdAt w' w.heap.size D args m/\Bl w w'):=by
 have HC:=zH hc;have HD:=zH hD;have HB:=zH (below_alloc w Rr.dZ);obtain⟨c0,c1,c2,c3,c14,c17,c18,lt⟩:=HC.out _ HB.out;clear hc hD;go_enter Tryz.func58,Tryz.ntmps58
 go_upto_region 4 with(first
  | (refine wpList_store_row rfl 65 _ _ rfl u1.heap.size (dCel 0 0 0 tg na mk nu m D e0 e1 e2 0 0 st 0 0 0) rfl rfl _ _ (zN _ _) Rr.deedInfo rfl (ab0 ..) ?_;rw[World.setRow_alloc_new])
  | (go_at_call 327;refine(HD.out _ HB.out).mono ?_;rintro e u1 ⟨D,rfl,q1,q2⟩;have H1:=zH (And.intro q1 q2);clear q1 q2 HD c0 c1 c2 c3 c14 c17 c18 lt))
 obtain⟨g5,hg5⟩:∃ g5,u1.heap.size=g5:=⟨_,rfl⟩
 obtain⟨u2,hu2⟩:∃ u2,u2=u1.alloc (.cells (dCel 0 0 0 tg na mk nu m D e0 e1 e2 0 0 st 0 0 0) 65):=⟨_,rfl⟩
 rw[<- hu2,hg5];simp only[Act.put];have H2:Hid (TBox w u2 g5 D args m (dCel 0 0 0 tg na mk nu m D e0 e1 e2 0 0 st 0 0 0)):=by
  rw[hu2,<- hg5];exact⟨zN _ _,H1.out.1.on (below_alloc _ _),a06 H1.out.2 (below_alloc _ _),H1.out.2.size,⟨fun q=>absurd (H1.out.1.a.blw _ q) (by omega),fun q=>absurd (H1.out.1.r.blw _ q) (by omega),fun q=>absurd (H1.out.1.wr.blw _ q) (by omega),fun q=>absurd (H1.out.1.o.blw _ q) (by omega)⟩⟩
 clear hu2 hg5 H1
 go_cut [38] (fun _ wc=>Hid (TBox w wc g5 D args m (dCel th no pr tg na mk nu m D e0 e1 e2 0 0 st 0 0 0)))
 case first =>
  obtain⟨c0,c1,c2,c3,c14,c17,c18,lt⟩:=HC.out _ H2.out.old;have hne:¬ g=g5:=fun e=>by subst e;exact absurd H2.out.lo (Nat.not_le.2 (zL (HC.out _ (zF _ _)).lt (Nat.le_of_lt (by simp))))
  have hne':¬ g5=g:=fun e=>hne e.symm
  have k0:=(zR u2 g5 0 _ _ _ H2.out.box).trans (rfl:_=some (Value.int .i64 0));have k1:=(zR u2 g5 1 _ _ _ H2.out.box).trans (rfl:_=some (Value.int .i64 0));have k2:=(zR u2 g5 2 _ _ _ H2.out.box).trans (rfl:_=some (Value.int .i64 0));have j0:=zZ u2 g5 0 _ _ H2.out.box;have j1:=zZ u2 g5 1 _ _ H2.out.box;have j2:=zZ u2 g5 2 _ _ H2.out.box;refine a05 (fun u=>u.cell? ⟨g,o+1,none⟩=some (.int .i64 th)/\u.cell? ⟨g,o+2,none⟩=some (.int .i64 no)/\u.cell? ⟨g,o+3,none⟩=some (.int .i64 pr) )  ((0,true)::(1,true)::(2,true)::(3,true)::(4,true)::(5,true)::(6,true)::(7,true)::(8,true)::(9,true)::(10,true)::(11,true)::(12,true)::(13,true)::(14,true)::(15,true)::(16,false)::(17,true)::(18,false)::(19,true)::(20,false)::[])  Md.Cv.follows13 (by kernel_rfl) (fun _ _ _ _ _ h=>h)  ⟨c1,c2,c3⟩ ?_
  (repeat ((first | (refine a02 (v:=?_) rfl (by rfl) (fun wq hSq=>?_) ?_;rotate_left;(focus ((try dsimp only at hSq);go_simp;try with_reducible rfl))) | refine a03 rfl (by rfl) ?_);simp only[Act.put,zA,zB,zC]))
  (refine a04 rfl (by rfl) (fun KK hK=>?_);go_simp)
  have T0:=zH (H2.out.drew.set 0 (.int .i64 th) _ rfl);obtain⟨_,d1,d2,d3,_,_,_,_⟩:=HC.out _ T0.out.old;refine hK.out _ _ ⟨d1,d2,d3⟩ ?_
  (clear hK KK;try simp only[Act.put])
  clear d1 d2 d3
  (repeat ((first | (refine a02 (v:=?_) rfl (by rfl) (fun wq hSq=>?_) ?_;rotate_left;(focus ((try dsimp only at hSq);go_simp;try with_reducible rfl))) | refine a03 rfl (by rfl) ?_);simp only[Act.put,zA,zB,zC]))
  (refine a04 rfl (by rfl) (fun KK hK=>?_);go_simp)
  have T1:=zH (T0.out.set 1 (.int .i64 no) _ rfl);obtain⟨_,d1,d2,d3,_,_,_,_⟩:=HC.out _ T1.out.old;refine hK.out _ _ ⟨d1,d2,d3⟩ ?_
  (clear hK KK;try simp only[Act.put])
  clear d1 d2 d3
  (repeat ((first | (refine a02 (v:=?_) rfl (by rfl) (fun wq hSq=>?_) ?_;rotate_left;(focus ((try dsimp only at hSq);go_simp;try with_reducible rfl))) | refine a03 rfl (by rfl) ?_);simp only[Act.put,zA,zB,zC]))
  (refine a04 rfl (by rfl) (fun KK hK=>?_);go_simp)
  have T2:=zH (T1.out.set 2 (.int .i64 pr) _ rfl);obtain⟨_,d1,d2,d3,_,_,_,_⟩:=HC.out _ T2.out.old;refine hK.out _ _ ⟨d1,d2,d3⟩ ?_
  (clear hK KK;try simp only[Act.put])
  clear d1 d2 d3;refine a07 ?_;go_wp2_with fail
  go_meet
  exact T2.out
 case rest =>
  have H3:=hcut;clear H2
  go_upto_region 5 with fail
  go_cut [58] (fun _ wc2=>Hid (TBox w wc2 g5 D args m (dCel th no pr tg na mk nu m D e0 e1 e2 bg 0 st ah fr to_)))
  case first =>
   obtain⟨c0,c1,c2,c3,c14,c17,c18,lt⟩:=HC.out _ H3.out.old;have hne:¬ g=g5:=fun e=>by subst e;exact absurd H3.out.lo (Nat.not_le.2 (zL (HC.out _ (zF _ _)).lt (Nat.le_of_lt (by simp))))
   have hne':¬ g5=g:=fun e=>hne e.symm
   have k0:=(zR wc g5 13 _ _ _ H3.out.box).trans (rfl:_=some (Value.int .i64 0));have k1:=(zR wc g5 16 _ _ _ H3.out.box).trans (rfl:_=some (Value.int .i64 0));have k2:=(zR wc g5 17 _ _ _ H3.out.box).trans (rfl:_=some (Value.int .i64 0));have k3:=(zR wc g5 18 _ _ _ H3.out.box).trans (rfl:_=some (Value.int .i64 0));have j0:=zZ wc g5 13 _ _ H3.out.box;have j1:=zZ wc g5 16 _ _ H3.out.box;have j2:=zZ wc g5 17 _ _ H3.out.box;have j3:=zZ wc g5 18 _ _ H3.out.box;refine a05 (fun u=>u.cell? ⟨g,o+14,none⟩=some (.int .i64 bg)/\u.cell? ⟨g,o+17,none⟩=some (.int .i64 ah)/\u.cell? ⟨g,o+18,none⟩=some (.int .i64 fr) )  ((0,true)::(1,true)::(2,true)::(3,true)::(4,true)::(5,true)::(6,true)::(7,true)::(8,true)::(9,true)::(10,true)::(11,true)::(12,true)::(13,true)::(14,true)::(15,true)::(16,true)::(17,false)::(18,true)::(19,false)::(20,true)::(21,false)::(22,true)::(23,false)::[])  Md.Cv.follows13 (by kernel_rfl) (fun _ _ _ _ _ h=>h)  ⟨c14,c17,c18⟩ ?_
   (repeat ((first | (refine a02 (v:=?_) rfl (by rfl) (fun wq hSq=>?_) ?_;rotate_left;(focus ((try dsimp only at hSq);go_simp;try with_reducible rfl))) | refine a03 rfl (by rfl) ?_);simp only[Act.put,zA,zB,zC]))
   (refine a04 rfl (by rfl) (fun KK hK=>?_);go_simp)
   have T0:=zH (H3.out.drew.set 13 (.int .i64 bg) _ rfl);obtain⟨_,_,_,_,d14,d17,d18,_⟩:=HC.out _ T0.out.old;refine hK.out _ _ ⟨d14,d17,d18⟩ ?_
   (clear hK KK;try simp only[Act.put])
   clear d14 d17 d18
   (repeat ((first | (refine a02 (v:=?_) rfl (by rfl) (fun wq hSq=>?_) ?_;rotate_left;(focus ((try dsimp only at hSq);go_simp;try with_reducible rfl))) | refine a03 rfl (by rfl) ?_);simp only[Act.put,zA,zB,zC]))
   (refine a04 rfl (by rfl) (fun KK hK=>?_);go_simp)
   have T1:=zH (T0.out.set 16 (.int .i64 ah) _ rfl);obtain⟨_,_,_,_,d14,d17,d18,_⟩:=HC.out _ T1.out.old;refine hK.out _ _ ⟨d14,d17,d18⟩ ?_
   (clear hK KK;try simp only[Act.put])
   clear d14 d17 d18
   (repeat ((first | (refine a02 (v:=?_) rfl (by rfl) (fun wq hSq=>?_) ?_;rotate_left;(focus ((try dsimp only at hSq);go_simp;try with_reducible rfl))) | refine a03 rfl (by rfl) ?_);simp only[Act.put,zA,zB,zC]))
   (refine a04 rfl (by rfl) (fun KK hK=>?_);go_simp)
   have T2:=zH (T1.out.set 17 (.int .i64 fr) _ rfl);obtain⟨_,_,_,_,d14,d17,d18,_⟩:=HC.out _ T2.out.old;refine hK.out _ _ ⟨d14,d17,d18⟩ ?_
   (clear hK KK;try simp only[Act.put])
   clear d14 d17 d18
   (repeat ((first | (refine a02 (v:=?_) rfl (by rfl) (fun wq hSq=>?_) ?_;rotate_left;(focus ((try dsimp only at hSq);go_simp;try with_reducible rfl))) | refine a03 rfl (by rfl) ?_);simp only[Act.put,zA,zB,zC]))
   (refine a04 rfl (by rfl) (fun KK hK=>?_);go_simp)
   have T3:=zH (T2.out.set 18 (.int .i64 to_) _ rfl);obtain⟨_,_,_,_,d14,d17,d18,_⟩:=HC.out _ T3.out.old;refine hK.out _ _ ⟨d14,d17,d18⟩ ?_
   (clear hK KK;try simp only[Act.put])
   clear d14 d17 d18;refine a07 ?_;go_wp2_with fail
   go_meet
   exact T3.out
  case rest =>
   rename_i wx
   have H4:=hcut;clear H3 HC
   go_wp2_with (first
    | (refine wpList_load_row rfl 65 _ rfl g5 rfl _ _ _ _ H4.out.box Tryz.underlying65 rfl Rr.deedInfo ?_)
    | (refine wpList_store_row rfl 65 _ _ rfl w.heap.size (dCel th no pr tg na mk nu m D e0 e1 e2 bg 0 st ah fr to_) rfl rfl _ _ H4.out.res Rr.deedInfo rfl (ab0 ..) ?_))
   exact aq5 rfl w.heap.size rfl (setRow_heap _ _ _ _ _ _ H4.out.res) rfl ⟨D,rfl,H4.out.done⟩
theorem bF7 {tg:Int} {na:Nat} {mk nu:Int} {m:Mac} {e0 e1 e2 st:Int} {args:List Nat} (hc:∀ u,Bl w u->UpC u g o (.iface 190 (.pointer (some ⟨b,0,none⟩))) th no pr bg ah fr) (hD:∀ u,Bl w u->Calls Tryz.prog 116 #[.pointer (some ⟨b,0,none⟩)] u fun e w'=>∃ D,e=.returned (.agg (dCel 0 0 0 tg na mk nu m D e0 e1 e2 0 0 st 0 0 0))/\Rr.DdAt w' u.heap.size D args m/\Bl u w') :
  Calls Tryz.prog 58 #[.pointer (some ⟨g,o,none⟩),.int .i64 to_] w fun e w'=>∃ D,e=.returned (.agg (dCel th no pr tg na mk nu m D e0 e1 e2 bg 0 st ah fr to_))/\Hid (Rr.DdAt w' w.heap.size D args m/\Bl w w'):=by
 have HC:=zH hc;have HD:=zH hD;have HB:=zH (below_alloc w Rr.dZ);obtain⟨c0,c1,c2,c3,c14,c17,c18,lt⟩:=HC.out _ HB.out;clear hc hD;go_enter Tryz.func58,Tryz.ntmps58
 go_upto_region 4 with(first
  | (refine wpList_store_row rfl 65 _ _ rfl u1.heap.size (dCel 0 0 0 tg na mk nu m D e0 e1 e2 0 0 st 0 0 0) rfl rfl _ _ (zN _ _) Rr.deedInfo rfl (ab0 ..) ?_;rw[World.setRow_alloc_new])
  | (go_at_call 116;refine(HD.out _ HB.out).mono ?_;rintro e u1 ⟨D,rfl,q1,q2⟩;have H1:=zH (And.intro q1 q2);clear q1 q2 HD c0 c1 c2 c3 c14 c17 c18 lt))
 obtain⟨g5,hg5⟩:∃ g5,u1.heap.size=g5:=⟨_,rfl⟩
 obtain⟨u2,hu2⟩:∃ u2,u2=u1.alloc (.cells (dCel 0 0 0 tg na mk nu m D e0 e1 e2 0 0 st 0 0 0) 65):=⟨_,rfl⟩
 rw[<- hu2,hg5];simp only[Act.put];have H2:Hid (TBox w u2 g5 D args m (dCel 0 0 0 tg na mk nu m D e0 e1 e2 0 0 st 0 0 0)):=by
  rw[hu2,<- hg5];exact⟨zN _ _,H1.out.1.on (below_alloc _ _),a06 H1.out.2 (below_alloc _ _),H1.out.2.size,⟨fun q=>absurd (H1.out.1.a.blw _ q) (by omega),fun q=>absurd (H1.out.1.r.blw _ q) (by omega),fun q=>absurd (H1.out.1.wr.blw _ q) (by omega),fun q=>absurd (H1.out.1.o.blw _ q) (by omega)⟩⟩
 clear hu2 hg5 H1
 go_cut [38] (fun _ wc=>Hid (TBox w wc g5 D args m (dCel th no pr tg na mk nu m D e0 e1 e2 0 0 st 0 0 0)))
 case first =>
  obtain⟨c0,c1,c2,c3,c14,c17,c18,lt⟩:=HC.out _ H2.out.old;have hne:¬ g=g5:=fun e=>by subst e;exact absurd H2.out.lo (Nat.not_le.2 (zL (HC.out _ (zF _ _)).lt (Nat.le_of_lt (by simp))))
  have hne':¬ g5=g:=fun e=>hne e.symm
  have k0:=(zR u2 g5 0 _ _ _ H2.out.box).trans (rfl:_=some (Value.int .i64 0));have k1:=(zR u2 g5 1 _ _ _ H2.out.box).trans (rfl:_=some (Value.int .i64 0));have k2:=(zR u2 g5 2 _ _ _ H2.out.box).trans (rfl:_=some (Value.int .i64 0));have j0:=zZ u2 g5 0 _ _ H2.out.box;have j1:=zZ u2 g5 1 _ _ H2.out.box;have j2:=zZ u2 g5 2 _ _ H2.out.box;refine a05 (fun u=>u.cell? ⟨g,o+1,none⟩=some (.int .i64 th)/\u.cell? ⟨g,o+2,none⟩=some (.int .i64 no)/\u.cell? ⟨g,o+3,none⟩=some (.int .i64 pr) )  ((0,true)::(1,true)::(2,true)::(3,true)::(4,true)::(5,true)::(6,true)::(7,true)::(8,true)::(9,true)::(10,true)::(11,true)::(12,true)::(13,true)::(14,true)::(15,true)::(16,false)::(17,true)::(18,false)::(19,true)::(20,false)::[])  Md.Cv.follows13 (by kernel_rfl) (fun _ _ _ _ _ h=>h)  ⟨c1,c2,c3⟩ ?_
  (repeat ((first | (refine a02 (v:=?_) rfl (by rfl) (fun wq hSq=>?_) ?_;rotate_left;(focus ((try dsimp only at hSq);go_simp;try with_reducible rfl))) | refine a03 rfl (by rfl) ?_);simp only[Act.put,zA,zB,zC]))
  (refine a04 rfl (by rfl) (fun KK hK=>?_);go_simp)
  have T0:=zH (H2.out.drew.set 0 (.int .i64 th) _ rfl);obtain⟨_,d1,d2,d3,_,_,_,_⟩:=HC.out _ T0.out.old;refine hK.out _ _ ⟨d1,d2,d3⟩ ?_
  (clear hK KK;try simp only[Act.put])
  clear d1 d2 d3
  (repeat ((first | (refine a02 (v:=?_) rfl (by rfl) (fun wq hSq=>?_) ?_;rotate_left;(focus ((try dsimp only at hSq);go_simp;try with_reducible rfl))) | refine a03 rfl (by rfl) ?_);simp only[Act.put,zA,zB,zC]))
  (refine a04 rfl (by rfl) (fun KK hK=>?_);go_simp)
  have T1:=zH (T0.out.set 1 (.int .i64 no) _ rfl);obtain⟨_,d1,d2,d3,_,_,_,_⟩:=HC.out _ T1.out.old;refine hK.out _ _ ⟨d1,d2,d3⟩ ?_
  (clear hK KK;try simp only[Act.put])
  clear d1 d2 d3
  (repeat ((first | (refine a02 (v:=?_) rfl (by rfl) (fun wq hSq=>?_) ?_;rotate_left;(focus ((try dsimp only at hSq);go_simp;try with_reducible rfl))) | refine a03 rfl (by rfl) ?_);simp only[Act.put,zA,zB,zC]))
  (refine a04 rfl (by rfl) (fun KK hK=>?_);go_simp)
  have T2:=zH (T1.out.set 2 (.int .i64 pr) _ rfl);obtain⟨_,d1,d2,d3,_,_,_,_⟩:=HC.out _ T2.out.old;refine hK.out _ _ ⟨d1,d2,d3⟩ ?_
  (clear hK KK;try simp only[Act.put])
  clear d1 d2 d3;refine a07 ?_;go_wp2_with fail
  go_meet
  exact T2.out
 case rest =>
  have H3:=hcut;clear H2
  go_upto_region 5 with fail
  go_cut [58] (fun _ wc2=>Hid (TBox w wc2 g5 D args m (dCel th no pr tg na mk nu m D e0 e1 e2 bg 0 st ah fr to_)))
  case first =>
   obtain⟨c0,c1,c2,c3,c14,c17,c18,lt⟩:=HC.out _ H3.out.old;have hne:¬ g=g5:=fun e=>by subst e;exact absurd H3.out.lo (Nat.not_le.2 (zL (HC.out _ (zF _ _)).lt (Nat.le_of_lt (by simp))))
   have hne':¬ g5=g:=fun e=>hne e.symm
   have k0:=(zR wc g5 13 _ _ _ H3.out.box).trans (rfl:_=some (Value.int .i64 0));have k1:=(zR wc g5 16 _ _ _ H3.out.box).trans (rfl:_=some (Value.int .i64 0));have k2:=(zR wc g5 17 _ _ _ H3.out.box).trans (rfl:_=some (Value.int .i64 0));have k3:=(zR wc g5 18 _ _ _ H3.out.box).trans (rfl:_=some (Value.int .i64 0));have j0:=zZ wc g5 13 _ _ H3.out.box;have j1:=zZ wc g5 16 _ _ H3.out.box;have j2:=zZ wc g5 17 _ _ H3.out.box;have j3:=zZ wc g5 18 _ _ H3.out.box;refine a05 (fun u=>u.cell? ⟨g,o+14,none⟩=some (.int .i64 bg)/\u.cell? ⟨g,o+17,none⟩=some (.int .i64 ah)/\u.cell? ⟨g,o+18,none⟩=some (.int .i64 fr) )  ((0,true)::(1,true)::(2,true)::(3,true)::(4,true)::(5,true)::(6,true)::(7,true)::(8,true)::(9,true)::(10,true)::(11,true)::(12,true)::(13,true)::(14,true)::(15,true)::(16,true)::(17,false)::(18,true)::(19,false)::(20,true)::(21,false)::(22,true)::(23,false)::[])  Md.Cv.follows13 (by kernel_rfl) (fun _ _ _ _ _ h=>h)  ⟨c14,c17,c18⟩ ?_
   (repeat ((first | (refine a02 (v:=?_) rfl (by rfl) (fun wq hSq=>?_) ?_;rotate_left;(focus ((try dsimp only at hSq);go_simp;try with_reducible rfl))) | refine a03 rfl (by rfl) ?_);simp only[Act.put,zA,zB,zC]))
   (refine a04 rfl (by rfl) (fun KK hK=>?_);go_simp)
   have T0:=zH (H3.out.drew.set 13 (.int .i64 bg) _ rfl);obtain⟨_,_,_,_,d14,d17,d18,_⟩:=HC.out _ T0.out.old;refine hK.out _ _ ⟨d14,d17,d18⟩ ?_
   (clear hK KK;try simp only[Act.put])
   clear d14 d17 d18
   (repeat ((first | (refine a02 (v:=?_) rfl (by rfl) (fun wq hSq=>?_) ?_;rotate_left;(focus ((try dsimp only at hSq);go_simp;try with_reducible rfl))) | refine a03 rfl (by rfl) ?_);simp only[Act.put,zA,zB,zC]))
   (refine a04 rfl (by rfl) (fun KK hK=>?_);go_simp)
   have T1:=zH (T0.out.set 16 (.int .i64 ah) _ rfl);obtain⟨_,_,_,_,d14,d17,d18,_⟩:=HC.out _ T1.out.old;refine hK.out _ _ ⟨d14,d17,d18⟩ ?_
   (clear hK KK;try simp only[Act.put])
   clear d14 d17 d18
   (repeat ((first | (refine a02 (v:=?_) rfl (by rfl) (fun wq hSq=>?_) ?_;rotate_left;(focus ((try dsimp only at hSq);go_simp;try with_reducible rfl))) | refine a03 rfl (by rfl) ?_);simp only[Act.put,zA,zB,zC]))
   (refine a04 rfl (by rfl) (fun KK hK=>?_);go_simp)
   have T2:=zH (T1.out.set 17 (.int .i64 fr) _ rfl);obtain⟨_,_,_,_,d14,d17,d18,_⟩:=HC.out _ T2.out.old;refine hK.out _ _ ⟨d14,d17,d18⟩ ?_
   (clear hK KK;try simp only[Act.put])
   clear d14 d17 d18
   (repeat ((first | (refine a02 (v:=?_) rfl (by rfl) (fun wq hSq=>?_) ?_;rotate_left;(focus ((try dsimp only at hSq);go_simp;try with_reducible rfl))) | refine a03 rfl (by rfl) ?_);simp only[Act.put,zA,zB,zC]))
   (refine a04 rfl (by rfl) (fun KK hK=>?_);go_simp)
   have T3:=zH (T2.out.set 18 (.int .i64 to_) _ rfl);obtain⟨_,_,_,_,d14,d17,d18,_⟩:=HC.out _ T3.out.old;refine hK.out _ _ ⟨d14,d17,d18⟩ ?_
   (clear hK KK;try simp only[Act.put])
   clear d14 d17 d18;refine a07 ?_;go_wp2_with fail
   go_meet
   exact T3.out
  case rest =>
   rename_i wx
   have H4:=hcut;clear H3 HC
   go_wp2_with (first
    | (refine wpList_load_row rfl 65 _ rfl g5 rfl _ _ _ _ H4.out.box Tryz.underlying65 rfl Rr.deedInfo ?_)
    | (refine wpList_store_row rfl 65 _ _ rfl w.heap.size (dCel th no pr tg na mk nu m D e0 e1 e2 bg 0 st ah fr to_) rfl rfl _ _ H4.out.res Rr.deedInfo rfl (ab0 ..) ?_))
   exact aq5 rfl w.heap.size rfl (setRow_heap _ _ _ _ _ _ H4.out.res) rfl ⟨D,rfl,H4.out.done⟩
theorem b86 (h:TxAt w b G K y) (hI:TIn s t N y) (hc:∀ u,Bl w u->UpC u g o (txV y b) th no pr bg ah fr):Calls Tryz.prog 58 #[.pointer (some ⟨g,o,none⟩),.int .i64 to_] w fun e w'=>∃ D,e=.returned (.agg (dTx y D th no pr bg 0 ah fr to_))/\Hid (Rr.DdAt w' w.heap.size D (af0 y) (macT y)/\Bl w w'):=by
 rcases y with⟨m,x⟩ | ⟨m,x⟩
 ·exact bF6 hc fun u hu=>aM7 (h.on hu) hI
 ·exact bF7 hc fun u hu=>aM7 (h.on hu) hI
end
section
variable {w u:World} {th no pr tg:Int} {na:Nat} {mk nu:Int} {m:Mac} {D:Rr.Dd} {e0 e1 e2 bg en st ah fr to_:Int} {args:List Nat}
structure OBox (w u:World) (c:Array Value):Prop where
 box:u.heap[w.heap.size]?=some (.cells c 65 (0,0))
 bl:Bl w u
 res:u.heap[w.heap.size+1]?=some Rr.dZ
theorem OBox.on {u':World} {c:Array Value} (h:OBox w u c) (k:Bl u u'):OBox w u' c:=⟨(k.block _ (lt_of_block h.box)).trans h.box,h.bl.trans (k.mono h.bl.size),(k.block _ (lt_of_block h.res)).trans h.res⟩
theorem OBox.set {c:Array Value} (h:OBox w u c) (j:Nat) (x:Value) (c':Array Value) (e:c.setIfInBounds j x=c'):OBox w (u.setCell ⟨w.heap.size,j,none⟩ x) c' :=
 ⟨by rw[<- e];exact zS u _ j _ _ x h.box,h.bl.setCell (zE _) _,(zO _ _ _ _ (by show w.heap.size+1≠w.heap.size;omega)).trans h.res⟩
theorem OBox.cell {c:Array Value} (h:OBox w u c) (j:Nat):u.cell? ⟨w.heap.size,j,none⟩=c[j]?:=zR _ _ _ _ _ _ h.box
theorem OBox.free {c:Array Value} (h:OBox w u c) (j:Nat):u.frozen? ⟨w.heap.size,j,none⟩=false:=zZ _ _ _ _ _ h.box
theorem aL8 {u':World} {p:Option Addr} {c g j:Nat} {xs:List Value} {x:Value} (h:RowAt 71 u p c xs) (hn:g∉fpR p) (k:Below (u.setCell ⟨g,j,none⟩ x).heap.size (u.setCell ⟨g,j,none⟩ x) u'):RowAt 71 u' p c xs:=(h.keep (ae1 hn)).on k
theorem aM4 {u':World} {p:Option Addr} {c g j:Nat} {xs:Wr} {x:Value} (h:TRow u p c xs) (hn:g∉fpR p) (k:Below (u.setCell ⟨g,j,none⟩ x).heap.size (u.setCell ⟨g,j,none⟩ x) u'):TRow u' p c xs:=(h.keep (ae1 hn)).on k
theorem aL3 (h:Rr.DdAt w 0 D args m) (hn:args.length=na) (b0:na<=1024) (b1:m.reads.length<=1024) (b2:m.buf.length<=1024) (b3:m.out.length<=1024):Calls Tryz.prog 96 #[.agg (dCel th no pr tg na mk nu m D e0 e1 e2 bg en st ah fr to_)] w fun e w'=>∃ D',e=.returned (.agg (dCel th no pr tg na mk nu m D' e0 e1 e2 bg en st ah fr to_))/\Hid (Rr.DdAt w' w.heap.size D' args m/\Bl w w'):=by
 have HA:Hid (∀ u,Bl w u->Calls Tryz.prog 108 #[.slice D.pa na D.ca] u fun e w'=>∃ p' c',e=.returned (.slice p' na c')/\RowAt 71 w' p' c' (fls args)/\Abv u.heap.size (fpR p')/\Bl u w'):=fun u hu=>al0 (h.a.keep (a27 hu h.a.blw)) hn b0
 have HR:Hid (∀ u,Bl w u->Calls Tryz.prog 127 #[.slice D.pr m.reads.length D.cr] u fun e w'=>∃ p' c',e=.returned (.slice p' m.reads.length c')/\TRow w' p' c' m.reads/\Abv u.heap.size (fpR p')/\Bl u w'):=fun u hu=>ao1 (h.r.keep (a27 hu h.r.blw)) rfl b1
 have HW:Hid (∀ u,Bl w u->Calls Tryz.prog 127 #[.slice D.pw m.buf.length D.cw] u fun e w'=>∃ p' c',e=.returned (.slice p' m.buf.length c')/\TRow w' p' c' m.buf/\Abv u.heap.size (fpR p')/\Bl u w'):=fun u hu=>ao1 (h.wr.keep (a27 hu h.wr.blw)) rfl b2
 have HO:Hid (∀ u,Bl w u->Calls Tryz.prog 108 #[.slice D.po m.out.length D.co] u fun e w'=>∃ p' c',e=.returned (.slice p' m.out.length c')/\RowAt 71 w' p' c' (fls m.out)/\Abv u.heap.size (fpR p')/\Bl u w'):=fun u hu=>al0 (h.o.keep (a27 hu h.o.blw)) rfl b3
 have X0:Hid (OBox w ((w.alloc (.cells (dCel th no pr tg na mk nu m D e0 e1 e2 bg en st ah fr to_) 65)).alloc Rr.dZ) (dCel th no pr tg na mk nu m D e0 e1 e2 bg en st ah fr to_)):=⟨Rr.heap_old (zN _ _),av6 _ _ _,a73 (by simp)⟩;have k4:=(X0.out.cell 4).trans (rfl:_=some (Value.slice D.pa na D.ca));clear h hn b0 b1 b2 b3;go_enter Tryz.func96,Tryz.ntmps96
 go_wp2_with (first
  | (refine wpList_load_row rfl 65 _ rfl w.heap.size rfl _ _ _ _ X4.out.box Tryz.underlying65 rfl Rr.deedInfo ?_;clear k9 j9)
  | (refine wpList_store_row rfl 65 _ _ rfl (w.heap.size+1) (dCel th no pr tg na mk nu m ⟨p1,c1,p2,c2,p3,c3,p4,c4⟩ e0 e1 e2 bg en st ah fr to_) rfl rfl _ _ X4.out.res Rr.deedInfo rfl (ab0 ..) ?_)
  | (go_at_call 108;refine(HO.out _ X3.out.bl).mono ?_;rintro e u4 ⟨p4,c4,rfl,q1,q2,q3⟩;have A4:=zH (And.intro q1 (And.intro q2 q3));have Y4:=X3.out.on q3;have X4:=zH (Y4.set 9 (.slice p4 m.out.length c4) (dCel th no pr tg na mk nu m ⟨p1,c1,p2,c2,p3,c3,p4,c4⟩ e0 e1 e2 bg en st ah fr to_) rfl);clear k9 j9;have k9:=(Y4.cell 9).trans (rfl:_=some (Value.slice D.po m.out.length D.co));have j9:=Y4.free 9;clear q1 q2 q3 Y4 HO)
  | (go_at_call 127;refine(HW.out _ X2.out.bl).mono ?_;rintro e u3 ⟨p3,c3,rfl,q1,q2,q3⟩;have A3:=zH (And.intro q1 (And.intro q2 q3));have Y3:=X2.out.on q3;have X3:=zH (Y3.set 8 (.slice p3 m.buf.length c3) (dCel th no pr tg na mk nu m ⟨p1,c1,p2,c2,p3,c3,D.po,D.co⟩ e0 e1 e2 bg en st ah fr to_) rfl);clear k8 j8;have k8:=(Y3.cell 8).trans (rfl:_=some (Value.slice D.pw m.buf.length D.cw));have j8:=Y3.free 8;have k9:=(Y3.cell 9).trans (rfl:_=some (Value.slice D.po m.out.length D.co));have j9:=Y3.free 9;clear q1 q2 q3 Y3 HW)
  | (go_at_call 127;refine(HR.out _ X1.out.bl).mono ?_;rintro e u2 ⟨p2,c2,rfl,q1,q2,q3⟩;have A2:=zH (And.intro q1 (And.intro q2 q3));have Y2:=X1.out.on q3;have X2:=zH (Y2.set 7 (.slice p2 m.reads.length c2) (dCel th no pr tg na mk nu m ⟨p1,c1,p2,c2,D.pw,D.cw,D.po,D.co⟩ e0 e1 e2 bg en st ah fr to_) rfl);clear k7 j7;have k7:=(Y2.cell 7).trans (rfl:_=some (Value.slice D.pr m.reads.length D.cr));have j7:=Y2.free 7;have k8:=(Y2.cell 8).trans (rfl:_=some (Value.slice D.pw m.buf.length D.cw));have j8:=Y2.free 8;clear q1 q2 q3 Y2 HR)
  | (go_at_call 108;refine(HA.out _ X0.out.bl).mono ?_;rintro e u1 ⟨p1,c1,rfl,q1,q2,q3⟩;have A1:=zH (And.intro q1 (And.intro q2 q3));have Y1:=X0.out.on q3;have X1:=zH (Y1.set 4 (.slice p1 na c1) (dCel th no pr tg na mk nu m ⟨p1,c1,D.pr,D.cr,D.pw,D.cw,D.po,D.co⟩ e0 e1 e2 bg en st ah fr to_) rfl);clear k4;have k4:=(Y1.cell 4).trans (rfl:_=some (Value.slice D.pa na D.ca));have j4:=Y1.free 4;have k7:=(Y1.cell 7).trans (rfl:_=some (Value.slice D.pr m.reads.length D.cr));have j7:=Y1.free 7;clear q1 q2 q3 Y1 HA))
 refine aq5 (D:=⟨p1,c1,p2,c2,p3,c3,p4,c4⟩) rfl (w.heap.size+1) rfl (setRow_heap _ _ _ _ _ _ X4.out.res) rfl ⟨_,rfl,?_⟩;obtain⟨a1,b1,d1⟩:=A1.out;obtain⟨a2,b2,d2⟩:=A2.out;obtain⟨a3,b3,d3⟩:=A3.out;obtain⟨a4,b4,d4⟩:=A4.out;have s1:=d1.size;have s2:=d2.size;have s3:=d3.size;simp only[Array.size_push,World.alloc]at b1 s1;have Z:∀ (u:World) (a:Addr) (x:Value),(u.setCell a x).heap.size=u.heap.size:=fun u a x=>by simp
 rw[Z]at b2 b3 b4 s2 s3;have N:∀ {p:Option Addr} {B:Nat},Abv B (fpR p)->w.heap.size+2<=B->w.heap.size∉fpR p/\w.heap.size+1∉fpR p/\Abv w.heap.size (fpR p):=fun h hB=>⟨fun q=>by have:=h _ q;omega,fun q=>by have:=h _ q;omega,h.mono (by omega)⟩
 have n1:=N b1 (by omega);have n2:=N b2 (by omega);have n3:=N b3 (by omega);have n4:=N b4 (by omega);have e1:=aL8 (aL8 (aL8 a1 n1.1 d2) n1.1 d3) n1.1 d4;have e2:=aM4 (aM4 a2 n2.1 d3) n2.1 d4;have e3:=aM4 a3 n3.1 d4;exact⟨⟨(e1.keep (ae1 n1.1)).keep (a87 n1.2.1),(e2.keep (ae1 n2.1)).keep (a87 n2.2.1),(e3.keep (ae1 n3.1)).keep (a87 n3.2.1),(a4.keep (ae1 n4.1)).keep (a87 n4.2.1),n1.2.2,n2.2.2,n3.2.2,n4.2.2⟩,Md.Ce.bl_setRow X4.out.bl (by omega) _⟩
end
end Go.Proofs.YtlkldgopliablaaGreatDoor.En
namespace Go.Proofs.YtlkldgopliablaaGreatDoor.Sd
open Go.ChangeShapes Go.WideShapes Go.ChangeAt Go.RowKit
section
variable {w:World} {b:Nat} {m:Rd}
theorem step_in (h:RdAt w b m) (k:Nat) (hk:k<m.n) (hn:m.n<=8) (ho:m.o<9223372036854775807):Calls Tryz.prog 82 #[.pointer (some ⟨b,0,none⟩),.int .i64 (k:Int)] w fun e w'=>e=.returned (.int .i64 0)/\RdAt w' b (stepN m k)/\Turn [b] [b] w w':=by
 have H1:=zH (a74 h (k:Int));have e:hasT m (k:Int)=true:=zT ⟨by omega,by omega⟩;rw[e]at H1;have hk8:k<8:=by omega
 have k8:(k:Int)<8:=by omega
 have hc:=h.cellG k hk8;have hs:=h.cellS k hk8;have hb:=h.lt;have hf:=h.free (9+k);have HA:=zH h;clear e hk hn
 cases hg:m.g k
 ·have e:stepN m k=m:=by simp[stepN,hg]
  rw[e];rw[hg]at hc;clear e h;go_enter Tryz.func82,Tryz.ntmps82
  go_wp2_with (go_at_call 117;refine H1.out.mono ?_;rintro e w1 ⟨rfl,hw⟩;subst w1)
  go_ret;exact⟨rfl,HA.out,Turn.refl _ _⟩
 ·have e:stepN m k=settleM { m with s:=putF m.s k true }:=by simp[stepN,hg]
  rw[e];rw[hg]at hc;have HS:=zH (ax5 (h.setS k hk8 true) ho);have HT:=zH (a24 w b (9+k) (.bool true));clear e h;go_enter Tryz.func82,Tryz.ntmps82
  go_wp2_with (first
   | (go_at_call 117;refine H1.out.mono ?_;rintro e w1 ⟨rfl,hw⟩;subst w1)
   | (go_at_call 118;refine HS.out.mono ?_;rintro e w2 ⟨rfl,q1,q2⟩;have HQ:=zH (And.intro q1 (HT.out.trans q2));clear q1 q2))
  go_ret;exact⟨rfl,HQ.out.1,HQ.out.2⟩
theorem fin_in (h:RdAt w b m) (k:Nat) (hk:k<m.n) (hn:m.n<=8) (ho:m.o<9223372036854775807):Calls Tryz.prog 109 #[.pointer (some ⟨b,0,none⟩),.int .i64 (k:Int)] w fun e w'=>e=.returned (.int .i64 0)/\RdAt w' b (finN m k)/\Turn [b] [b] w w':=by
 have H1:=zH (a74 h (k:Int));have e:hasT m (k:Int)=true:=zT ⟨by omega,by omega⟩;rw[e]at H1;have hk8:k<8:=by omega
 have k8:(k:Int)<8:=by omega
 have hc:=h.cellG k hk8;have hs:=h.cellS k hk8;have hb:=h.lt;have hf:=h.free (9+k);have hf2:=h.free (1+k);have HA:=zH h;clear e hk hn
 cases hg:m.g k
 ·have e:finN m k=m:=by simp[finN,hg]
  rw[e];rw[hg]at hc;clear e h;go_enter Tryz.func109,Tryz.ntmps109
  go_wp2_with (go_at_call 117;refine H1.out.mono ?_;rintro e w1 ⟨rfl,hw⟩;subst w1)
  go_ret;exact⟨rfl,HA.out,Turn.refl _ _⟩
 ·have e:finN m k=settleM { m with g:=putF m.g k false,s:=putF m.s k false }:=by simp[finN,hg]
  rw[e];rw[hg]at hc;have HS:Hid (∀ u,Same ((w.setCell ⟨b,1+k,none⟩ (.bool false)).setCell ⟨b,9+k,none⟩ (.bool false)) u->Calls Tryz.prog 118 #[.pointer (some ⟨b,0,none⟩)] u fun e w'=>e=.returned (.tuple #[])/\RdAt w' b (settleM { m with g:=putF m.g k false,s:=putF m.s k false })/\Turn [b] [b] w w'):=fun u hu=>(ax5 (((h.setG k hk8 false).setS k hk8 false).same hu) ho).mono fun e w' ⟨q1,q2,q3⟩=>⟨q1,q2,(((a24 w b (1+k) _).trans (a24 _ b (9+k) _)).trans (hu.turn _)).trans q3⟩
  clear e h;go_enter Tryz.func109,Tryz.ntmps109
  go_wp2_with (go_at_call 117;refine H1.out.mono ?_;rintro e w1 ⟨rfl,hw⟩;subst w1)
  go_region_held (fun _=>True) (go_keep) (fail)
  go_wp2_with (go_at_call 118;refine(HS.out _ (by first | exact Same.refl _ | exact⟨rfl,rfl,rfl,rfl⟩)).mono ?_;rintro e w2 ⟨rfl,q1,q2⟩;have HQ:=zH (And.intro q1 q2);clear q1 q2)
  go_ret;exact⟨rfl,HQ.out.1,HQ.out.2⟩
end
end Go.Proofs.YtlkldgopliablaaGreatDoor.Sd
namespace Go.Proofs.YtlkldgopliablaaGreatDoor.En
open Go.ChangeShapes Go.WideShapes Go.ChangeAt Go.RowKit Num Ww
open Rr (Rx a25 InX okW u64B Alike step_in newX a30)
theorem ai6:(Tryz.prog.info? 65).map (·.size)=some 19:=Rr.deedInfo
section
variable {w:World} {f:Ex} {v:Ev} {s:Su} {d:Ed} {i t g:Nat} {y:Ty} {N:Int} {th no pr bg ah fr st to_:Int} {K:List Nat}
theorem EnAt.upC (h:EnAt w f v s d) (hi:i<d.dn) (hp:v.pt=some ⟨g,0,none⟩) {x:Value} (e:d.tr i=trU x th no pr bg ah fr):UpC w g (i*20) x th no pr bg ah fr:=by
 obtain⟨g',e',_,A⟩:=h.arr (by omega);obtain rfl:g'=g:=by rw[hp]at e';injection e' with e';injection e' with e';exact e'.symm
 have C:∀ j,j<20->w.cell? ⟨g',i*20+j,none⟩=(d.tr i)[j]?:=fun j hj=>A.cell hi hj
 rw[e]at C;exact⟨(C 0 (by omega)).trans rfl,(C 1 (by omega)).trans rfl,(C 2 (by omega)).trans rfl,(C 3 (by omega)).trans rfl,(C 14 (by omega)).trans rfl,(C 17 (by omega)).trans rfl,(C 18 (by omega)).trans rfl,A.lt⟩
def fpD (D:Rr.Dd):List Nat:=fpR D.pa ++ fpR D.pr ++ fpR D.pw ++ fpR D.po
theorem mem_fpD {D:Rr.Dd} {k:Nat}:k∈fpD D ↔ k∈fpR D.pa∨k∈fpR D.pr∨k∈fpR D.pw∨k∈fpR D.po:=by
 simp only[fpD,List.mem_append,or_assoc]
theorem EnAt.tells (h:EnAt w f v s d) {w1:World} {D:Rr.Dd} {a:List Nat} {m:Mac} (hD:Rr.DdAt w1 w.heap.size D a m) (k:Bl w w1) :
  EnAt w1 f { v with R:=fpD D ++ v.R } s { d with L:=fun j=>if j=i then some (D,a,m) else d.L j }/\Ext f v { v with R:=fpD D ++ v.R } w w1:=by
 obtain⟨h1,x⟩:=h.grow k (L:=fpD D) (fun j hj=>by
  rcases mem_fpD.1 hj with q | q | q | q
  ·exact hD.xa j q
  ·exact hD.xr j q
  ·exact hD.xw j q
  ·exact hD.xo j q) (fun j hj=>by
  rcases mem_fpD.1 hj with q | q | q | q
  ·exact hD.a.blw j q
  ·exact hD.r.blw j q
  ·exact hD.wr.blw j q
  ·exact hD.o.blw j q)
 exact⟨h1.told i ⟨hD.mono (zV _),fun j hj=>List.mem_append.2 (.inl (mem_fpD.2 hj))⟩,x⟩
theorem aN8 (y:Ty) (D:Rr.Dd) (th no pr bg en ah fr to_:Int):(dTx y D th no pr bg en ah fr to_).size=19:=by kernel_rfl
theorem b87 (x:Value) (y:Ty) (D:Rr.Dd) (th no pr bg ah fr st to_:Int):((ab3 (trU x th no pr bg ah fr) 1 (dTx y D th no pr bg 0 ah fr to_).toList).setIfInBounds 15 (.int .i64 st)).setIfInBounds 0 .nilIface=trO y D th no pr bg st ah fr to_:=by kernel_rfl
theorem aV3 (tr:Nat->Array Value) (i:Nat) (c:Array Value) (P Q:Array Value->Array Value):updA (updA (updA tr i c) i (P (updA tr i c i))) i (Q (updA (updA tr i c) i (P (updA tr i c i)) i))=updA tr i (Q (P c)):=by
 funext k
 by_cases q:k=i
 ·subst q
  rw[a22,a22,a22,a22]
 ·rw[a37 _ _ q,a37 _ _ q,a37 _ _ q,a37 _ _ q]
theorem aY6 (h:EnAt w f v s d) (hi:i<d.dn) (hp:v.pt=some ⟨g,0,none⟩) (ht:d.T t=some y) (e:d.tr i=trU (txV y (v.tb t)) th no pr bg ah fr) (hI:TIn s t N y):Calls Tryz.prog 83 #[.pointer (some ⟨g,i*20,none⟩),.int .i64 st,.int .i64 to_] w fun r w'=>r=.returned (.tuple #[])/\Hid (∃ v' D,v'.pt=v.pt/\v'.tb=v.tb/\v'.G=v.G/\EnAt w' f v' s { d with tr:=updA d.tr i (trO y D th no pr bg st ah fr to_),L:=fun j=>if j=i then some (D,af0 y,macT y) else d.L j }/\Ext f v v' w w'):=by
 obtain⟨_,K,tx,hK⟩:=h.tx t y ht;have HT:=zH (b86 (to_:=to_) tx hI fun u hu=>(h.on hu).upC hi hp e);have HM:Hid (v.ct<=maxLen):=by obtain⟨_,_,q,_⟩:=h.arr (by omega);exact q
 have HX:Hid (∀ w1 D,Rr.DdAt w1 w.heap.size D (af0 y) (macT y)->Bl w w1->∃ arr,w1.heap[g]?=some (.cells arr 110 (0,0))/\i*20+1+(dTx y D th no pr bg 0 ah fr to_).size<=arr.size/\(let w2:=w1.setRow g (ab3 arr (i*20+1) (dTx y D th no pr bg 0 ah fr to_).toList);(∀ j,j<20->(∃ x,w2.cell? ⟨g,i*20+j,none⟩=some x)/\w2.frozen? ⟨g,i*20+j,none⟩=false)/\∀ w3,w3=(w2.setCell ⟨g,i*20+15,none⟩ (.int .i64 st)).setCell ⟨g,i*20,none⟩ .nilIface->∃ v' D,v'.pt=v.pt/\v'.tb=v.tb/\v'.G=v.G/\EnAt w3 f v' s { d with tr:=updA d.tr i (trO y D th no pr bg st ah fr to_),L:=fun j=>if j=i then some (D,af0 y,macT y) else d.L j }/\Ext f v v' w w3)):=fun w1 D hD k=>by
  obtain⟨h1,x1⟩:=h.tells (i:=i) hD k;obtain⟨g',e',hm,A⟩:=h1.arr (by show 0<d.dn;omega);obtain rfl:g'=g:=by
   have:v.pt=some ⟨g',0,none⟩:=e';rw[hp]at this;injection this with this;injection this with this;exact this.symm
  obtain⟨arr,a1,a2,a3⟩:=A.puts (i:=i) (j:=1) (cs:=dTx y D th no pr bg 0 ah fr to_) hi (by rw[aN8];omega);obtain⟨h2,x2⟩:=h1.turned e' hm bm2 a3;refine⟨arr,a1,a2,⟨fun j hj=>⟨?_,a3.free _⟩,fun w3 hw3=>?_⟩⟩
  ·have z:=a3.sz i hi
   exact⟨_,(a3.cell hi hj).trans (Array.getElem?_eq_getElem (by omega))⟩
  ·obtain⟨h3,x3⟩:=h2.turned e' hm (a24 _ _ _ _) (a3.put hi (j:=15) (by omega) (.int .i64 st))
   obtain⟨h4,x4⟩:=h3.turned e' hm (a24 _ _ _ _) ((a3.put hi (j:=15) (by omega) (.int .i64 st)).put hi (j:=0) (by omega) .nilIface);subst hw3;refine⟨{ v with R:=fpD D ++ v.R },D,rfl,rfl,rfl,?_,((x1.trans x2).trans x3).trans x4⟩;have e5:=aV3 d.tr i (ab3 (d.tr i) 1 (dTx y D th no pr bg 0 ah fr to_).toList) (fun c=>c.setIfInBounds 15 (.int .i64 st)) (fun c=>c.setIfInBounds 0 .nilIface);rw[e,b87]at e5;rw[<- e5,<- e];exact h4
 clear h ht hI tx hK;go_enter Tryz.func83,Tryz.ntmps83
 go_wp2_with (first
  | (refine ad1 rfl 65 _ _ rfl g (i*20+1) (dTx y D th no pr bg 0 ah fr to_) rfl rfl _ arr a1 ai6 a2 (ab0 ..) ?_;simp only[Act.put];obtain⟨w2,hw2⟩:∃ w2,w2=w1.setRow g (ab3 arr (i*20+1) (dTx y D th no pr bg 0 ah fr to_).toList):=⟨_,rfl⟩;rw[<- hw2]at HZ ⊢;obtain⟨⟨x15,c15⟩,f15⟩:=HZ.out.1 15 (by omega);obtain⟨⟨x0,c0⟩,f0⟩:=HZ.out.1 0 (by omega);have c15:w2.cell? ⟨g,i*20+1+14,none⟩=some x15:=c15;have f15:w2.frozen? ⟨g,i*20+1+14,none⟩=false:=f15;have c0:w2.cell? ⟨g,i*20,none⟩=some x0:=c0;have f0:w2.frozen? ⟨g,i*20,none⟩=false:=f0;clear hw2 a1 a2)
  | (go_at_call 58;refine HT.out.mono ?_;rintro r w1 ⟨D,rfl,q⟩;obtain⟨arr,a1,a2,a3,a4⟩:=HX.out w1 D q.out.1 q.out.2;have HZ:=zH (And.intro a3 a4);clear a3 a4 HT HX))
 go_end0
 exact⟨rfl,HZ.out.2 _ rfl⟩
theorem ar3 {nc qc:Nat} {qa:Option Addr} {bgn go:Int} (h:EnAt w f v s d) (hs:SuIn s) (ht:t<s.n) (hn:d.rd.n=s.n) (ho:d.rd.o<9223372036854775807) (hc:d.cr t=#[.slice qa nc qc,.int .i64 bgn,.int .i64 go]):Calls Tryz.prog 70 #[.pointer (some ⟨f.b,0,none⟩),.int .i64 (t:Int)] w fun r w'=>r=.returned (.tuple #[])/\Hid (EnAt w' f v s { d with rd:=if finI bgn go nc then Sd.finN d.rd t else d.rd }/\Ext f v v w w'):=by
 have h8:s.n<=8:=by have:=hs.nb;have:=hs.b8;omega
 obtain⟨c0,c1,c2,lc⟩:=h.course ht hc;have HF:=zH (ad4 c0 c1 c2);have k13:=(h.cell 13).trans (rfl:_=some (Value.slice (some ⟨f.gc,0,none⟩) s.n s.n));have lb:=h.ltB;have hti:(t:Int)<(s.n:Int):=by omega
 have hlb:(s.n:Int)<=8:=by omega
 cases hf:finI bgn go nc with
 | false =>
  rw[hf]at HF;have HE:=zH (fun w' (k:Same w w')=>And.intro (h.same k) (Ext.of_below (f:=f) (v:=v) (k.below _)));clear h c0 c1 c2 hs hc hn ho;go_enter Tryz.func70,Tryz.ntmps70
  go_wp2_with (go_at_call 42;refine HF.out.mono ?_;rintro r w1 ⟨rfl,q⟩;have H1:=zH q;clear q)
  go_end0
  exact⟨rfl,HE.out _ H1.out⟩
 | true =>
  rw[hf]at HF;have HE:=zH (fun w' (k:Same w w')=>And.intro (h.same k) (Ext.of_below (f:=f) (v:=v) (k.below _)));have HR:Hid (∀ w1,Same w w1->Calls Tryz.prog 109 #[.pointer (some ⟨f.rb,0,none⟩),.int .i64 (t:Int)] w1 fun e w'=>e=.returned (.int .i64 0)/\Hid (EnAt w' f v s { d with rd:=Sd.finN d.rd t }/\Ext f v v w w')):=fun w1 k=>by
   have h1:=h.same k;refine(Sd.fin_in h1.rds t (by omega) (by omega) ho).mono ?_;rintro e w' ⟨rfl,q1,q2⟩;obtain⟨h2,x2⟩:=h1.setR q2 q1;exact⟨rfl,h2,(Ext.of_below (k.below _)).trans x2⟩
  have HC:Hid (∀ w1,Same w w1->w1.cell? ⟨f.b,12,none⟩=some (.pointer (some ⟨f.rb,0,none⟩))/\f.b<w1.heap.size):=fun w1 k=>⟨((h.same k).cell 12).trans rfl,(h.same k).ltB⟩
  clear h c0 c1 c2 hs hc hn ho;go_enter Tryz.func70,Tryz.ntmps70
  go_wp2_with (first
   | (go_at_call 109;refine(HR.out _ H1.out).mono ?_;rintro r w2 ⟨rfl,q⟩;have H2:=zH q.out;clear q)
   | (go_at_call 42;refine HF.out.mono ?_;rintro r w1 ⟨rfl,q⟩;have H1:=zH q;obtain⟨k12,lb1⟩:=HC.out _ q;clear q))
  go_end0
  exact⟨rfl,H2.out⟩
end
theorem b83:(Tryz.prog.info? 110).map (fun i=>(i.zero,i.size,i.bytes))=some (some (.agg (trU .nilIface 0 0 0 0 0 0)),20,232):=by kernel_rfl
theorem bz0 (x:Value) (hx:x.oneCell'=true) (th no pr bg ah fr:Int):∀ u∈(trU x th no pr bg ah fr).toList,u.oneCell'=true:=fun u hu=>by
 simp only[trU,List.mem_cons,List.not_mem_nil,or_false]at hu
 rcases hu with rfl | rfl | rfl | rfl | rfl | rfl | rfl | rfl | rfl | rfl | rfl | rfl | rfl | rfl | rfl | rfl | rfl | rfl | rfl | rfl
 ·exact hx
 all_goals rfl
theorem aY5 (w:World) (arr:Array Value) (T:TypeId):∀ (j:Nat) (u:Value),arr.toList[j]?=some u->(w.alloc (.cells arr T)).cell? ((⟨w.heap.size,0,none⟩:Addr).add j)=some u:=fun j u hj=>by
 rw[add_plain,zR _ _ _ _ _ _ (zN _ _),Nat.zero_add]
 simpa using hj
structure Nxt (w:World) (f:Ex) (s:Su) (t B:Nat) (qa:Option Addr) (x:Int × List Nat) (k gl np:Nat) (po ao:Option Addr) (co ca:Nat):Prop where
 at_:qa=some ⟨gl,0,none⟩
 x1:x.1=(k:Int)
 kp:k<s.pg.length
 c0:w.cell? ⟨gl,B*2,none⟩=some (.int .i64 (k:Int))
 c1:w.cell? ⟨gl,B*2+1,none⟩=some (.slice po x.2.length co)
 p0:w.cell? ⟨f.pp,k*2,none⟩=some (.int .i64 (s.prog x.1).1)
 p1:w.cell? ⟨f.pp,k*2+1,none⟩=some (.slice ao np ca)
 len:(s.prog x.1).2.length=np
 lp:np<=9223372036854775807
 code:a35 w ao (s.prog x.1).2
 args:FlAt w po x.2
 lg:gl<w.heap.size
 lf:f.pp<w.heap.size
section
variable {w w':World} {f:Ex} {v:Ev} {s:Su} {d:Ed} {t B:Nat} {qa:Option Addr} {qc:Nat}
theorem Nxt.on {x:Int × List Nat} {k gl np:Nat} {po ao:Option Addr} {co ca:Nat} (h:Nxt w f s t B qa x k gl np po ao co ca) (q:Bl w w'):Nxt w' f s t B qa x k gl np po ao co ca :=
 ⟨h.at_,h.x1,h.kp,(q.cell (p:=⟨gl,_,none⟩) h.lg).trans h.c0,(q.cell (p:=⟨gl,_,none⟩) h.lg).trans h.c1,(q.cell (p:=⟨f.pp,_,none⟩) h.lf).trans h.p0,(q.cell (p:=⟨f.pp,_,none⟩) h.lf).trans h.p1,h.len,h.lp,h.code.on q,h.args.on q,zL h.lg q.size,zL h.lf q.size⟩
theorem EnAt.next (h:EnAt w f v s d) (hs:SuIn s) (ht:t<s.n) (hB:B<(s.cs t).length) {c1 c2:Value} (hc:d.cr t=#[.slice qa (s.cs t).length qc,c1,c2]):∃ k gl np po ao co ca,Nxt w f s t B qa (s.call t B) k gl np po ao co ca:=by
 obtain⟨_,_,a3,a4⟩:=hs.args hB;obtain⟨qa',qc',e,q⟩:=h.fx.cls t ht;rw[hc]at e;have e:Value.slice qa (s.cs t).length qc=.slice qa' (s.cs t).length qc':=Option.some.inj e;injection e with e1 _ _;subst e1;obtain⟨gl,g1,g2,g3,po,co,g4,g5,g6⟩:=q B hB;have hk:(s.call t B).1.toNat<s.pg.length:=by omega
 obtain⟨p1,p2,ao,ca,p3,p4,p5,p6⟩:=h.fx.prg _ hk;have e:(s.call t B).1=((s.call t B).1.toNat:Int):=by omega
 have ep:s.prog (s.call t B).1=s.pg.getD (s.call t B).1.toNat (0,[]):=rfl;exact⟨_,gl,_,po,ao,co,ca,g1,e,hk,by rw[<- e];exact g3,g4,by rw[ep];exact p2,p3,by rw[ep],p6,by rw[ep];exact p4,g5,h.blR _ g2,h.blR _ p1⟩
theorem aX2 (h:EnAt w f v s d) (hs:SuIn s) (ht:t<s.n) (hB:B<(s.cs t).length) (hc:d.cr t=#[.slice qa (s.cs t).length qc,.int .i64 (B:Int),.int .i64 (-1)]) (hT:d.T t=none) (hdn:d.dn<=512):Calls Tryz.prog 43 #[.pointer (some ⟨f.b,0,none⟩),.int .i64 (t:Int)] w fun r w'=>r=.returned (.tuple #[])/\Hid (∃ v' bx,v'.tb=updN v.tb t bx/\EnAt w' f v' s { d with T:=upT d.T t (some (newT s t (s.call t B))),dn:=d.dn+1,tr:=updA d.tr d.dn (trU (txV (newT s t (s.call t B)) bx) t B (s.call t B).1 d.N 0 d.rd.o),cr:=updA d.cr t #[.slice qa (s.cs t).length qc,.int .i64 ((B+1:Nat):Int),.int .i64 (d.dn:Int)] }/\Ext f v v' w w'):=by
 have h8:(s.n:Int)<=8:=by have:=hs.nb;have:=hs.b8;omega
 have hti:(t:Int)<(s.n:Int):=by omega
 have hBn:(B:Int)<((s.cs t).length:Int):=by omega
 have hB64:(s.cs t).length<=64:=hs.few t;have hp64:(s.pg.length:Int)<=64:=by have:=hs.pl;omega
 obtain⟨c0,c1,c2,lc⟩:=h.course ht hc;have k13:=(h.cell 13).trans (rfl:_=some (Value.slice (some ⟨f.gc,0,none⟩) s.n s.n));have lb:=h.ltB;obtain⟨k,gl,np,po,ao,co,ca,X⟩:=h.next hs ht hB hc;have HX:=zH X;obtain⟨nl,hnl⟩:∃ nl,(s.cs t).length=nl:=⟨_,rfl⟩
 rw[hnl]at c0 hBn;have eqa:=X.at_;rw[eqa]at c0;have x0:=X.c0;have x1:=X.c1;have lg:=X.lg;have hkp:(k:Int)<(s.pg.length:Int):=by have:=X.kp;omega
 have HH:=zH h;clear X h eqa;go_enter Tryz.func43,Tryz.ntmps43
 go_upto_region 1 with fail
 go_cut [5] (fun v5 wc=>v5=.pointer (some ⟨w.heap.size,0,none⟩)/\Hid (wc=w.drew.alloc (.cells #[.int .i64 (k:Int),.slice po (s.call t B).2.length co] 138)))
 case first =>
  refine a05 (fun u=>u.cell? ⟨f.gc,t*3,none⟩=some (.slice (some ⟨gl,0,none⟩) nl qc)/\u.cell? ⟨f.gc,t*3+1,none⟩=some (.int .i64 (B:Int))/\u.cell? ⟨gl,B*2,none⟩=some (.int .i64 (k:Int))/\u.cell? ⟨gl,B*2+1,none⟩=some (.slice po (s.call t B).2.length co) )  ((0,true)::(1,true)::(2,true)::(3,true)::(4,true)::(5,true)::(6,true)::(7,true)::(8,true)::(9,true)::(10,false)::(11,false)::[])  Md.Cv.follows13 (by kernel_rfl) (fun _ _ _ _ _ h=>h)  ⟨c0,c1,x0,x1⟩ ?_
  (repeat ((first | (refine a02 (v:=?_) rfl (by rfl) (fun wq hSq=>?_) ?_;rotate_left;(focus ((try dsimp only at hSq);go_simp;try with_reducible rfl))) | refine a03 rfl (by rfl) ?_);simp only[Act.put,zA,zB,zC]))
  (refine a04 rfl (by rfl) (fun KK hK=>?_);go_simp)
  have o:∀ (z:Obj) (g j:Nat),g<w.heap.size->(w.alloc z).drew.cell? ⟨g,j,none⟩=w.cell? ⟨g,j,none⟩:=fun z g j hg=>World.cell?_alloc_old _ _ _ (Nat.ne_of_lt hg)
  refine hK.out _ _ ⟨(o _ _ _ lc).trans c0,(o _ _ _ lc).trans c1,(o _ _ _ lg).trans x0,(o _ _ _ lg).trans x1⟩ ?_
  (clear hK KK;try simp only[Act.put,zA,zB,zC])
  (refine a04 rfl (by rfl) (fun KK hK=>?_);go_simp)
  refine hK.out _ _ ⟨(o _ _ _ lc).trans c0,(o _ _ _ lc).trans c1,(o _ _ _ lg).trans x0,(o _ _ _ lg).trans x1⟩ ?_
  (clear hK KK;try simp only[Act.put])
  refine a07 ?_;go_wp2_with fail
  go_meet
  exact⟨rfl,rfl⟩
 case rest =>
  obtain⟨rfl,HW⟩:=hcut;obtain⟨g5,hg5⟩:∃ g5,w.heap.size=g5:=⟨_,rfl⟩
  rw[hg5];have HE1:Hid (EnAt wc f v s d/\Bl w wc/\wc.heap[g5]?=some (.cells #[.int .i64 (k:Int),.slice po (s.call t B).2.length co] 138 (0,0))/\w.heap.size=g5):=by
   have hw:=HW.out;have hb:Bl w wc:=by rw[hw];exact((Same.drew w).below _).trans (show Below w.heap.size w.drew _ from below_alloc w.drew _)
   refine⟨HH.out.on hb,hb,?_,hg5⟩;rw[hw,<- hg5];exact zN _ _
  have HS:Hid (∀ u,Bl wc u->((u.cell? ⟨f.b,0,none⟩=some (.int .i64 s.a)/\u.cell? ⟨f.b,1,none⟩=some (.int .i64 s.b)/\u.cell? ⟨f.b,2,none⟩=some (.int .i64 s.c)/\u.cell? ⟨f.b,3,none⟩=some (.int .i64 s.e))/\u.cell? ⟨f.b,4,none⟩=some (.slice (some ⟨f.pp,0,none⟩) s.pg.length s.pg.length)/\u.cell? ⟨f.b,12,none⟩=some (.pointer (some ⟨f.rb,0,none⟩))/\u.cell? ⟨f.b,14,none⟩=some (.slice v.pt d.dn v.ct)/\u.cell? ⟨f.b,15,none⟩=some (.int .i64 d.N)/\u.cell? ⟨f.gc,t*3+1,none⟩=some (.int .i64 (B:Int))/\(u.cell? ⟨g5,0,none⟩=some (.int .i64 (k:Int))/\u.cell? ⟨g5,1,none⟩=some (.slice po (s.call t B).2.length co))/\u.cell? ⟨f.pp,k*2,none⟩=some (.int .i64 (s.prog (s.call t B).1).1)/\u.cell? ⟨f.pp,k*2+1,none⟩=some (.slice ao np ca))/\f.b<u.heap.size):=fun u hu=>by
   have h1:=HE1.out.1.on hu;have X1:=(HX.out.on HE1.out.2.1).on hu;have hg:u.heap[g5]?=_:=(hu.block _ (lt_of_block HE1.out.2.2.1)).trans HE1.out.2.2.1;exact⟨⟨⟨(h1.cell 0).trans rfl,(h1.cell 1).trans rfl,(h1.cell 2).trans rfl,(h1.cell 3).trans rfl⟩,(h1.cell 4).trans rfl,(h1.cell 12).trans rfl,(h1.cell 14).trans rfl,(h1.cell 15).trans rfl,(h1.course ht hc).2.1,⟨(zR u g5 0 _ _ _ hg).trans rfl,(zR u g5 1 _ _ _ hg).trans rfl⟩,X1.p0,X1.p1⟩,h1.ltB⟩
  have HTR:Hid (∀ u,Bl wc u->Calls Tryz.prog 80 #[cfgV s.a s.b s.c s.e,.int .i64 (t:Int),.agg #[.int .i64 (s.prog (s.call t B).1).1,.slice ao np ca],.slice po (s.call t B).2.length co] u fun r w'=>∃ bx,r=.returned (.iface (txT (newT s t (s.call t B))) (.pointer (some ⟨bx,0,none⟩)))/\Hid (Born u w' bx (newT s t (s.call t B)))):=fun u hu=>by
   have h1:=HE1.out.1.on hu;have X1:=(HX.out.on HE1.out.2.1).on hu;exact b88 hs ht hB h1.fx.tab rfl X1.len rfl X1.code X1.args X1.lp
  have HOV:Hid (∀ u,Bl wc u->Calls Tryz.prog 51 #[.pointer (some ⟨f.rb,0,none⟩)] u fun e w'=>e=.returned (.int .i64 d.rd.o)/\w'=u):=fun u hu=>Sd.over_any (HE1.out.1.on hu).rds
  clear c0 c1 c2 lc k13 lb x0 x1 lg HW hg5
  go_upto_region 2 with fail
  obtain⟨⟨⟨a0,a1,a2,a3⟩,a4,a12,a14,a15,ac,⟨ag0,ag1⟩,ap0,ap1⟩,lb⟩:=HS.out wc (zF _ _)
  generalize hcl:(s.call t B).2.length=cl at *
  generalize htg:(s.prog (s.call t B).1).1=tg at *
  obtain⟨tt,htt⟩:∃ tt,txT (newT s t (s.call t B))=tt:=⟨_,rfl⟩
  rw[htt]at HTR;refine a32 (fun u=>(u.cell? ⟨f.b,0,none⟩=some (.int .i64 s.a)/\u.cell? ⟨f.b,1,none⟩=some (.int .i64 s.b)/\u.cell? ⟨f.b,2,none⟩=some (.int .i64 s.c)/\u.cell? ⟨f.b,3,none⟩=some (.int .i64 s.e))/\u.cell? ⟨f.b,4,none⟩=some (.slice (some ⟨f.pp,0,none⟩) s.pg.length s.pg.length)/\u.cell? ⟨f.b,12,none⟩=some (.pointer (some ⟨f.rb,0,none⟩))/\u.cell? ⟨f.b,14,none⟩=some (.slice v.pt d.dn v.ct)/\u.cell? ⟨f.b,15,none⟩=some (.int .i64 d.N)/\u.cell? ⟨f.gc,t*3+1,none⟩=some (.int .i64 (B:Int))/\(u.cell? ⟨g5,0,none⟩=some (.int .i64 (k:Int))/\u.cell? ⟨g5,1,none⟩=some (.slice po cl co))/\u.cell? ⟨f.pp,k*2,none⟩=some (.int .i64 tg)/\u.cell? ⟨f.pp,k*2+1,none⟩=some (.slice ao np ca) )  ((0,true)::(1,true)::(2,true)::(3,true)::(4,true)::(5,true)::(6,true)::(7,true)::(8,true)::(9,true)::(10,true)::(11,true)::(12,true)::(13,true)::(14,true)::(15,true)::(16,true)::(17,true)::(18,true)::(19,true)::(21,true)::(22,true)::(23,true)::(24,true)::(25,true)::(26,true)::(27,true)::(28,true)::(29,true)::(30,true)::(31,true)::(32,true)::(33,true)::(34,true)::(35,true)::(20,false)::(36,false)::(37,true)::(38,true)::(39,false)::(40,false)::(41,true)::(42,true)::(43,false)::[])  Md.Cv.follows13 (by kernel_rfl) (fun _ _ _ _ _ h=>h)  (HS.out _ ((Same.drew wc).below _)).1 ?_
  (repeat (refine a23 (v:=?_) rfl (by rfl) (fun wq hSq=>?_) ?_;rotate_left;(focus ((try dsimp only at hSq);go_simp;try with_reducible rfl));simp only[Act.put,zA,zB,zC]))
  (refine a20 rfl (by rfl) (fun KK hK=>?_);go_simp)
  refine(HTR.out _ ((Same.drew wc).below _)).mono ?_;rintro r w2 ⟨bx,rfl,q⟩;obtain⟨G,K,q1,q2,q3,q4⟩:=q.out;have HB2:Hid (TxAt w2 bx G K (newT s t (s.call t B))/\Abv wc.heap.size G/\Abv wc.heap.size K/\Bl wc w2):=⟨q1,q2,q3,((Same.drew wc).below _).trans q4⟩;clear q q1 q2 q3 q4 HTR;refine hK.out _ _ (fun _=>(HS.out _ HB2.out.2.2.2).1) ?_
  (clear hK KK;try simp only[Act.put,zA,zB,zC])
  (refine a20 rfl (by rfl) (fun KK hK=>?_);go_simp)
  refine(HOV.out _ HB2.out.2.2.2).mono ?_;rintro r w3 ⟨rfl,hw3⟩;subst w3;refine hK.out _ _ (fun _=>(HS.out _ HB2.out.2.2.2).1) ?_
  (clear hK KK;try simp only[Act.put,zA,zB,zC])
  (repeat (refine a23 (v:=?_) rfl (by rfl) (fun wq hSq=>?_) ?_;rotate_left;(focus ((try dsimp only at hSq);go_simp;try with_reducible rfl));simp only[Act.put,zA,zB,zC]))
  (refine a20 rfl (by rfl) (fun KK hK=>?_);go_simp)
  have b3:∀ o,Bl wc (w2.alloc o):=fun o=>HB2.out.2.2.2.alloc HB2.out.2.2.2.size o
  refine hK.out _ _ (fun _=>(HS.out _ (b3 _)).1) ?_
  (clear hK KK;try simp only[Act.put,zA,zB,zC])
  have HM:Hid (∀ o,EnAt (w2.alloc o) f { v with tb:=updN v.tb t bx,G:=updG v.G t G,R:=K ++ v.R } s { d with T:=upT d.T t (some (newT s t (s.call t B))) }/\Ext f v { v with tb:=updN v.tb t bx,G:=updG v.G t G,R:=K ++ v.R } w (w2.alloc o)):=fun o=>by
   obtain⟨e2,x2⟩:=HE1.out.1.born HB2.out.2.2.2 (by omega) hT HB2.out.1 HB2.out.2.1 HB2.out.2.2.1;exact⟨e2.on (below_alloc _ _),((Ext.of_below HE1.out.2.1).trans x2).trans (Ext.of_below (below_alloc _ _))⟩
  obtain⟨i0,hi,hz0,hz1,hz2⟩:=info_parts b83;refine a20 rfl (by rfl) (fun KK hK=>?_);refine a57 _ _ 89 89 rfl (.slice v.pt d.dn v.ct) (.slice (some ⟨w2.heap.size,0,none⟩) 1 1) rfl rfl (run_append_own_at (P:=Tryz.prog) (w2.alloc (.cells (trU (.iface tt (.pointer (some ⟨bx,0,none⟩))) t B k d.N 0 d.rd.o) 110)) 0 89 89 110 i0 (.agg (trU .nilIface 0 0 0 0 0 0)) 20 232 Tryz.underlying89 hi hz0 hz1 hz2 rfl (by decide) _ d.dn (ac2 d.tr d.dn) (HM.out _).1.trn ⟨w2.heap.size,0,none⟩ 1 1 (trU (.iface tt (.pointer (some ⟨bx,0,none⟩))) t B k d.N 0 d.rd.o).toList rfl (aY5 w2 _ _) (bz0 _ rfl _ _ _ _ _ _) (by unfold maxLen;omega) (by omega) (zV _)) ?_;rintro v4 w4 ⟨hown4,hgrow4,hnil4,hat4⟩;obtain⟨p',c',hv4,m1,m2,m3⟩:=(HM.out _).1.more (c:=trU (.iface tt (.pointer (some ⟨bx,0,none⟩))) t B k d.N 0 d.rd.o) rfl hown4 hgrow4 (hat4.imp id (fun q=>⟨_,q,zE _⟩));subst hv4;have blk:∀ j,j<wc.heap.size->j∉fpR v.pt->w4.heap[j]?=wc.heap[j]?:=fun j hj hn=>(hgrow4.block j (zL hj (b3 _).size) (fun q=>hn (a40.2 q.symm))).trans ((b3 _).block j hj)
  have eb:=blk f.b lb (fun q=>HE1.out.1.apart 0 4 (by omega) f.b (by simp[own]) q);have egc:=blk f.gc HE1.out.1.crs.lt (fun q=>HE1.out.1.apart 3 4 (by omega) f.gc (by simp[own]) q);have epp:=blk f.pp (HX.out.on HE1.out.2.1).lf (fun q=>HE1.out.1.apart 5 4 (by omega) f.pp (HE1.out.1.fx.prg k HX.out.kp).1 q);have eg5:=blk g5 (lt_of_block HE1.out.2.2.1) (fun q=>by have:=(aP3 HH.out.trn) g5 q;have:=HE1.out.2.2.2;omega);have HB5:Hid (EnAt (w4.setCell ⟨f.b,14,none⟩ (.slice p' (d.dn+1) c')) f { v with tb:=updN v.tb t bx,G:=updG v.G t G,R:=K ++ v.R,pt:=p',ct:=c' } s { d with T:=upT d.T t (some (newT s t (s.call t B))),dn:=d.dn+1,tr:=updA d.tr d.dn (trU (.iface tt (.pointer (some ⟨bx,0,none⟩))) t B k d.N 0 d.rd.o) }/\Ext f v { v with tb:=updN v.tb t bx,G:=updG v.G t G,R:=K ++ v.R,pt:=p',ct:=c' } w (w4.setCell ⟨f.b,14,none⟩ (.slice p' (d.dn+1) c'))):=⟨m2,(HM.out _).2.trans m3⟩;have c14:=(zR w4 _ 14 _ _ _ m1).trans (rfl:_=some (Value.slice v.pt d.dn v.ct));have f14:=zZ w4 _ 14 _ _ m1;have l4:=lt_of_block m1;have cb:=@World.cell?_of_block;refine hK.out _ _ (fun _=>⟨⟨(cb eb).trans a0,(cb eb).trans a1,(cb eb).trans a2,(cb eb).trans a3⟩,(cb eb).trans a4,(cb eb).trans a12,c14,(cb eb).trans a15,(cb egc).trans ac,⟨(cb eg5).trans ag0,(cb eg5).trans ag1⟩,(cb epp).trans ap0,(cb epp).trans ap1⟩) ?_;clear hown4 hgrow4 hnil4 hat4 m1 m2 m3 blk eb egc epp eg5 cb a0 a1 a2 a3 a4 a12 a14 a15 ac ag0 ag1 ap0 ap1 HS HOV
  (clear hK KK;try simp only[Act.put,zA,zB,zC])
  (repeat (refine a23 (v:=?_) rfl (by rfl) (fun wq hSq=>?_) ?_;rotate_left;(focus ((try dsimp only at hSq);go_simp;try with_reducible rfl));simp only[Act.put,zA,zB,zC]))
  (refine a20 rfl (by rfl) (fun KK hK=>?_);go_simp)
  refine hK.out _ _ (fun hn=>absurd rfl hn) ?_
  (clear hK KK;try simp only[Act.put])
  refine a54 ?_;obtain⟨w5,hw5⟩:∃ w5,w5=w4.setCell ⟨f.b,14,none⟩ (.slice p' (d.dn+1) c'):=⟨_,rfl⟩
  rw[<- hw5]at HB5 ⊢;clear hw5 c14 f14 l4;have s14:=(HB5.out.1.cell 14).trans (rfl:_=some (Value.slice p' (d.dn+1) c'));have s1:=(HB5.out.1.course ht hc).2.1;have s2:=(HB5.out.1.course ht hc).2.2.1;have sg:=(HB5.out.1.course ht hc).2.2.2;have sb:=HB5.out.1.ltB;have f1:=HB5.out.1.crs.free (t*3+1);have f2:=HB5.out.1.crs.free (t*3+2);go_wp2_with fail
  go_end0
  obtain⟨e6,x6⟩:=HB5.out.1.setC ht (j:=2) (by omega) (by omega) (.int .i64 (d.dn:Int));obtain⟨e7,x7⟩:=e6.setC ht (j:=1) (by omega) (by omega) (.int .i64 ((B:Int)+1));refine⟨rfl,{ v with tb:=updN v.tb t bx,G:=updG v.G t G,R:=K ++ v.R,pt:=p',ct:=c' },bx,rfl,?_,(HB5.out.2.trans x6).trans x7⟩;have ecr:updA (updA d.cr t ((d.cr t).setIfInBounds 2 (.int .i64 (d.dn:Int)))) t ((updA d.cr t ((d.cr t).setIfInBounds 2 (.int .i64 (d.dn:Int))) t).setIfInBounds 1 (.int .i64 ((B:Int)+1)))=updA d.cr t #[.slice qa (s.cs t).length qc,.int .i64 ((B+1:Nat):Int),.int .i64 (d.dn:Int)]:=by
   funext u
   by_cases q:u=t
   ·subst q
    rw[a22,a22,a22,hc]
    rfl
   ·rw[a37 _ _ q,a37 _ _ q,a37 _ _ q]
  have e7':=e7;dsimp only at e7';rw[ecr]at e7';unfold txV;rw[htt,HX.out.x1];exact e7'
end
end Go.Proofs.YtlkldgopliablaaGreatDoor.En
