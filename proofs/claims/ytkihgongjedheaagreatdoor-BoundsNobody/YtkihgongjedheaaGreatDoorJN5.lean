import Derived.Test.YtkihgongjedheaaGreatDoorJN4
import Derived.Deep.CutBlock
import Derived.Deep.DeepCutAuto
import Derived.Test.YtkihgongjedheaaGreatDoorJN1
import Derived.Laws.Tables
import Derived.Deep.WholeRow
import Derived.Deep.RegionHeld
import Derived.ChangeKeysEq
import Derived.Test.YtkihgongjedheaaGreatDoorJN2
import Derived.Handy
import Derived.Test.YtkihgongjedheaaGreatDoorJN3
set_option maxRecDepth 100000
set_option maxHeartbeats 8000000
namespace Go.Proofs.YtkihgongjedheaaGreatDoor.Ww
open Go.ChangeShapes Go.WideShapes Go.ChangeAt Go.RowKit Num Rr
attribute [local go_sem] a00
structure Ddw where
 pa:Option Addr
 ca:Nat
 pr:Option Addr
 cr:Nat
 pw:Option Addr
 cw:Nat
 po:Option Addr
 co:Nat
structure DdAt (w:World) (B:Nat) (D:Ddw) (args:List Nat) (m:Mac):Prop where
 a:RowAt 51 w D.pa D.ca (fls args)
 r:TRow w D.pr D.cr m.reads
 wr:TRow w D.pw D.cw m.buf
 o:RowAt 51 w D.po D.co (fls m.out)
 xa:Abv B (fpR D.pa)
 xr:Abv B (fpR D.pr)
 xw:Abv B (fpR D.pw)
 xo:Abv B (fpR D.po)
theorem DdAt.on {w w':World} {B:Nat} {D:Ddw} {args:List Nat} {m:Mac} (h:DdAt w B D args m) (k:Bl w w'):DdAt w' B D args m:=⟨h.a.on k,h.r.on k,h.wr.on k,h.o.on k,h.xa,h.xr,h.xw,h.xo⟩
theorem DdAt.keep {w w':World} {B:Nat} {D:Ddw} {args:List Nat} {m:Mac} (h:DdAt w B D args m) (k:∀ i,B<=i->i<w.heap.size->w'.heap[i]?=w.heap[i]?) (hs:w.heap.size<=w'.heap.size):DdAt w' B D args m :=
 ⟨h.a.keep ⟨hs,fun i hi=>k i (h.xa i hi) (h.a.blw i hi)⟩,h.r.keep ⟨hs,fun i hi=>k i (h.xr i hi) (h.r.blw i hi)⟩,h.wr.keep ⟨hs,fun i hi=>k i (h.xw i hi) (h.wr.blw i hi)⟩,h.o.keep ⟨hs,fun i hi=>k i (h.xo i hi) (h.o.blw i hi)⟩,h.xa,h.xr,h.xw,h.xo⟩
theorem DdAt.mono {w:World} {B B':Nat} {D:Ddw} {args:List Nat} {m:Mac} (h:DdAt w B D args m) (k:B'<=B):DdAt w B' D args m:=⟨h.a,h.r,h.wr,h.o,h.xa.mono k,h.xr.mono k,h.xw.mono k,h.xo.mono k⟩
abbrev dC (t:Int) (na:Nat) (m:Mac) (D:Ddw) (mark num e0 e1 e2 st:Int):Array Value:=#[.int .i64 0,.int .i64 0,.int .i64 0,.int .i64 t,.slice D.pa na D.ca,.int .i64 mark,.int .i64 num,.slice D.pr m.reads.length D.cr,.slice D.pw m.buf.length D.cw,.slice D.po m.out.length D.co,.int .i64 e0,.int .i64 e1,.int .i64 e2,.int .i64 0,.int .i64 0,.int .i64 st,.int .i64 0,.int .i64 0,.int .i64 0]
abbrev dZ:Obj:=.cells #[.int .i64 0,.int .i64 0,.int .i64 0,.int .i64 0,.slice none 0 0,.int .i64 0,.int .i64 0,.slice none 0 0,.slice none 0 0,.slice none 0 0,.int .i64 0,.int .i64 0,.int .i64 0,.int .i64 0,.int .i64 0,.int .i64 0,.int .i64 0,.int .i64 0,.int .i64 0] 46
theorem ac8 {fn:Func} {p:Tmp} (h:fn.results=#[.cell p 46]) {R:Ending->World->Prop} {a:Act} {w:World} (g:Nat) {t:Int} {na:Nat} {m:Mac} {D:Ddw} {mark num e0 e1 e2 st:Int} (hp:a.tmps.getD p undef=.pointer (some ⟨g,0,none⟩))
  (hg:w.heap[g]?=some (.cells (dC t na m D mark num e0 e1 e2 st) 46 (0,0))) (hd:a.defers=[]) (hR:R (.returned (.agg (dC t na m D mark num e0 e1 e2 st))) w):bodyPost Tryz.prog fn R .ret a w :=
 bodyPost_ret (results_cell_row h _ _ g _ _ _ _ hp hg Tryz.underlying46 rfl (by kernel_rfl)) hd hR
theorem deedInfo:(Tryz.prog.info? 46).map (·.size)=some 19:=by kernel_rfl
theorem a75 (t:Int) (na:Nat) (m:Mac) (D:Ddw) (mark num e0 e1 e2 st:Int):(dC t na m D mark num e0 e1 e2 st).all (·.oneCell')=true:=by simp[Value.oneCell']
def b99 (x:Wx):Int:=if x.part=1 then -1 else wrap64 x.tick
def endJ (x:Wx) (v:Int):Int:=if x.part=9 then v else 0
structure DdX (w:World) (B g:Nat) (D:Ddw) (args:List Nat) (m:Mac):Prop where
 d:DdAt w B D args m
 na:g∉fpR D.pa
 nr:g∉fpR D.pr
 nw:g∉fpR D.pw
 no:g∉fpR D.po
theorem DdX.put {w:World} {B g:Nat} {D:Ddw} {args:List Nat} {m:Mac} (h:DdX w B g D args m) (j:Nat) (v:Value):DdX (w.setCell ⟨g,j,none⟩ v) B g D args m :=
 ⟨⟨h.d.a.keep (af1 h.na),h.d.r.keep (af1 h.nr),h.d.wr.keep (af1 h.nw),h.d.o.keep (af1 h.no),h.d.xa,h.d.xr,h.d.xw,h.d.xo⟩,h.na,h.nr,h.nw,h.no⟩
theorem DdX.on {w w':World} {B g:Nat} {D:Ddw} {args:List Nat} {m:Mac} (h:DdX w B g D args m) (k:Bl w w'):DdX w' B g D args m:=⟨h.d.on k,h.na,h.nr,h.nw,h.no⟩
theorem a99 {F:List Nat} {w:World} {g:Nat} {x:Array Value} (h:g∉F):Kept F w (w.setRow g x):=⟨by simp,fun i hi=>setRow_other _ _ _ _ (fun (e:i=g)=>h (e ▸ hi))⟩
theorem a65 {u:World} {p:Option Addr} {g:Nat} (h:Blw u (fpR p)) (hg:u.heap.size<=g):g∉fpR p:=fun y=>by have:=h g y;omega
theorem a64 {p:Option Addr} {g B:Nat} (h:Abv B (fpR p)) (hg:g<B):g∉fpR p:=fun y=>by have:=h g y;omega
theorem a01 {a b c:World} (h:Bl a b) (k:Bl b c):Bl a c:=h.trans (k.mono h.size)
section
variable {w:World} {b:Nat} {x:Wx} {z:Wz} {v:Wv}
theorem Deed_any (h:RawAt w b x z v) (hv:VOk x v) (hI:InY x) {na:Nat} (hna:x.args.length=na) {m:Mac} (hm:x.m=m) {mk nu e0 e1 e2:Int} (hk:b99 x=mk) (hnu:x.num=nu) (h0:endJ x m.how=e0) (h1:endJ x m.cod=e1) (h2:endJ x m.err=e2):Calls Tryz.prog 83 #[.pointer (some ⟨b,0,none⟩)] w fun e w'=>∃ D,e=.returned (.agg (dC x.tag na m D mk nu e0 e1 e2 x.steps))/\DdAt w' w.heap.size D x.args m/\Bl w w':=by
 subst hm;have hf:=hI.few;have ho:=hI.rest.inv.out;have hr:=hI.rest.inv.reads;have hu:=hI.rest.inv.used;have hfu:=hI.rest.inv.fuel;have hw0:(x.m.reads.length:Int)<=1024:=by split at hr <;> omega
 have HNB:Hid (wrap64 v.nb=nu):=hv.nb.trans hnu;have HC:Hid (∀ u,Bl w u->Calls Tryz.prog 58 #[.slice z.pa na z.ca] u fun e w'=>∃ p' c',e=.returned (.slice p' na c')/\RowAt 51 w' p' c' (fls x.args)/\Abv u.heap.size (fpR p')/\Bl u w'):=fun u hu=>an4 (h.on hu).arg hna (by omega)
 have HR:Hid (∀ u,Bl w u->Calls Tryz.prog 96 #[.pointer (some ⟨z.bm,0,none⟩)] u fun e w'=>∃ p' c',e=.returned (.slice p' x.m.reads.length c')/\TRow w' p' c' x.m.reads/\Abv u.heap.size (fpR p')/\Bl u w'):=fun u hu=>aL7 (h.on hu).mac.gm (by omega)
 have HWR:Hid (∀ u,Bl w u->Calls Tryz.prog 97 #[.pointer (some ⟨z.bm,0,none⟩)] u fun e w'=>∃ p' c',e=.returned (.slice p' x.m.buf.length c')/\TRow w' p' c' x.m.buf/\Abv u.heap.size (fpR p')/\Bl u w'):=fun u hu=>(al0 (h.on hu).mac.gm).mono (by rintro e w' ⟨q1,q2,q3⟩;exact⟨_,_,q1,q2,(fun i hi=>by simp[fpR]at hi;omega),q3⟩)
 have HOU:Hid (∀ u,Bl w u->Calls Tryz.prog 98 #[.pointer (some ⟨z.bm,0,none⟩)] u fun e w'=>∃ p' c',e=.returned (.slice p' x.m.out.length c')/\RowAt 51 w' p' c' (fls x.m.out)/\Abv u.heap.size (fpR p')/\Bl u w'):=fun u hu=>bb1 (h.on hu).mac.gm (by omega)
 have HB:Hid (∀ u,Bl w u->u.cell? ⟨b,7,none⟩=some (.int .i64 x.tag)/\u.cell? ⟨b,8,none⟩=some (.slice z.pa na z.ca)/\u.cell? ⟨b,9,none⟩=some (.pointer (some ⟨z.bm,0,none⟩))/\u.cell? ⟨b,10,none⟩=some (.int .i64 x.steps)/\u.cell? ⟨b,19,none⟩=some (.int .u64 v.nb)):=fun u hu=>⟨((h.on hu).cell 7).trans rfl,((h.on hu).cell 8).trans (by rw[<- hna];rfl),((h.on hu).cell 9).trans rfl,((h.on hu).cell 10).trans rfl,((h.on hu).cell 19).trans rfl⟩
 have HBP:Hid (∀ u,Bl w u->u.cell? ⟨b,11,none⟩=some (.int .i64 (x.part:Int))/\u.cell? ⟨b,13,none⟩=some (.int .u64 x.tick)/\u.cell? ⟨b,9,none⟩=some (.pointer (some ⟨z.bm,0,none⟩))/\b<u.heap.size):=fun u hu=>⟨((h.on hu).cell 11).trans rfl,((h.on hu).cell 13).trans rfl,((h.on hu).cell 9).trans rfl,(h.on hu).ltB⟩
 have HO:Hid (∀ u,Bl w u->Calls Tryz.prog 99 #[.pointer (some ⟨b,0,none⟩)] u fun e w'=>e=.returned (.bool (decide ((x.part:Int)=9)))/\w'=u):=fun u hu=>ao9 (h.on hu) hv.nx
 have HE:Hid (∀ u,Bl w u->Calls Tryz.prog 100 #[.pointer (some ⟨z.bm,0,none⟩)] u fun e w'=>e=.returned (.agg #[.int .i64 x.m.how,.int .i64 x.m.cod,.int .i64 x.m.err])/\Bl u w'):=fun u hu=>Go.Proofs.YtkihgongjedheaaGreatDoor.end_any (h.on hu).mac.gm
 have HLB:Hid (b<w.heap.size):=h.ltB;have hb:=h.ltB;have HARG:=zH (show x.args=x.args from rfl);clear h hI hf ho hr hu hfu hw0 hna hv hnu HARG;unfold b99 at hk;unfold endJ at h0 h1 h2
 generalize x.args=args at *
 generalize x.tag=tg at *
 generalize x.steps=st at *
 generalize v.nb=nb at *
 have H0:Hid (Bl w (w.alloc dZ)/\(w.alloc dZ).heap[w.heap.size]?=some dZ/\w.heap.size<(w.alloc dZ).heap.size):=⟨below_alloc _ _,zN _ _,by simp⟩;go_enter Tryz.func83,Tryz.ntmps83
 go_upto_region 1 with fail
 obtain⟨w1,hw1⟩:∃ w1,w1=w.alloc dZ:=⟨_,rfl⟩
 rw[<- hw1]at H0;rw[show w.alloc (.cells #[.int .i64 0,.int .i64 0,.int .i64 0,.int .i64 0,.slice none 0 0,.int .i64 0,.int .i64 0,.slice none 0 0,.slice none 0 0,.slice none 0 0,.int .i64 0,.int .i64 0,.int .i64 0,.int .i64 0,.int .i64 0,.int .i64 0,.int .i64 0,.int .i64 0,.int .i64 0] 46)=w1 from hw1.symm];clear hw1
 go_cut [3] (fun v3 wc=>∃ g,v3=.pointer (some ⟨g,0,none⟩)/\Hid (∃ D,wc.heap[g]?=some (.cells (dC tg na x.m D (-1) nu 0 0 0 st) 46 (0,0))/\DdX wc (w.heap.size+1) g D args x.m/\Bl w wc/\wc.heap[w.heap.size]?=some dZ/\w.heap.size<g))
 case first =>
  have HS1:=HB.out _ H0.out.1;clear hk h0 h1 h2 HO HE HBP;refine aN1 (fun u=>u.cell? ⟨b,7,none⟩=some (.int .i64 tg)/\u.cell? ⟨b,8,none⟩=some (.slice z.pa na z.ca)/\u.cell? ⟨b,9,none⟩=some (.pointer (some ⟨z.bm,0,none⟩))/\u.cell? ⟨b,10,none⟩=some (.int .i64 st)/\u.cell? ⟨b,19,none⟩=some (.int .u64 nb)) ((0,true)::(1,true)::(2,true)::(3,true)::(4,true)::(5,true)::(6,true)::(7,true)::(9,true)::(10,true)::(11,true)::(12,true)::(13,true)::(14,true)::(15,true)::(16,true)::(17,true)::(19,true)::(20,true)::(21,true)::(22,true)::(24,true)::(25,true)::(26,true)::(27,true)::(29,true)::(30,true)::(31,true)::(32,true)::(8,false)::(18,false)::(23,false)::(28,false)::(33,true)::[]) 34 [(35,false)] Md.Cv.follows13 (by kernel_rfl) (fun _ _ _ _ _ h=>h) HS1 ?_
  (repeat (refine aN0 (v:=?_) rfl (by rfl) (fun wq hSq=>?_) ?_;rotate_left;(focus ((try dsimp only at hSq);go_simp;try with_reducible rfl));simp only[Act.put,zA,zB,zC]))
  rw[Go.IntWalk.i64_left,HNB.out];obtain⟨w2,hw2⟩:∃ w2,w2=w1.drew:=⟨_,rfl⟩
  have Bw2:Hid (Bl w1 w2):=by rw[hw2];exact(Same.drew w1).below _
  have Ww2:Hid (Bl w w2):=a01 H0.out.1 Bw2.out;rw[<- hw2];clear hw2;refine aG9 rfl (by rfl) (fun KK hK=>?_) ?_
  ·go_simp
   refine(HC.out _ Ww2.out).mono ?_;rintro e u0 ⟨p0,c0,rfl,a1,a2,a3⟩;have R0:Hid (_/\Abv w2.heap.size (fpR p0)/\Bl w2 u0):=⟨a1,a2,a3⟩;have Bu0:=zH (a01 Bw2.out a3);have Wu0:=zH (a01 Ww2.out a3);clear a1 a2 a3;refine hK.out _ _ (HB.out _ Wu0.out) ?_
   (clear hK KK;try simp only[Act.put,zA,zB,zC])
   refine aG9 rfl (by rfl) (fun KK hK=>?_) ?_
   ·go_simp
    refine(HR.out _ Wu0.out).mono ?_;rintro e u1 ⟨p1,c1,rfl,a1,a2,a3⟩;have R1:Hid (_/\Abv u0.heap.size (fpR p1)/\Bl u0 u1):=⟨a1,a2,a3⟩;have Bu1:=zH (a01 Bu0.out a3);have Wu1:=zH (a01 Wu0.out a3);clear a1 a2 a3;refine hK.out _ _ (HB.out _ Wu1.out) ?_
    (clear hK KK;try simp only[Act.put,zA,zB,zC])
    refine aG9 rfl (by rfl) (fun KK hK=>?_) ?_
    ·go_simp
     refine(HWR.out _ Wu1.out).mono ?_;rintro e u2 ⟨p2,c2,rfl,a1,a2,a3⟩;have R2:Hid (_/\Abv u1.heap.size (fpR p2)/\Bl u1 u2):=⟨a1,a2,a3⟩;have Bu2:=zH (a01 Bu1.out a3);have Wu2:=zH (a01 Wu1.out a3);clear a1 a2 a3;refine hK.out _ _ (HB.out _ Wu2.out) ?_
     (clear hK KK;try simp only[Act.put,zA,zB,zC])
     refine aG9 rfl (by rfl) (fun KK hK=>?_) ?_
     ·go_simp
      refine(HOU.out _ Wu2.out).mono ?_;rintro e u3 ⟨p3,c3,rfl,a1,a2,a3⟩;have R3:Hid (_/\Abv u2.heap.size (fpR p3)/\Bl u2 u3):=⟨a1,a2,a3⟩;have Bu3:=zH (a01 Bu2.out a3);have Wu3:=zH (a01 Wu2.out a3);clear a1 a2 a3;refine hK.out _ _ (HB.out _ Wu3.out) ?_
      (clear hK KK;try simp only[Act.put,zA,zB,zC])
      (repeat (refine aN0 (v:=?_) rfl (by rfl) (fun wq hSq=>?_) ?_;rotate_left;(focus ((try dsimp only at hSq);go_simp;try with_reducible rfl));simp only[Act.put,zA,zB,zC]))
      refine bs8 ?_
      (refine a05 rfl (by rfl) (fun KK hK=>?_);go_simp)
      obtain⟨v4,hv4⟩:∃ v4,v4=u3.alloc dZ:=⟨_,rfl⟩
      have Av4:Hid (Bl u3 v4/\v4.heap[u3.heap.size]?=some dZ/\u3.heap.size<v4.heap.size):=by rw[hv4];exact⟨below_alloc _ _,zN _ _,by simp⟩
      have Bv4:=zH (a01 Bu3.out Av4.out.1);have Wv4:=zH (a01 Wu3.out Av4.out.1);rw[show u3.alloc (.cells #[.int .i64 0,.int .i64 0,.int .i64 0,.int .i64 0,.slice none 0 0,.int .i64 0,.int .i64 0,.slice none 0 0,.slice none 0 0,.slice none 0 0,.int .i64 0,.int .i64 0,.int .i64 0,.int .i64 0,.int .i64 0,.int .i64 0,.int .i64 0,.int .i64 0,.int .i64 0] 46)=v4 from hv4.symm];clear hv4;refine hK.out _ _ (HB.out _ Wv4.out) ?_
      (clear hK KK;try simp only[Act.put,zA,zB,zC])
      have XB:Hid (v4.heap[u3.heap.size]?=some dZ):=((zF v4.heap.size v4).block _ (lt_of_block Av4.out.2.1)).trans Av4.out.2.1;have HDD:Hid (DdX (v4.setRow u3.heap.size (dC tg na x.m ⟨p0,c0,p1,c1,p2,c2,p3,c3⟩ (-1) nu 0 0 0 st)) (w.heap.size+1) u3.heap.size ⟨p0,c0,p1,c1,p2,c2,p3,c3⟩ args x.m):=⟨⟨(R0.out.1.on (a01 (a01 (a01 (a01 (zF u0.heap.size u0) R1.out.2.2) R2.out.2.2) R3.out.2.2) Av4.out.1)).keep (a99 (a65 R0.out.1.blw (a01 (a01 (a01 (zF u0.heap.size u0) R1.out.2.2) R2.out.2.2) R3.out.2.2).size)),(R1.out.1.on (a01 (a01 (a01 (zF u1.heap.size u1) R2.out.2.2) R3.out.2.2) Av4.out.1)).keep (a99 (a65 R1.out.1.blw (a01 (a01 (zF u1.heap.size u1) R2.out.2.2) R3.out.2.2).size)),(R2.out.1.on (a01 (a01 (zF u2.heap.size u2) R3.out.2.2) Av4.out.1)).keep (a99 (a65 R2.out.1.blw (a01 (zF u2.heap.size u2) R3.out.2.2).size)),(R3.out.1.on (a01 (zF u3.heap.size u3) Av4.out.1)).keep (a99 (a65 R3.out.1.blw (zF u3.heap.size u3).size)),R0.out.2.1.mono (by have:=Bw2.out.size;have:=H0.out.2.2;omega),R1.out.2.1.mono (by have:=Bu0.out.size;have:=H0.out.2.2;omega),R2.out.2.1.mono (by have:=Bu1.out.size;have:=H0.out.2.2;omega),R3.out.2.1.mono (by have:=Bu2.out.size;have:=H0.out.2.2;omega)⟩,a65 R0.out.1.blw (a01 (a01 (a01 (zF u0.heap.size u0) R1.out.2.2) R2.out.2.2) R3.out.2.2).size,a65 R1.out.1.blw (a01 (a01 (zF u1.heap.size u1) R2.out.2.2) R3.out.2.2).size,a65 R2.out.1.blw (a01 (zF u2.heap.size u2) R3.out.2.2).size,a65 R3.out.1.blw (zF u3.heap.size u3).size⟩;have HGW:Hid (w.heap.size<u3.heap.size/\b≠u3.heap.size):=⟨by have:=Bu3.out.size;have:=H0.out.2.2;omega,fun y=>by have:=Wu3.out.size;have:=HLB.out;omega⟩;refine a05 rfl (by rfl) (fun KK hK=>?_);refine wp_store_row 46 _ _ rfl u3.heap.size (dC tg na x.m ⟨p0,c0,p1,c1,p2,c2,p3,c3⟩ (-1) nu 0 0 0 st) rfl rfl _ _ XB.out deedInfo rfl (a75 _ _ _ _ _ _ _ _ _ _) ?_;obtain⟨s7,s8,s9,s10,s19⟩:=HB.out _ Wv4.out;have O:∀ j,(v4.setRow u3.heap.size (dC tg na x.m ⟨p0,c0,p1,c1,p2,c2,p3,c3⟩ (-1) nu 0 0 0 st)).cell? ⟨b,j,none⟩=v4.cell? ⟨b,j,none⟩:=fun j=>cell_setRow_other _ _ _ _ HGW.out.2
      refine hK.out _ _ ⟨(O 7).trans s7,(O 8).trans s8,(O 9).trans s9,(O 10).trans s10,(O 19).trans s19⟩ ?_;clear O
      (clear hK KK;try simp only[Act.put])
      refine a13 ?_;go_wp2_with fail
      go_meet
      exact⟨_,rfl,⟨p0,c0,p1,c1,p2,c2,p3,c3⟩,setRow_heap _ _ _ _ _ _ XB.out,HDD.out,Md.Ce.bl_setRow Wv4.out (by have:=HGW.out.1;omega) _,(setRow_other _ _ _ _ (by have:=HGW.out.1;omega)).trans ((Bv4.out.block _ H0.out.2.2).trans H0.out.2.1),HGW.out.1⟩
     ·rw[show ∀ (a b:List (Nat × Bool)),a ++ b=List.append a b from fun _ _=>rfl]
      dsimp only[List.append]
      (refine a05 rfl (by rfl) (fun KK hK=>?_);go_simp)
      obtain⟨v3,hv3⟩:∃ v3,v3=u2.alloc dZ:=⟨_,rfl⟩
      have Av3:Hid (Bl u2 v3/\v3.heap[u2.heap.size]?=some dZ/\u2.heap.size<v3.heap.size):=by rw[hv3];exact⟨below_alloc _ _,zN _ _,by simp⟩
      have Bv3:=zH (a01 Bu2.out Av3.out.1);have Wv3:=zH (a01 Wu2.out Av3.out.1);rw[show u2.alloc (.cells #[.int .i64 0,.int .i64 0,.int .i64 0,.int .i64 0,.slice none 0 0,.int .i64 0,.int .i64 0,.slice none 0 0,.slice none 0 0,.slice none 0 0,.int .i64 0,.int .i64 0,.int .i64 0,.int .i64 0,.int .i64 0,.int .i64 0,.int .i64 0,.int .i64 0,.int .i64 0] 46)=v3 from hv3.symm];clear hv3;refine hK.out _ _ (HB.out _ Wv3.out) ?_
      (clear hK KK;try simp only[Act.put,zA,zB,zC])
      (refine a05 rfl (by rfl) (fun KK hK=>?_);go_simp)
      refine(HOU.out _ Wv3.out).mono ?_;rintro e u3 ⟨p3,c3,rfl,a1,a2,a3⟩;have R3:Hid (_/\Abv v3.heap.size (fpR p3)/\Bl v3 u3):=⟨a1,a2,a3⟩;have Bu3:=zH (a01 Bv3.out a3);have Wu3:=zH (a01 Wv3.out a3);clear a1 a2 a3;refine hK.out _ _ (HB.out _ Wu3.out) ?_
      (clear hK KK;try simp only[Act.put,zA,zB,zC])
      (repeat ((first | (refine a02 (v:=?_) rfl (by rfl) (fun wq hSq=>?_) ?_;rotate_left;(focus ((try dsimp only at hSq);go_simp;try with_reducible rfl))) | refine a03 rfl (by rfl) ?_);simp only[Act.put,zA,zB,zC]))
      have XB:Hid (u3.heap[u2.heap.size]?=some dZ):=((a01 (zF v3.heap.size v3) R3.out.2.2).block _ (lt_of_block Av3.out.2.1)).trans Av3.out.2.1;have HDD:Hid (DdX (u3.setRow u2.heap.size (dC tg na x.m ⟨p0,c0,p1,c1,p2,c2,p3,c3⟩ (-1) nu 0 0 0 st)) (w.heap.size+1) u2.heap.size ⟨p0,c0,p1,c1,p2,c2,p3,c3⟩ args x.m):=⟨⟨(R0.out.1.on (a01 (a01 (a01 (a01 (zF u0.heap.size u0) R1.out.2.2) R2.out.2.2) Av3.out.1) R3.out.2.2)).keep (a99 (a65 R0.out.1.blw (a01 (a01 (zF u0.heap.size u0) R1.out.2.2) R2.out.2.2).size)),(R1.out.1.on (a01 (a01 (a01 (zF u1.heap.size u1) R2.out.2.2) Av3.out.1) R3.out.2.2)).keep (a99 (a65 R1.out.1.blw (a01 (zF u1.heap.size u1) R2.out.2.2).size)),(R2.out.1.on (a01 (a01 (zF u2.heap.size u2) Av3.out.1) R3.out.2.2)).keep (a99 (a65 R2.out.1.blw (zF u2.heap.size u2).size)),(R3.out.1.on (zF u3.heap.size u3)).keep (a99 (a64 R3.out.2.1 (zL Av3.out.2.2 (zF v3.heap.size v3).size))),R0.out.2.1.mono (by have:=Bw2.out.size;have:=H0.out.2.2;omega),R1.out.2.1.mono (by have:=Bu0.out.size;have:=H0.out.2.2;omega),R2.out.2.1.mono (by have:=Bu1.out.size;have:=H0.out.2.2;omega),R3.out.2.1.mono (by have:=Bv3.out.size;have:=H0.out.2.2;omega)⟩,a65 R0.out.1.blw (a01 (a01 (zF u0.heap.size u0) R1.out.2.2) R2.out.2.2).size,a65 R1.out.1.blw (a01 (zF u1.heap.size u1) R2.out.2.2).size,a65 R2.out.1.blw (zF u2.heap.size u2).size,a64 R3.out.2.1 (zL Av3.out.2.2 (zF v3.heap.size v3).size)⟩;have HGW:Hid (w.heap.size<u2.heap.size/\b≠u2.heap.size):=⟨by have:=Bu2.out.size;have:=H0.out.2.2;omega,fun y=>by have:=Wu2.out.size;have:=HLB.out;omega⟩;refine a05 rfl (by rfl) (fun KK hK=>?_);refine wp_store_row 46 _ _ rfl u2.heap.size (dC tg na x.m ⟨p0,c0,p1,c1,p2,c2,p3,c3⟩ (-1) nu 0 0 0 st) rfl rfl _ _ XB.out deedInfo rfl (a75 _ _ _ _ _ _ _ _ _ _) ?_;obtain⟨s7,s8,s9,s10,s19⟩:=HB.out _ Wu3.out;have O:∀ j,(u3.setRow u2.heap.size (dC tg na x.m ⟨p0,c0,p1,c1,p2,c2,p3,c3⟩ (-1) nu 0 0 0 st)).cell? ⟨b,j,none⟩=u3.cell? ⟨b,j,none⟩:=fun j=>cell_setRow_other _ _ _ _ HGW.out.2
      refine hK.out _ _ ⟨(O 7).trans s7,(O 8).trans s8,(O 9).trans s9,(O 10).trans s10,(O 19).trans s19⟩ ?_;clear O
      (clear hK KK;try simp only[Act.put])
      refine a13 ?_;go_wp2_with fail
      go_meet
      exact⟨_,rfl,⟨p0,c0,p1,c1,p2,c2,p3,c3⟩,setRow_heap _ _ _ _ _ _ XB.out,HDD.out,Md.Ce.bl_setRow Wu3.out (by have:=HGW.out.1;omega) _,(setRow_other _ _ _ _ (by have:=HGW.out.1;omega)).trans ((Bu3.out.block _ H0.out.2.2).trans H0.out.2.1),HGW.out.1⟩
    ·rw[show ∀ (a b:List (Nat × Bool)),a ++ b=List.append a b from fun _ _=>rfl]
     dsimp only[List.append]
     (refine a05 rfl (by rfl) (fun KK hK=>?_);go_simp)
     obtain⟨v2,hv2⟩:∃ v2,v2=u1.alloc dZ:=⟨_,rfl⟩
     have Av2:Hid (Bl u1 v2/\v2.heap[u1.heap.size]?=some dZ/\u1.heap.size<v2.heap.size):=by rw[hv2];exact⟨below_alloc _ _,zN _ _,by simp⟩
     have Bv2:=zH (a01 Bu1.out Av2.out.1);have Wv2:=zH (a01 Wu1.out Av2.out.1);rw[show u1.alloc (.cells #[.int .i64 0,.int .i64 0,.int .i64 0,.int .i64 0,.slice none 0 0,.int .i64 0,.int .i64 0,.slice none 0 0,.slice none 0 0,.slice none 0 0,.int .i64 0,.int .i64 0,.int .i64 0,.int .i64 0,.int .i64 0,.int .i64 0,.int .i64 0,.int .i64 0,.int .i64 0] 46)=v2 from hv2.symm];clear hv2;refine hK.out _ _ (HB.out _ Wv2.out) ?_
     (clear hK KK;try simp only[Act.put,zA,zB,zC])
     (refine a05 rfl (by rfl) (fun KK hK=>?_);go_simp)
     refine(HWR.out _ Wv2.out).mono ?_;rintro e u2 ⟨p2,c2,rfl,a1,a2,a3⟩;have R2:Hid (_/\Abv v2.heap.size (fpR p2)/\Bl v2 u2):=⟨a1,a2,a3⟩;have Bu2:=zH (a01 Bv2.out a3);have Wu2:=zH (a01 Wv2.out a3);clear a1 a2 a3;refine hK.out _ _ (HB.out _ Wu2.out) ?_
     (clear hK KK;try simp only[Act.put,zA,zB,zC])
     (refine a05 rfl (by rfl) (fun KK hK=>?_);go_simp)
     refine(HOU.out _ Wu2.out).mono ?_;rintro e u3 ⟨p3,c3,rfl,a1,a2,a3⟩;have R3:Hid (_/\Abv u2.heap.size (fpR p3)/\Bl u2 u3):=⟨a1,a2,a3⟩;have Bu3:=zH (a01 Bu2.out a3);have Wu3:=zH (a01 Wu2.out a3);clear a1 a2 a3;refine hK.out _ _ (HB.out _ Wu3.out) ?_
     (clear hK KK;try simp only[Act.put,zA,zB,zC])
     (repeat ((first | (refine a02 (v:=?_) rfl (by rfl) (fun wq hSq=>?_) ?_;rotate_left;(focus ((try dsimp only at hSq);go_simp;try with_reducible rfl))) | refine a03 rfl (by rfl) ?_);simp only[Act.put,zA,zB,zC]))
     have XB:Hid (u3.heap[u1.heap.size]?=some dZ):=((a01 (a01 (zF v2.heap.size v2) R2.out.2.2) R3.out.2.2).block _ (lt_of_block Av2.out.2.1)).trans Av2.out.2.1;have HDD:Hid (DdX (u3.setRow u1.heap.size (dC tg na x.m ⟨p0,c0,p1,c1,p2,c2,p3,c3⟩ (-1) nu 0 0 0 st)) (w.heap.size+1) u1.heap.size ⟨p0,c0,p1,c1,p2,c2,p3,c3⟩ args x.m):=⟨⟨(R0.out.1.on (a01 (a01 (a01 (a01 (zF u0.heap.size u0) R1.out.2.2) Av2.out.1) R2.out.2.2) R3.out.2.2)).keep (a99 (a65 R0.out.1.blw (a01 (zF u0.heap.size u0) R1.out.2.2).size)),(R1.out.1.on (a01 (a01 (a01 (zF u1.heap.size u1) Av2.out.1) R2.out.2.2) R3.out.2.2)).keep (a99 (a65 R1.out.1.blw (zF u1.heap.size u1).size)),(R2.out.1.on (a01 (zF u2.heap.size u2) R3.out.2.2)).keep (a99 (a64 R2.out.2.1 (zL Av2.out.2.2 (zF v2.heap.size v2).size))),(R3.out.1.on (zF u3.heap.size u3)).keep (a99 (a64 R3.out.2.1 (zL Av2.out.2.2 (a01 (zF v2.heap.size v2) R2.out.2.2).size))),R0.out.2.1.mono (by have:=Bw2.out.size;have:=H0.out.2.2;omega),R1.out.2.1.mono (by have:=Bu0.out.size;have:=H0.out.2.2;omega),R2.out.2.1.mono (by have:=Bv2.out.size;have:=H0.out.2.2;omega),R3.out.2.1.mono (by have:=Bu2.out.size;have:=H0.out.2.2;omega)⟩,a65 R0.out.1.blw (a01 (zF u0.heap.size u0) R1.out.2.2).size,a65 R1.out.1.blw (zF u1.heap.size u1).size,a64 R2.out.2.1 (zL Av2.out.2.2 (zF v2.heap.size v2).size),a64 R3.out.2.1 (zL Av2.out.2.2 (a01 (zF v2.heap.size v2) R2.out.2.2).size)⟩;have HGW:Hid (w.heap.size<u1.heap.size/\b≠u1.heap.size):=⟨by have:=Bu1.out.size;have:=H0.out.2.2;omega,fun y=>by have:=Wu1.out.size;have:=HLB.out;omega⟩;refine a05 rfl (by rfl) (fun KK hK=>?_);refine wp_store_row 46 _ _ rfl u1.heap.size (dC tg na x.m ⟨p0,c0,p1,c1,p2,c2,p3,c3⟩ (-1) nu 0 0 0 st) rfl rfl _ _ XB.out deedInfo rfl (a75 _ _ _ _ _ _ _ _ _ _) ?_;obtain⟨s7,s8,s9,s10,s19⟩:=HB.out _ Wu3.out;have O:∀ j,(u3.setRow u1.heap.size (dC tg na x.m ⟨p0,c0,p1,c1,p2,c2,p3,c3⟩ (-1) nu 0 0 0 st)).cell? ⟨b,j,none⟩=u3.cell? ⟨b,j,none⟩:=fun j=>cell_setRow_other _ _ _ _ HGW.out.2
     refine hK.out _ _ ⟨(O 7).trans s7,(O 8).trans s8,(O 9).trans s9,(O 10).trans s10,(O 19).trans s19⟩ ?_;clear O
     (clear hK KK;try simp only[Act.put])
     refine a13 ?_;go_wp2_with fail
     go_meet
     exact⟨_,rfl,⟨p0,c0,p1,c1,p2,c2,p3,c3⟩,setRow_heap _ _ _ _ _ _ XB.out,HDD.out,Md.Ce.bl_setRow Wu3.out (by have:=HGW.out.1;omega) _,(setRow_other _ _ _ _ (by have:=HGW.out.1;omega)).trans ((Bu3.out.block _ H0.out.2.2).trans H0.out.2.1),HGW.out.1⟩
   ·rw[show ∀ (a b:List (Nat × Bool)),a ++ b=List.append a b from fun _ _=>rfl]
    dsimp only[List.append]
    (refine a05 rfl (by rfl) (fun KK hK=>?_);go_simp)
    obtain⟨v1,hv1⟩:∃ v1,v1=u0.alloc dZ:=⟨_,rfl⟩
    have Av1:Hid (Bl u0 v1/\v1.heap[u0.heap.size]?=some dZ/\u0.heap.size<v1.heap.size):=by rw[hv1];exact⟨below_alloc _ _,zN _ _,by simp⟩
    have Bv1:=zH (a01 Bu0.out Av1.out.1);have Wv1:=zH (a01 Wu0.out Av1.out.1);rw[show u0.alloc (.cells #[.int .i64 0,.int .i64 0,.int .i64 0,.int .i64 0,.slice none 0 0,.int .i64 0,.int .i64 0,.slice none 0 0,.slice none 0 0,.slice none 0 0,.int .i64 0,.int .i64 0,.int .i64 0,.int .i64 0,.int .i64 0,.int .i64 0,.int .i64 0,.int .i64 0,.int .i64 0] 46)=v1 from hv1.symm];clear hv1;refine hK.out _ _ (HB.out _ Wv1.out) ?_
    (clear hK KK;try simp only[Act.put,zA,zB,zC])
    (refine a05 rfl (by rfl) (fun KK hK=>?_);go_simp)
    refine(HR.out _ Wv1.out).mono ?_;rintro e u1 ⟨p1,c1,rfl,a1,a2,a3⟩;have R1:Hid (_/\Abv v1.heap.size (fpR p1)/\Bl v1 u1):=⟨a1,a2,a3⟩;have Bu1:=zH (a01 Bv1.out a3);have Wu1:=zH (a01 Wv1.out a3);clear a1 a2 a3;refine hK.out _ _ (HB.out _ Wu1.out) ?_
    (clear hK KK;try simp only[Act.put,zA,zB,zC])
    (refine a05 rfl (by rfl) (fun KK hK=>?_);go_simp)
    refine(HWR.out _ Wu1.out).mono ?_;rintro e u2 ⟨p2,c2,rfl,a1,a2,a3⟩;have R2:Hid (_/\Abv u1.heap.size (fpR p2)/\Bl u1 u2):=⟨a1,a2,a3⟩;have Bu2:=zH (a01 Bu1.out a3);have Wu2:=zH (a01 Wu1.out a3);clear a1 a2 a3;refine hK.out _ _ (HB.out _ Wu2.out) ?_
    (clear hK KK;try simp only[Act.put,zA,zB,zC])
    (refine a05 rfl (by rfl) (fun KK hK=>?_);go_simp)
    refine(HOU.out _ Wu2.out).mono ?_;rintro e u3 ⟨p3,c3,rfl,a1,a2,a3⟩;have R3:Hid (_/\Abv u2.heap.size (fpR p3)/\Bl u2 u3):=⟨a1,a2,a3⟩;have Bu3:=zH (a01 Bu2.out a3);have Wu3:=zH (a01 Wu2.out a3);clear a1 a2 a3;refine hK.out _ _ (HB.out _ Wu3.out) ?_
    (clear hK KK;try simp only[Act.put,zA,zB,zC])
    (repeat ((first | (refine a02 (v:=?_) rfl (by rfl) (fun wq hSq=>?_) ?_;rotate_left;(focus ((try dsimp only at hSq);go_simp;try with_reducible rfl))) | refine a03 rfl (by rfl) ?_);simp only[Act.put,zA,zB,zC]))
    have XB:Hid (u3.heap[u0.heap.size]?=some dZ):=((a01 (a01 (a01 (zF v1.heap.size v1) R1.out.2.2) R2.out.2.2) R3.out.2.2).block _ (lt_of_block Av1.out.2.1)).trans Av1.out.2.1;have HDD:Hid (DdX (u3.setRow u0.heap.size (dC tg na x.m ⟨p0,c0,p1,c1,p2,c2,p3,c3⟩ (-1) nu 0 0 0 st)) (w.heap.size+1) u0.heap.size ⟨p0,c0,p1,c1,p2,c2,p3,c3⟩ args x.m):=⟨⟨(R0.out.1.on (a01 (a01 (a01 (a01 (zF u0.heap.size u0) Av1.out.1) R1.out.2.2) R2.out.2.2) R3.out.2.2)).keep (a99 (a65 R0.out.1.blw (zF u0.heap.size u0).size)),(R1.out.1.on (a01 (a01 (zF u1.heap.size u1) R2.out.2.2) R3.out.2.2)).keep (a99 (a64 R1.out.2.1 (zL Av1.out.2.2 (zF v1.heap.size v1).size))),(R2.out.1.on (a01 (zF u2.heap.size u2) R3.out.2.2)).keep (a99 (a64 R2.out.2.1 (zL Av1.out.2.2 (a01 (zF v1.heap.size v1) R1.out.2.2).size))),(R3.out.1.on (zF u3.heap.size u3)).keep (a99 (a64 R3.out.2.1 (zL Av1.out.2.2 (a01 (a01 (zF v1.heap.size v1) R1.out.2.2) R2.out.2.2).size))),R0.out.2.1.mono (by have:=Bw2.out.size;have:=H0.out.2.2;omega),R1.out.2.1.mono (by have:=Bv1.out.size;have:=H0.out.2.2;omega),R2.out.2.1.mono (by have:=Bu1.out.size;have:=H0.out.2.2;omega),R3.out.2.1.mono (by have:=Bu2.out.size;have:=H0.out.2.2;omega)⟩,a65 R0.out.1.blw (zF u0.heap.size u0).size,a64 R1.out.2.1 (zL Av1.out.2.2 (zF v1.heap.size v1).size),a64 R2.out.2.1 (zL Av1.out.2.2 (a01 (zF v1.heap.size v1) R1.out.2.2).size),a64 R3.out.2.1 (zL Av1.out.2.2 (a01 (a01 (zF v1.heap.size v1) R1.out.2.2) R2.out.2.2).size)⟩;have HGW:Hid (w.heap.size<u0.heap.size/\b≠u0.heap.size):=⟨by have:=Bu0.out.size;have:=H0.out.2.2;omega,fun y=>by have:=Wu0.out.size;have:=HLB.out;omega⟩;refine a05 rfl (by rfl) (fun KK hK=>?_);refine wp_store_row 46 _ _ rfl u0.heap.size (dC tg na x.m ⟨p0,c0,p1,c1,p2,c2,p3,c3⟩ (-1) nu 0 0 0 st) rfl rfl _ _ XB.out deedInfo rfl (a75 _ _ _ _ _ _ _ _ _ _) ?_;obtain⟨s7,s8,s9,s10,s19⟩:=HB.out _ Wu3.out;have O:∀ j,(u3.setRow u0.heap.size (dC tg na x.m ⟨p0,c0,p1,c1,p2,c2,p3,c3⟩ (-1) nu 0 0 0 st)).cell? ⟨b,j,none⟩=u3.cell? ⟨b,j,none⟩:=fun j=>cell_setRow_other _ _ _ _ HGW.out.2
    refine hK.out _ _ ⟨(O 7).trans s7,(O 8).trans s8,(O 9).trans s9,(O 10).trans s10,(O 19).trans s19⟩ ?_;clear O
    (clear hK KK;try simp only[Act.put])
    refine a13 ?_;go_wp2_with fail
    go_meet
    exact⟨_,rfl,⟨p0,c0,p1,c1,p2,c2,p3,c3⟩,setRow_heap _ _ _ _ _ _ XB.out,HDD.out,Md.Ce.bl_setRow Wu3.out (by have:=HGW.out.1;omega) _,(setRow_other _ _ _ _ (by have:=HGW.out.1;omega)).trans ((Bu3.out.block _ H0.out.2.2).trans H0.out.2.1),HGW.out.1⟩
  ·rw[show ∀ (a b:List (Nat × Bool)),a ++ b=List.append a b from fun _ _=>rfl]
   dsimp only[List.append]
   (refine a05 rfl (by rfl) (fun KK hK=>?_);go_simp)
   obtain⟨v0,hv0⟩:∃ v0,v0=w2.alloc dZ:=⟨_,rfl⟩
   have Av0:Hid (Bl w2 v0/\v0.heap[w2.heap.size]?=some dZ/\w2.heap.size<v0.heap.size):=by rw[hv0];exact⟨below_alloc _ _,zN _ _,by simp⟩
   have Bv0:=zH (a01 Bw2.out Av0.out.1);have Wv0:=zH (a01 Ww2.out Av0.out.1);rw[show w2.alloc (.cells #[.int .i64 0,.int .i64 0,.int .i64 0,.int .i64 0,.slice none 0 0,.int .i64 0,.int .i64 0,.slice none 0 0,.slice none 0 0,.slice none 0 0,.int .i64 0,.int .i64 0,.int .i64 0,.int .i64 0,.int .i64 0,.int .i64 0,.int .i64 0,.int .i64 0,.int .i64 0] 46)=v0 from hv0.symm];clear hv0;refine hK.out _ _ (HB.out _ Wv0.out) ?_
   (clear hK KK;try simp only[Act.put,zA,zB,zC])
   (refine a05 rfl (by rfl) (fun KK hK=>?_);go_simp)
   refine(HC.out _ Wv0.out).mono ?_;rintro e u0 ⟨p0,c0,rfl,a1,a2,a3⟩;have R0:Hid (_/\Abv v0.heap.size (fpR p0)/\Bl v0 u0):=⟨a1,a2,a3⟩;have Bu0:=zH (a01 Bv0.out a3);have Wu0:=zH (a01 Wv0.out a3);clear a1 a2 a3;refine hK.out _ _ (HB.out _ Wu0.out) ?_
   (clear hK KK;try simp only[Act.put,zA,zB,zC])
   (refine a05 rfl (by rfl) (fun KK hK=>?_);go_simp)
   refine(HR.out _ Wu0.out).mono ?_;rintro e u1 ⟨p1,c1,rfl,a1,a2,a3⟩;have R1:Hid (_/\Abv u0.heap.size (fpR p1)/\Bl u0 u1):=⟨a1,a2,a3⟩;have Bu1:=zH (a01 Bu0.out a3);have Wu1:=zH (a01 Wu0.out a3);clear a1 a2 a3;refine hK.out _ _ (HB.out _ Wu1.out) ?_
   (clear hK KK;try simp only[Act.put,zA,zB,zC])
   (refine a05 rfl (by rfl) (fun KK hK=>?_);go_simp)
   refine(HWR.out _ Wu1.out).mono ?_;rintro e u2 ⟨p2,c2,rfl,a1,a2,a3⟩;have R2:Hid (_/\Abv u1.heap.size (fpR p2)/\Bl u1 u2):=⟨a1,a2,a3⟩;have Bu2:=zH (a01 Bu1.out a3);have Wu2:=zH (a01 Wu1.out a3);clear a1 a2 a3;refine hK.out _ _ (HB.out _ Wu2.out) ?_
   (clear hK KK;try simp only[Act.put,zA,zB,zC])
   (refine a05 rfl (by rfl) (fun KK hK=>?_);go_simp)
   refine(HOU.out _ Wu2.out).mono ?_;rintro e u3 ⟨p3,c3,rfl,a1,a2,a3⟩;have R3:Hid (_/\Abv u2.heap.size (fpR p3)/\Bl u2 u3):=⟨a1,a2,a3⟩;have Bu3:=zH (a01 Bu2.out a3);have Wu3:=zH (a01 Wu2.out a3);clear a1 a2 a3;refine hK.out _ _ (HB.out _ Wu3.out) ?_
   (clear hK KK;try simp only[Act.put,zA,zB,zC])
   (repeat ((first | (refine a02 (v:=?_) rfl (by rfl) (fun wq hSq=>?_) ?_;rotate_left;(focus ((try dsimp only at hSq);go_simp;try with_reducible rfl))) | refine a03 rfl (by rfl) ?_);simp only[Act.put,zA,zB,zC]))
   have XB:Hid (u3.heap[w2.heap.size]?=some dZ):=((a01 (a01 (a01 (a01 (zF v0.heap.size v0) R0.out.2.2) R1.out.2.2) R2.out.2.2) R3.out.2.2).block _ (lt_of_block Av0.out.2.1)).trans Av0.out.2.1;have HDD:Hid (DdX (u3.setRow w2.heap.size (dC tg na x.m ⟨p0,c0,p1,c1,p2,c2,p3,c3⟩ (-1) nu 0 0 0 st)) (w.heap.size+1) w2.heap.size ⟨p0,c0,p1,c1,p2,c2,p3,c3⟩ args x.m):=⟨⟨(R0.out.1.on (a01 (a01 (a01 (zF u0.heap.size u0) R1.out.2.2) R2.out.2.2) R3.out.2.2)).keep (a99 (a64 R0.out.2.1 (zL Av0.out.2.2 (zF v0.heap.size v0).size))),(R1.out.1.on (a01 (a01 (zF u1.heap.size u1) R2.out.2.2) R3.out.2.2)).keep (a99 (a64 R1.out.2.1 (zL Av0.out.2.2 (a01 (zF v0.heap.size v0) R0.out.2.2).size))),(R2.out.1.on (a01 (zF u2.heap.size u2) R3.out.2.2)).keep (a99 (a64 R2.out.2.1 (zL Av0.out.2.2 (a01 (a01 (zF v0.heap.size v0) R0.out.2.2) R1.out.2.2).size))),(R3.out.1.on (zF u3.heap.size u3)).keep (a99 (a64 R3.out.2.1 (zL Av0.out.2.2 (a01 (a01 (a01 (zF v0.heap.size v0) R0.out.2.2) R1.out.2.2) R2.out.2.2).size))),R0.out.2.1.mono (by have:=Bv0.out.size;have:=H0.out.2.2;omega),R1.out.2.1.mono (by have:=Bu0.out.size;have:=H0.out.2.2;omega),R2.out.2.1.mono (by have:=Bu1.out.size;have:=H0.out.2.2;omega),R3.out.2.1.mono (by have:=Bu2.out.size;have:=H0.out.2.2;omega)⟩,a64 R0.out.2.1 (zL Av0.out.2.2 (zF v0.heap.size v0).size),a64 R1.out.2.1 (zL Av0.out.2.2 (a01 (zF v0.heap.size v0) R0.out.2.2).size),a64 R2.out.2.1 (zL Av0.out.2.2 (a01 (a01 (zF v0.heap.size v0) R0.out.2.2) R1.out.2.2).size),a64 R3.out.2.1 (zL Av0.out.2.2 (a01 (a01 (a01 (zF v0.heap.size v0) R0.out.2.2) R1.out.2.2) R2.out.2.2).size)⟩;have HGW:Hid (w.heap.size<w2.heap.size/\b≠w2.heap.size):=⟨by have:=Bw2.out.size;have:=H0.out.2.2;omega,fun y=>by have:=Ww2.out.size;have:=HLB.out;omega⟩;refine a05 rfl (by rfl) (fun KK hK=>?_);refine wp_store_row 46 _ _ rfl w2.heap.size (dC tg na x.m ⟨p0,c0,p1,c1,p2,c2,p3,c3⟩ (-1) nu 0 0 0 st) rfl rfl _ _ XB.out deedInfo rfl (a75 _ _ _ _ _ _ _ _ _ _) ?_;obtain⟨s7,s8,s9,s10,s19⟩:=HB.out _ Wu3.out;have O:∀ j,(u3.setRow w2.heap.size (dC tg na x.m ⟨p0,c0,p1,c1,p2,c2,p3,c3⟩ (-1) nu 0 0 0 st)).cell? ⟨b,j,none⟩=u3.cell? ⟨b,j,none⟩:=fun j=>cell_setRow_other _ _ _ _ HGW.out.2
   refine hK.out _ _ ⟨(O 7).trans s7,(O 8).trans s8,(O 9).trans s9,(O 10).trans s10,(O 19).trans s19⟩ ?_;clear O
   (clear hK KK;try simp only[Act.put])
   refine a13 ?_;go_wp2_with fail
   go_meet
   exact⟨_,rfl,⟨p0,c0,p1,c1,p2,c2,p3,c3⟩,setRow_heap _ _ _ _ _ _ XB.out,HDD.out,Md.Ce.bl_setRow Wu3.out (by have:=HGW.out.1;omega) _,(setRow_other _ _ _ _ (by have:=HGW.out.1;omega)).trans ((Bu3.out.block _ H0.out.2.2).trans H0.out.2.1),HGW.out.1⟩
 case rest =>
  obtain⟨g,rfl,HQ⟩:=hcut;obtain⟨D,q1,q2,q3,q4,q5⟩:=HQ.out;have X:=zH q1;have XD:=zH q2;have XB:=zH q3;have XZ:=zH q4;have XG:Hid (w.heap.size≠g/\w.heap.size<=g):=⟨by omega,by omega⟩;obtain⟨e11,e13,e9,eb⟩:=HBP.out _ q3;clear HQ q1 q2 q3 q4 q5 HB HC HR HWR HOU HNB;obtain⟨mk',hmk'⟩:∃ mk',mk'=mk:=⟨_,rfl⟩
  have k5:wc.cell? ⟨g,5,none⟩=some (.int .i64 (-1)):=(zR _ _ 5 _ _ _ X.out).trans rfl;have f5:=zZ wc g 5 _ _ X.out;have lg:=lt_of_block X.out;have HM:Hid (∀ u,u=(if x.part=1 then wc else wc.setCell ⟨g,5,none⟩ (.int .i64 (wrap64 x.tick)))->u.heap[g]?=some (.cells (dC tg na x.m D mk nu 0 0 0 st) 46 (0,0))/\DdX u (w.heap.size+1) g D args x.m/\Bl w u/\u.heap[w.heap.size]?=some dZ):=fun u hu=>by
   by_cases e:x.part=1
   ·rw[if_pos e]at hu hk
    subst hu hk;exact⟨X.out,XD.out,XB.out,XZ.out⟩
   ·rw[if_neg e]at hu hk
    subst hu hk;exact⟨(zS wc g 5 _ _ _ X.out).trans rfl,XD.out.put _ _,XB.out.setCell XG.out.2 _,(zO _ _ _ _ XG.out.1).trans XZ.out⟩
  clear mk' hmk';have HFIN:Hid (∀ u a0 a1 a2,u.heap[g]?=some (.cells (dC tg na x.m D mk nu a0 a1 a2 st) 46 (0,0))/\DdX u (w.heap.size+1) g D args x.m/\Bl w u/\u.heap[w.heap.size]?=some dZ->DdAt (u.setRow w.heap.size (dC tg na x.m D mk nu a0 a1 a2 st)) w.heap.size D args x.m/\Bl w (u.setRow w.heap.size (dC tg na x.m D mk nu a0 a1 a2 st))):=fun u a0 a1 a2 q=>⟨(q.2.1.d.keep (fun i hi _=>setRow_other _ _ _ _ (by omega)) (by simp)).mono (by omega),Md.Ce.bl_setRow q.2.2.1 (zE _) _⟩
  by_cases p1:x.part=1
  ·have ne9:¬ (x.part:Int)=9:=by omega
   rw[if_neg (by omega)]at h0 h1 h2;subst h0 h1 h2;obtain⟨y1,y2,y3,y4⟩:=HM.out wc (by rw[if_pos p1]);have Y:=zH (And.intro y1 (And.intro y2 (And.intro y3 y4)));have t11:((x.part:Int) != 1)=false:=by simp[p1]
   rw[zU ne9]at HO;clear y1 y2 y3 y4 HM X XD XZ p1 hk k5 f5 ne9
   go_wp2_with (first
    | (refine wpList_store_row rfl 46 _ _ rfl w.heap.size (dC tg na x.m D mk nu 0 0 0 st) rfl rfl _ _ Y.out.2.2.2 deedInfo rfl (a75 _ _ _ _ _ _ _ _ _ _) ?_)
    | (refine wpList_load_row rfl 46 _ rfl g rfl _ (dC tg na x.m D mk nu 0 0 0 st) _ _ Y.out.1 Tryz.underlying46 rfl deedInfo ?_)
    | (go_at_call 99;refine(HO.out _ XB.out).mono ?_;rintro e u3 ⟨rfl,hw⟩;subst u3))
   refine ac8 (D:=D) (m:=x.m) rfl w.heap.size rfl (setRow_heap _ _ _ _ _ _ Y.out.2.2.2) rfl ⟨_,rfl,?_⟩;exact HFIN.out _ _ _ _ Y.out
  ·obtain⟨u1,hu1⟩:∃ u1,u1=wc.setCell ⟨g,5,none⟩ (.int .i64 (wrap64 x.tick)):=⟨_,rfl⟩
   obtain⟨y1,y2,y3,y4⟩:=HM.out u1 (by rw[if_neg p1];exact hu1);have Y:=zH (And.intro y1 (And.intro y2 (And.intro y3 y4)));have t11:((x.part:Int) != 1)=true:=by simp;omega
   have HU1:=zH hu1;obtain⟨_,_,z9,zb⟩:=HBP.out _ y3;have lgu:=lt_of_block y1;clear y1 y2 y3 y4 HM X XD XZ hu1
   by_cases p9:x.part=9
   ·rw[if_pos p9]at h0 h1 h2
    subst h0 h1 h2;rw[zT (by omega)]at HO;clear p1 p9 hk
    go_upto_region 4 with fail
    rw[<- HU1.out];clear HU1;have HEN:Hid (∀ u3,Bl u1 u3->(u3.cell? ⟨g,10,none⟩=some (.int .i64 0)/\u3.cell? ⟨g,11,none⟩=some (.int .i64 0)/\u3.cell? ⟨g,12,none⟩=some (.int .i64 0)/\u3.frozen? ⟨g,10,none⟩=false/\u3.frozen? ⟨g,11,none⟩=false/\u3.frozen? ⟨g,12,none⟩=false/\g<u3.heap.size)/\Hid ((((u3.setCell ⟨g,10,none⟩ (.int .i64 x.m.how)).setCell ⟨g,11,none⟩ (.int .i64 x.m.cod)).setCell ⟨g,12,none⟩ (.int .i64 x.m.err)).heap[g]?=some (.cells (dC tg na x.m D mk nu x.m.how x.m.cod x.m.err st) 46 (0,0))/\DdX (((u3.setCell ⟨g,10,none⟩ (.int .i64 x.m.how)).setCell ⟨g,11,none⟩ (.int .i64 x.m.cod)).setCell ⟨g,12,none⟩ (.int .i64 x.m.err)) (w.heap.size+1) g D args x.m/\Bl w (((u3.setCell ⟨g,10,none⟩ (.int .i64 x.m.how)).setCell ⟨g,11,none⟩ (.int .i64 x.m.cod)).setCell ⟨g,12,none⟩ (.int .i64 x.m.err))/\(((u3.setCell ⟨g,10,none⟩ (.int .i64 x.m.how)).setCell ⟨g,11,none⟩ (.int .i64 x.m.cod)).setCell ⟨g,12,none⟩ (.int .i64 x.m.err)).heap[w.heap.size]?=some dZ)):=fun u3 k=>by
     have hg:u3.heap[g]?=some (.cells (dC tg na x.m D mk nu 0 0 0 st) 46 (0,0)):=(k.block _ lgu).trans Y.out.1;have a1:=(zS u3 g 10 _ _ (.int .i64 x.m.how) hg).trans (show _=some (Obj.cells (dC tg na x.m D mk nu x.m.how 0 0 st) 46) from rfl);have a2:=(zS _ g 11 _ _ (.int .i64 x.m.cod) a1).trans (show _=some (Obj.cells (dC tg na x.m D mk nu x.m.how x.m.cod 0 st) 46) from rfl);have a3:=(zS _ g 12 _ _ (.int .i64 x.m.err) a2).trans (show _=some (Obj.cells (dC tg na x.m D mk nu x.m.how x.m.cod x.m.err st) 46) from rfl);refine⟨⟨(zR _ _ 10 _ _ _ hg).trans rfl,(zR _ _ 11 _ _ _ hg).trans rfl,(zR _ _ 12 _ _ _ hg).trans rfl,zZ _ _ _ _ _ hg,zZ _ _ _ _ _ hg,zZ _ _ _ _ _ hg,lt_of_block hg⟩,a3,(((Y.out.2.1.on k).put _ _).put _ _).put _ _,?_,?_⟩
     ·have hw:=a01 Y.out.2.2.1 k
      exact((hw.setCell XG.out.2 _).setCell XG.out.2 _).setCell XG.out.2 _
     ·exact(zO _ _ _ _ XG.out.1).trans ((zO _ _ _ _ XG.out.1).trans ((zO _ _ _ _ XG.out.1).trans ((k.block _ (lt_of_block Y.out.2.2.2)).trans Y.out.2.2.2)))
    go_wp2_with (first
     | (refine wpList_store_row rfl 46 _ _ rfl w.heap.size (dC tg na x.m D mk nu x.m.how x.m.cod x.m.err st) rfl rfl _ _ Z.out.2.2.2 deedInfo rfl (a75 _ _ _ _ _ _ _ _ _ _) ?_)
     | (refine wpList_load_row rfl 46 _ rfl g rfl _ (dC tg na x.m D mk nu x.m.how x.m.cod x.m.err st) _ _ Z.out.1 Tryz.underlying46 rfl deedInfo ?_)
     | (go_at_call 100;refine(HE.out _ Y.out.2.2.1).mono ?_;rintro e u4 ⟨rfl,q⟩;obtain⟨⟨k10,k11,k12,f10,f11,f12,l4⟩,Z⟩:=HEN.out _ q;clear q HEN)
     | (go_at_call 99;refine(HO.out _ Y.out.2.2.1).mono ?_;rintro e u3 ⟨rfl,hw⟩;subst u3))
    refine ac8 (D:=D) (m:=x.m) rfl w.heap.size rfl (setRow_heap _ _ _ _ _ _ Z.out.2.2.2) rfl ⟨_,rfl,?_⟩;exact HFIN.out _ _ _ _ Z.out
   ·rw[if_neg p9]at h0 h1 h2
    subst h0 h1 h2;rw[zU (by omega)]at HO;clear p1 p9 hk
    go_upto_region 4 with fail
    rw[<- HU1.out];clear HU1
    go_wp2_with (first
     | (refine wpList_store_row rfl 46 _ _ rfl w.heap.size (dC tg na x.m D mk nu 0 0 0 st) rfl rfl _ _ Y.out.2.2.2 deedInfo rfl (a75 _ _ _ _ _ _ _ _ _ _) ?_)
     | (refine wpList_load_row rfl 46 _ rfl g rfl _ (dC tg na x.m D mk nu 0 0 0 st) _ _ Y.out.1 Tryz.underlying46 rfl deedInfo ?_)
     | (go_at_call 99;refine(HO.out _ Y.out.2.2.1).mono ?_;rintro e u3 ⟨rfl,hw⟩;subst u3))
    refine ac8 (D:=D) (m:=x.m) rfl w.heap.size rfl (setRow_heap _ _ _ _ _ _ Y.out.2.2.2) rfl ⟨_,rfl,?_⟩;exact HFIN.out _ _ _ _ Y.out
end
end Go.Proofs.YtkihgongjedheaaGreatDoor.Ww
namespace Go.Proofs.YtkihgongjedheaaGreatDoor.En
open Go.ChangeShapes Go.WideShapes Go.ChangeAt Go.RowKit Num Ww
open Rr (Rx a16 InX okW u64B Alike step_in newX a44)
def TxAt (w:World) (b:Nat) (G K:List Nat):Ty->Prop
 | .inl (_,x)=>∃ z q F r,Rr.RawAt w b x z q F (Rr.comC x) r/\Rr.RdOk x q r/\G=Rr.gX b z q F/\K=z.KK
 | .inr (_,x)=>∃ z v,RawAt w b x z v/\VOk x v/\G=gY b v/\K=z.KK
def bK6:Ty->FuncId
 | .inl _=>248
 | .inr _=>245
def bN3:Ty->FuncId
 | .inl _=>247
 | .inr _=>83
def txT:Ty->TypeId
 | .inl _=>147
 | .inr _=>145
def txV (y:Ty) (b:Nat):Value:=.iface (txT y) (.pointer (some ⟨b,0,none⟩))
section
variable {w w':World} {b mb mg:Nat} {G K:List Nat} {y:Ty} {s:Su} {t:Nat} {N n:Int} {ws:List Int} {o:Bool}
theorem TxAt.blw (h:TxAt w b G K y):Blw w G:=by
 rcases y with⟨_,x⟩ | ⟨_,x⟩
 ·obtain⟨z,q,F,r,h1,_,rfl,_⟩:=h;exact h1.blw
 ·obtain⟨z,v,h1,_,rfl,_⟩:=h;exact h1.blw
theorem TxAt.blwK (h:TxAt w b G K y):Blw w K:=by
 rcases y with⟨_,x⟩ | ⟨_,x⟩
 ·obtain⟨z,q,F,r,h1,_,_,rfl⟩:=h;exact h1.blwK
 ·obtain⟨z,v,h1,_,_,rfl⟩:=h;exact h1.blwK
theorem TxAt.sep (h:TxAt w b G K y):Sep K G:=by
 rcases y with⟨_,x⟩ | ⟨_,x⟩
 ·obtain⟨z,q,F,r,h1,_,rfl,rfl⟩:=h;exact h1.sep
 ·obtain⟨z,v,h1,_,rfl,rfl⟩:=h;exact h1.sep
theorem TxAt.keep (h:TxAt w b G K y) (k:Kept G w w') (k2:Kept K w w'):TxAt w' b G K y:=by
 rcases y with⟨_,x⟩ | ⟨_,x⟩
 ·obtain⟨z,q,F,r,h1,h2,rfl,rfl⟩:=h;exact⟨z,q,F,r,h1.keep k k2,h2,rfl,rfl⟩
 ·obtain⟨z,v,h1,h2,rfl,rfl⟩:=h;exact⟨z,v,h1.keep k k2,h2,rfl,rfl⟩
theorem TxAt.on (h:TxAt w b G K y) (k:Bl w w'):TxAt w' b G K y:=h.keep (a26 k h.blw) (a26 k h.blwK)
def Went (w w':World) (b mb mg:Nat) (G K:List Nat) (y:Ty) (ws:List Int) (n:Int):Prop :=
 ∃ G' o',TxAt w' b G' K (goS y ws)/\MemAt 105 w' mb mg (goW y ws) o' (if goA y ws then up n else n)/\Sep [mb,mg] G'/\Turn (mb::mg::G) (mb::mg::G') w w'
theorem bF4 (h:TxAt w b G K y) (hm:MemAt 105 w mb mg ws o n) (s1:Sep [mb,mg] G) (s2:Sep [mb,mg] K) (hT:a91 w (mb::mg::G)) (hI:TIn s t N y) (ho:a38 y=false) (hw:okW ws) (hl:(ws.length:Int)=3+s.b+3*s.a) (hN:N<9223372036854775807) :
  Calls Tryz.prog (bK6 y) #[.pointer (some ⟨b,0,none⟩),.pointer (some ⟨mb,0,none⟩)] w fun e w'=>e=.returned (.tuple #[.bool (a38 (goS y ws)),.int .i64 0])/\Went w w' b mb mg G K y ws n:=by
 rcases y with⟨m,x⟩ | ⟨m,x⟩
 ·obtain⟨z,q,F,r,h1,h2,rfl,rfl⟩:=h
  obtain⟨i1,i2,i3,i4⟩:=hI;have hF:Rr.Full w (mb::mg::Rr.gX b z q F) b z mb mg w x ws o n:=⟨q,r,⟨F,h1,hm,s1,s2,Turn.refl _ _⟩,h2⟩;refine(Rr.step_any hF hT i1 (zM ho) (by unfold Rr.plW;omega) hw (y:=(a16 x ws).1) (ws':=(a16 x ws).2.1) (ac:=(a16 x ws).2.2) rfl).mono ?_;rintro e w' ⟨rfl,q',r',⟨F',g1,g2,g3,g4,g5⟩,k2⟩;refine⟨?_,_,_,⟨z,q',F',r',g1,k2,rfl,rfl⟩,g2,g3,g5⟩
  show Ending.returned (.tuple #[.bool (decide (((a16 x ws).1.part:Int)=4)),.int .i64 0])=.returned (.tuple #[.bool (decide ((a16 x ws).1.part=4)),.int .i64 0])
  rw[show decide (((a16 x ws).1.part:Int)=4)=decide ((a16 x ws).1.part=4) from decide_eq_decide.2 ⟨fun q=>by omega,fun q=>by omega⟩]
 ·obtain⟨z,v,h1,h2,rfl,rfl⟩:=h
  obtain⟨i1,i2,i3,i4,i5,i6⟩:=hI;have hF:Full w (mb::mg::gY b v) b z mb mg w x ws o n:=⟨v,⟨h1,hm,s1,s2,Turn.refl _ _⟩,h2⟩;refine(Ww.step_any hF hT i1 (zM ho) (by unfold plY;omega) i5 (by omega) (y:=(a06 x ws).1) (ws':=(a06 x ws).2.1) (ac:=(a06 x ws).2.2) rfl).mono ?_;rintro e w' ⟨rfl,v',⟨g1,g2,g3,g4,g5⟩,k2⟩;refine⟨?_,_,_,⟨z,v',g1,k2,rfl,rfl⟩,g2,g3,g5⟩
  show Ending.returned (.tuple #[.bool (decide (((a06 x ws).1.part:Int)=9)),.int .i64 0])=.returned (.tuple #[.bool (decide ((a06 x ws).1.part=9)),.int .i64 0])
  rw[show decide (((a06 x ws).1.part:Int)=9)=decide ((a06 x ws).1.part=9) from decide_eq_decide.2 ⟨fun q=>by omega,fun q=>by omega⟩]
def tagT:Ty->Int
 | .inl (_,x)=>x.tag
 | .inr (_,x)=>x.tag
def ag3:Ty->List Nat
 | .inl (_,x)=>x.args
 | .inr (_,x)=>x.args
def macT:Ty->Mac
 | .inl (_,x)=>x.m
 | .inr (_,x)=>x.m
def bJ8:Ty->Int
 | .inl (_,x)=>Rr.markV x
 | .inr (_,x)=>b99 x
def numT:Ty->Int
 | .inl _=>0
 | .inr (_,x)=>x.num
def endT (y:Ty) (v:Int):Int:=if a38 y then v else 0
def aM4:Ty->Int
 | .inl (_,x)=>x.steps
 | .inr (_,x)=>x.steps
def dCel (th no pr tag:Int) (na:Nat) (mark num:Int) (m:Mac) (D:Rr.Dd) (e0 e1 e2 bg en st ah fr to_:Int):Array Value :=
 #[.int .i64 th,.int .i64 no,.int .i64 pr,.int .i64 tag,.slice D.pa na D.ca,.int .i64 mark,.int .i64 num,.slice D.pr m.reads.length D.cr,.slice D.pw m.buf.length D.cw,.slice D.po m.out.length D.co,.int .i64 e0,.int .i64 e1,.int .i64 e2,.int .i64 bg,.int .i64 en,.int .i64 st,.int .i64 ah,.int .i64 fr,.int .i64 to_]
def dTx (y:Ty) (D:Rr.Dd) (th no pr bg en ah fr to_:Int):Array Value :=
 dCel th no pr (tagT y) (ag3 y).length (bJ8 y) (numT y) (macT y) D (endT y (macT y).how) (endT y (macT y).cod) (endT y (macT y).err) bg en (aM4 y) ah fr to_
theorem aR7 (h:TxAt w b G K y) (hI:TIn s t N y):Calls Tryz.prog (bN3 y) #[.pointer (some ⟨b,0,none⟩)] w fun e w'=>∃ D,e=.returned (.agg (dTx y D 0 0 0 0 0 0 0 0))/\Rr.DdAt w' w.heap.size D (ag3 y) (macT y)/\Bl w w':=by
 rcases y with⟨m,x⟩ | ⟨m,x⟩
 ·obtain⟨z,q,F,r,h1,h2,rfl,rfl⟩:=h
  have e:∀ v,Rr.endI x v=endT (.inl (m,x)) v:=fun v=>by
   unfold Rr.endI endT a38
   by_cases q:x.part=4
   ·simp[q]
   ·simp[q]
  exact Rr.Deed_any h1 hI.1.toIn0 rfl rfl rfl (e _) (e _) (e _)
 ·obtain⟨z,v,h1,h2,rfl,rfl⟩:=h
  have e:∀ v,endJ x v=endT (.inr (m,x)) v:=fun v=>by
   unfold endJ endT a38
   by_cases q:x.part=9
   ·simp[q]
   ·simp[q]
  refine(Ww.Deed_any h1 h2 hI.1 rfl rfl rfl rfl (e _) (e _) (e _)).mono ?_;rintro r w' ⟨D,rfl,k1,k2⟩;exact⟨⟨D.pa,D.ca,D.pr,D.cr,D.pw,D.cw,D.po,D.co⟩,rfl,⟨k1.a,k1.r,k1.wr,k1.o,k1.xa,k1.xr,k1.xw,k1.xo⟩,k2⟩
end
end Go.Proofs.YtkihgongjedheaaGreatDoor.En
namespace Go.Proofs.YtkihgongjedheaaGreatDoor.Sd
open Go.ChangeShapes Go.WideShapes Go.ChangeAt Go.RowKit
structure Rd where
 n:Nat
 g:Nat->Bool
 s:Nat->Bool
 o:Nat
def putF (f:Nat->Bool) (t:Nat) (x:Bool):Nat->Bool:=fun k=>if k=t then x else f k
def noneF:Nat->Bool:=fun _=>false
def eq8 (f h:Nat->Bool):Bool:=f 0 == h 0 && f 1 == h 1 && f 2 == h 2 && f 3 == h 3 && f 4 == h 4 && f 5 == h 5 && f 6 == h 6 && f 7 == h 7
theorem eq8_iff (f h:Nat->Bool):eq8 f h=true ↔ ∀ k,k<8->f k=h k:=by
 simp only[eq8,Bool.and_eq_true,beq_iff_eq]
 constructor
 ·rintro⟨⟨⟨⟨⟨⟨⟨h0,h1⟩,h2⟩,h3⟩,h4⟩,h5⟩,h6⟩,h7⟩ k hk
  match k,hk with
  | 0,_=>exact h0
  | 1,_=>exact h1
  | 2,_=>exact h2
  | 3,_=>exact h3
  | 4,_=>exact h4
  | 5,_=>exact h5
  | 6,_=>exact h6
  | 7,_=>exact h7
  | k+8,h=>omega
 ·intro q
  exact⟨⟨⟨⟨⟨⟨⟨q 0 (by omega),q 1 (by omega)⟩,q 2 (by omega)⟩,q 3 (by omega)⟩,q 4 (by omega)⟩,q 5 (by omega)⟩,q 6 (by omega)⟩,q 7 (by omega)⟩
def overB (m:Rd):Bool:=!eq8 m.g noneF && eq8 m.s m.g
def settleM (m:Rd):Rd:=if overB m then { m with s:=noneF,o:=m.o+1 } else m
def hasT (m:Rd) (t:Int):Bool:=decide (0<=t/\t<(m.n:Int))
def stepN (m:Rd) (t:Nat):Rd:=if m.g t then settleM { m with s:=putF m.s t true } else m
def finN (m:Rd) (t:Nat):Rd:=if m.g t then settleM { m with g:=putF m.g t false,s:=putF m.s t false } else m
def boxV (m:Rd):Array Value:=#[.int .i64 m.n,.bool (m.g 0),.bool (m.g 1),.bool (m.g 2),.bool (m.g 3),.bool (m.g 4),.bool (m.g 5),.bool (m.g 6),.bool (m.g 7),.bool (m.s 0),.bool (m.s 1),.bool (m.s 2),.bool (m.s 3),.bool (m.s 4),.bool (m.s 5),.bool (m.s 6),.bool (m.s 7),.int .i64 m.o]
structure RdAt (w:World) (b:Nat) (m:Rd):Prop where
 box:w.heap[b]?=some (.cells (boxV m) 117 (0,0))
section
variable {w w':World} {b:Nat} {m:Rd}
theorem RdAt.lt (h:RdAt w b m):b<w.heap.size:=lt_of_block h.box
theorem RdAt.free (h:RdAt w b m) (j:Nat):w.frozen? ⟨b,j,none⟩=false:=zZ w b j _ _ h.box
theorem RdAt.cellN (h:RdAt w b m):w.cell? ⟨b,0,none⟩=some (.int .i64 m.n):=by rw[zR w b 0 _ _ _ h.box];rfl
theorem RdAt.cellO (h:RdAt w b m):w.cell? ⟨b,17,none⟩=some (.int .i64 m.o):=by rw[zR w b 17 _ _ _ h.box];rfl
theorem RdAt.cellG (h:RdAt w b m) (k:Nat) (hk:k<8):w.cell? ⟨b,1+k,none⟩=some (.bool (m.g k)):=by
 rw[zR w b (1+k) _ _ _ h.box]
 match k,hk with
 | 0,_=>rfl
 | 1,_=>rfl
 | 2,_=>rfl
 | 3,_=>rfl
 | 4,_=>rfl
 | 5,_=>rfl
 | 6,_=>rfl
 | 7,_=>rfl
 | k+8,h=>omega
theorem RdAt.cellS (h:RdAt w b m) (k:Nat) (hk:k<8):w.cell? ⟨b,9+k,none⟩=some (.bool (m.s k)):=by
 rw[zR w b (9+k) _ _ _ h.box]
 match k,hk with
 | 0,_=>rfl
 | 1,_=>rfl
 | 2,_=>rfl
 | 3,_=>rfl
 | 4,_=>rfl
 | 5,_=>rfl
 | 6,_=>rfl
 | 7,_=>rfl
 | k+8,h=>omega
theorem RdAt.keep (h:RdAt w b m) (k:Kept [b] w w'):RdAt w' b m:=⟨(k.2 b (List.mem_cons_self ..)).trans h.box⟩
theorem RdAt.same (h:RdAt w b m) (k:Same w w'):RdAt w' b m:=h.keep (k.kept _)
theorem RdAt.on (h:RdAt w b m) (k:Bl w w'):RdAt w' b m:=⟨(k.block b h.lt).trans h.box⟩
theorem a23 (w:World) (b j:Nat) (v:Value):Turn [b] [b] w (w.setCell ⟨b,j,none⟩ v) :=
 ⟨rfl,rfl,rfl,by simp,fun k _ hn=>zO _ _ _ _ (by simpa using hn),fun _ h=>.inl h⟩
theorem RdAt.setG (h:RdAt w b m) (k:Nat) (hk:k<8) (x:Bool):RdAt (w.setCell ⟨b,1+k,none⟩ (.bool x)) b { m with g:=putF m.g k x }:=by
 refine⟨(zS w b (1+k) _ _ _ h.box).trans ?_⟩
 congr 2
 match k,hk with
 | 0,_=>rfl
 | 1,_=>rfl
 | 2,_=>rfl
 | 3,_=>rfl
 | 4,_=>rfl
 | 5,_=>rfl
 | 6,_=>rfl
 | 7,_=>rfl
 | k+8,h=>omega
theorem RdAt.setS (h:RdAt w b m) (k:Nat) (hk:k<8) (x:Bool):RdAt (w.setCell ⟨b,9+k,none⟩ (.bool x)) b { m with s:=putF m.s k x }:=by
 refine⟨(zS w b (9+k) _ _ _ h.box).trans ?_⟩
 congr 2
 match k,hk with
 | 0,_=>rfl
 | 1,_=>rfl
 | 2,_=>rfl
 | 3,_=>rfl
 | 4,_=>rfl
 | 5,_=>rfl
 | 6,_=>rfl
 | 7,_=>rfl
 | k+8,h=>omega
theorem RdAt.setO (h:RdAt w b m) (o:Nat):RdAt (w.setCell ⟨b,17,none⟩ (.int .i64 o)) b { m with o:=o } :=
 ⟨(zS w b 17 _ _ _ h.box).trans rfl⟩
end
def mayT (t:Int):Bool:=decide (1<=t/\t<=8)
theorem a95 (t:Int) (w:World):Calls Tryz.prog 56 #[.int .i64 t] w fun e w'=>e=.returned (.bool (mayT t))/\w'=w:=by
 unfold mayT
 by_cases h1:1<=t
 ·by_cases h2:t<=8
  ·have e:decide (1<=t/\t<=8)=true:=by simp[h1,h2]
   rw[e];clear e;go_enter Tryz.func56,Tryz.ntmps56
   go_wp2
   go_ret;exact⟨by simp,rfl⟩
  ·have e:decide (1<=t/\t<=8)=false:=by simp[h2]
   rw[e];clear e;go_enter Tryz.func56,Tryz.ntmps56
   go_wp2
   go_ret;exact⟨by simp,rfl⟩
 ·have e:decide (1<=t/\t<=8)=false:=by simp[h1]
  rw[e];clear e;go_enter Tryz.func56,Tryz.ntmps56
  go_wp2
  go_ret;exact⟨by simp,rfl⟩
section
variable {w:World} {b:Nat} {m:Rd}
theorem aa5 (h:RdAt w b m) (t:Int):Calls Tryz.prog 75 #[.pointer (some ⟨b,0,none⟩),.int .i64 t] w fun e w'=>e=.returned (.bool (hasT m t))/\w'=w:=by
 have h0:=h.cellN;have hb:=h.lt;unfold hasT;clear h
 generalize m.n=n at h0
 by_cases h1:0<=t
 ·have e:decide (0<=t/\t<(n:Int))=decide (t<(n:Int)):=by simp[h1]
  rw[e];clear e;go_enter Tryz.func75,Tryz.ntmps75
  go_wp2
  go_ret;exact⟨rfl,rfl⟩
 ·have e:decide (0<=t/\t<(n:Int))=false:=by simp[h1]
  rw[e];clear e;go_enter Tryz.func75,Tryz.ntmps75
  go_wp2
  go_ret;exact⟨rfl,rfl⟩
theorem over_any (h:RdAt w b m):Calls Tryz.prog 36 #[.pointer (some ⟨b,0,none⟩)] w fun e w'=>e=.returned (.int .i64 m.o)/\w'=w:=by
 have h0:=h.cellO;have hb:=h.lt;clear h;go_enter Tryz.func36,Tryz.ntmps36
 go_wp2
 go_ret;exact⟨rfl,rfl⟩
end
def arr8 (f:Nat->Bool):Array Value:=#[.bool (f 0),.bool (f 1),.bool (f 2),.bool (f 3),.bool (f 4),.bool (f 5),.bool (f 6),.bool (f 7)]
theorem aH5 (f:Nat->Bool) (i:Nat) (hi:i<8) (w:World):(part 4 (arr8 f) (i*1)).run Tryz.prog w=.ok (.bool (f i)) w:=by
 have a3:=Tryz.isAgg4
 match i,hi with
 | 0,_=>simp[part,arr8,a3]
 | 1,_=>simp[part,arr8,a3]
 | 2,_=>simp[part,arr8,a3]
 | 3,_=>simp[part,arr8,a3]
 | 4,_=>simp[part,arr8,a3]
 | 5,_=>simp[part,arr8,a3]
 | 6,_=>simp[part,arr8,a3]
 | 7,_=>simp[part,arr8,a3]
 | k+8,h=>omega
theorem aA6 (f h:Nat->Bool) (w:World):∀ l:List Nat,(∀ i∈l,i<8)->(Op.eqItems 9999 4 1 (arr8 f) (arr8 h) l).run Tryz.prog w=.ok (l.all fun i=>f i == h i) w
 | [],_=>by simp[Op.eqItems]
 | i::l,hl=>by
  have ih:=aA6 f h w l (fun j hj=>hl j (List.mem_cons_of_mem _ hj));have h1:=hl i (List.mem_cons_self ..);simp only[Op.eqItems,Sem.run_bind,aH5 f i h1,aH5 h i h1,Result.andThen_ok,run_equalIn_bool w 9998 4 (f i) (h i) Tryz.underlying4]
  cases e:f i == h i
  ·simp[e]
  ·simp[e,ih]
theorem aU3 (f h:Nat->Bool) (w:World):(Op.equalIn 10000 115 (.agg #[.bool (f 0),.bool (f 1),.bool (f 2),.bool (f 3),.bool (f 4),.bool (f 5),.bool (f 6),.bool (f 7)]) (.agg #[.bool (h 0),.bool (h 1),.bool (h 2),.bool (h 3),.bool (h 4),.bool (h 5),.bool (h 6),.bool (h 7)])).run Tryz.prog w=.ok (eq8 f h) w:=by
 obtain⟨i,hi⟩:∃ i,Tryz.prog.info? 4=some i:=Option.isSome_iff_exists.1 (by kernel_rfl)
 have hc:Tryz.prog.cellsOf 4=1:=by kernel_rfl
 have q:=run_equalIn_array w 9999 (arr8 f) (arr8 h) Tryz.underlying115 hi;rw[hc,aA6 f h w _ (fun i hi=>by simpa using hi)]at q;exact q.trans (by simp[eq8,List.range,List.range.loop,Bool.and_assoc])
theorem RdAt.cong {w:World} {b:Nat} {m m':Rd} (h:RdAt w b m) (e:boxV m=boxV m'):RdAt w b m':=⟨by rw[<- e];exact h.box⟩
theorem bx0 {w:World} {b:Nat} {m:Rd} (h:RdAt w b m):w.cell? ⟨b,1,none⟩=some (.bool (m.g 0))/\w.cell? ⟨b,2,none⟩=some (.bool (m.g 1))/\w.cell? ⟨b,3,none⟩=some (.bool (m.g 2))/\w.cell? ⟨b,4,none⟩=some (.bool (m.g 3))/\w.cell? ⟨b,5,none⟩=some (.bool (m.g 4))/\w.cell? ⟨b,6,none⟩=some (.bool (m.g 5))/\w.cell? ⟨b,7,none⟩=some (.bool (m.g 6))/\w.cell? ⟨b,8,none⟩=some (.bool (m.g 7))/\w.cell? ⟨b,9,none⟩=some (.bool (m.s 0))/\w.cell? ⟨b,10,none⟩=some (.bool (m.s 1))/\w.cell? ⟨b,11,none⟩=some (.bool (m.s 2))/\w.cell? ⟨b,12,none⟩=some (.bool (m.s 3))/\w.cell? ⟨b,13,none⟩=some (.bool (m.s 4))/\w.cell? ⟨b,14,none⟩=some (.bool (m.s 5))/\w.cell? ⟨b,15,none⟩=some (.bool (m.s 6))/\w.cell? ⟨b,16,none⟩=some (.bool (m.s 7))/\w.cell? ⟨b,17,none⟩=some (.int .i64 m.o)/\b<w.heap.size :=
 ⟨h.cellG 0 (by omega),h.cellG 1 (by omega),h.cellG 2 (by omega),h.cellG 3 (by omega),h.cellG 4 (by omega),h.cellG 5 (by omega),h.cellG 6 (by omega),h.cellG 7 (by omega),h.cellS 0 (by omega),h.cellS 1 (by omega),h.cellS 2 (by omega),h.cellS 3 (by omega),h.cellS 4 (by omega),h.cellS 5 (by omega),h.cellS 6 (by omega),h.cellS 7 (by omega),h.cellO,h.lt⟩
theorem RdAt.over {w:World} {b:Nat} {m:Rd} (h:RdAt w b m):RdAt (((((((((w.setCell ⟨b,17,none⟩ (.int .i64 ((m.o+1:Nat):Int))).setCell ⟨b,9,none⟩ (.bool false)).setCell ⟨b,10,none⟩ (.bool false)).setCell ⟨b,11,none⟩ (.bool false)).setCell ⟨b,12,none⟩ (.bool false)).setCell ⟨b,13,none⟩ (.bool false)).setCell ⟨b,14,none⟩ (.bool false)).setCell ⟨b,15,none⟩ (.bool false)).setCell ⟨b,16,none⟩ (.bool false)) b { m with s:=noneF,o:=m.o+1 }/\Turn [b] [b] w (((((((((w.setCell ⟨b,17,none⟩ (.int .i64 ((m.o+1:Nat):Int))).setCell ⟨b,9,none⟩ (.bool false)).setCell ⟨b,10,none⟩ (.bool false)).setCell ⟨b,11,none⟩ (.bool false)).setCell ⟨b,12,none⟩ (.bool false)).setCell ⟨b,13,none⟩ (.bool false)).setCell ⟨b,14,none⟩ (.bool false)).setCell ⟨b,15,none⟩ (.bool false)).setCell ⟨b,16,none⟩ (.bool false)):=by
 have a:=((((((((h.setO (m.o+1)).setS 0 (by omega) false).setS 1 (by omega) false).setS 2 (by omega) false).setS 3 (by omega) false).setS 4 (by omega) false).setS 5 (by omega) false).setS 6 (by omega) false).setS 7 (by omega) false;refine⟨a.cong ?_,?_⟩
 ·simp[boxV,putF,noneF]
 ·exact((((((((a23 w b 17 _).trans (a23 _ b 9 _)).trans (a23 _ b 10 _)).trans (a23 _ b 11 _)).trans (a23 _ b 12 _)).trans (a23 _ b 13 _)).trans (a23 _ b 14 _)).trans (a23 _ b 15 _)).trans (a23 _ b 16 _)
theorem aB7 {w:World} {b:Nat} {m:Rd} (h:RdAt w b m) (ho:m.o<9223372036854775807):Calls Tryz.prog 76 #[.pointer (some ⟨b,0,none⟩)] w fun e w'=>e=.returned (.tuple #[])/\RdAt w' b (settleM m)/\Turn [b] [b] w w':=by
 have HT:Hid (∀ k,Turn [b] [b] w ((w.alloc (.cells #[.bool false,.bool false,.bool false,.bool false,.bool false,.bool false,.bool false,.bool false] 115)).drewN k)/\RdAt ((w.alloc (.cells #[.bool false,.bool false,.bool false,.bool false,.bool false,.bool false,.bool false,.bool false] 115)).drewN k) b m):=fun k=>⟨⟨rfl,rfl,rfl,by simp,fun j hj _=>Below.heap_alloc _ _ _ hj,fun _ q=>.inl q⟩,⟨(Below.heap_alloc _ _ _ h.lt).trans h.box⟩⟩
 obtain⟨g0,g1,g2,g3,g4,g5,g6,g7,s0,s1,s2,s3,s4,s5,s6,s7,o0,hb⟩:=bx0 h;have f17:=h.free 17;have f9:=h.free 9;have f10:=h.free 10;have f11:=h.free 11;have f12:=h.free 12;have f13:=h.free 13;have f14:=h.free 14;have f15:=h.free 15;have f16:=h.free 16;have E1:∀ u,(Op.equalIn 10000 115 (.agg #[.bool (m.g 0),.bool (m.g 1),.bool (m.g 2),.bool (m.g 3),.bool (m.g 4),.bool (m.g 5),.bool (m.g 6),.bool (m.g 7)]) (.agg #[.bool false,.bool false,.bool false,.bool false,.bool false,.bool false,.bool false,.bool false])).run Tryz.prog u=.ok (eq8 m.g noneF) u:=fun u=>aU3 m.g noneF u
 have E2:∀ u,(Op.equalIn 10000 115 (.agg #[.bool (m.s 0),.bool (m.s 1),.bool (m.s 2),.bool (m.s 3),.bool (m.s 4),.bool (m.s 5),.bool (m.s 6),.bool (m.s 7)]) (.agg #[.bool (m.g 0),.bool (m.g 1),.bool (m.g 2),.bool (m.g 3),.bool (m.g 4),.bool (m.g 5),.bool (m.g 6),.bool (m.g 7)])).run Tryz.prog u=.ok (eq8 m.s m.g) u:=fun u=>aU3 m.s m.g u
 clear h
 cases h1:eq8 m.g noneF
 ·cases h2:eq8 m.s m.g
  ·have e:settleM m=m:=by simp[settleM,overB,h1,h2]
   rw[e];rw[h1]at E1;rw[h2]at E2;clear e h1 h2;go_enter Tryz.func76,Tryz.ntmps76
   go_wp2
   go_quiet (fail)
   go_wp2
   go_end0
   exact⟨rfl,(HT.out _).2,(HT.out _).1⟩
  ·have e:settleM m={ m with s:=noneF,o:=m.o+1 }:=by simp[settleM,overB,h1,h2]
   rw[e];rw[h1]at E1;rw[h2]at E2;clear e h1 h2;go_enter Tryz.func76,Tryz.ntmps76
   go_wp2
   go_quiet (fail)
   go_wp2
   go_end0
   exact⟨rfl,(HT.out _).2.over.1,(HT.out _).1.trans (HT.out _).2.over.2⟩
 ·have e:settleM m=m:=by simp[settleM,overB,h1]
  rw[e];rw[h1]at E1;clear e h1 E2;go_enter Tryz.func76,Tryz.ntmps76
  go_wp2
  go_quiet (fail)
  go_wp2
  go_end0
  exact⟨rfl,(HT.out _).2,(HT.out _).1⟩
def newR (n:Nat):Rd:={ n:=n,g:=fun k=>decide (k<n),s:=noneF,o:=0 }
def newI (n i:Nat):Rd:={ n:=n,g:=fun k=>decide (k<i),s:=noneF,o:=0 }
theorem bm8 (n i:Nat):{ newI n i with g:=putF (newI n i).g i true }=newI n (i+1):=by
 show Rd.mk n (putF (fun k=>decide (k<i)) i true) noneF 0=Rd.mk n (fun k=>decide (k<i+1)) noneF 0
 congr 1
 funext k
 show (if k=i then true else decide (k<i))=decide (k<i+1)
 by_cases h:k=i
 ·simp[h]
 ·have e:(k<i+1)=(k<i):=by simp;omega
  simp[h,e]
theorem new_yes (n:Nat) (h1:1<=n) (h8:n<=8) (w:World):Calls Tryz.prog 29 #[.int .i64 (n:Int)] w fun e w'=>e=.returned (.tuple #[.pointer (some ⟨w.heap.size,0,none⟩),.int .i64 0])/\RdAt w' w.heap.size (newR n)/\Bl w w':=by
 have e:mayT (n:Int)=true:=zT ⟨by omega,by omega⟩;have H1:=zH (a95 (n:Int));rw[e]at H1;clear e;have HB:Hid (∀ o,Bl w (w.alloc o)):=fun o=>(zF w.heap.size w).alloc (zE _) o
 have HA:=zH (show RdAt (w.alloc (.cells #[.int .i64 (n:Int),.bool false,.bool false,.bool false,.bool false,.bool false,.bool false,.bool false,.bool false,.bool false,.bool false,.bool false,.bool false,.bool false,.bool false,.bool false,.bool false,.int .i64 0] 117)) w.heap.size (newI n 0) from⟨zN _ _⟩);go_enter Tryz.func29,Tryz.ntmps29
 go_wp2_with (go_at_call 56;refine(H1.out _).mono ?_;rintro e w1 ⟨rfl,hw⟩;subst w1)
 go_loopw [13] (fun vi wr=>∃ i:Nat,vi=.int .i64 i/\i<=n/\Hid (RdAt wr w.heap.size (newI n i)/\Bl w wr)) (fun vi _=>n - (intOf vi).toNat)
 case atStart=>exact⟨0,rfl,zV _,HA.out,HB.out _⟩
 case round =>
  obtain⟨i,rfl,hi,HQ⟩:=hrel
  by_cases hlt:i<n
  ·have hlt':(i:Int)<(n:Int):=by omega
   have k8:(i:Int)<8:=by omega
   have hc:=HQ.out.1.cellG i (by omega);have hb:=HQ.out.1.lt;have hf:=HQ.out.1.free (1+i);have HN:Hid (RdAt (wr.setCell ⟨w.heap.size,1+i,none⟩ (.bool true)) w.heap.size (newI n (i+1))/\Bl w (wr.setCell ⟨w.heap.size,1+i,none⟩ (.bool true))):=by
    have q:=HQ.out.1.setG i (by omega) true;rw[bm8]at q;exact⟨q,HQ.out.2.trans ((a23 _ _ _ _).below (fun k hk=>by simp at hk;omega) HQ.out.2.size)⟩
   clear HQ HA HB
   go_wp2
   exact⟨⟨i+1,by first | rfl | (congr 1),by omega,HN⟩,by simp[intOf];omega⟩
  ·have hlt':¬ (i:Int)<(n:Int):=by omega
   obtain rfl:i=n:=by omega
   go_wp2
   go_ret2;exact⟨rfl,HQ.out.1,HQ.out.2⟩
end Go.Proofs.YtkihgongjedheaaGreatDoor.Sd
namespace Go.Proofs.YtkihgongjedheaaGreatDoor.En
open Go.ChangeShapes Go.WideShapes Go.ChangeAt Go.RowKit Num Ww
open Rr (Rx a16 InX okW u64B Alike step_in newX a44)
structure Ex where
 b:Nat
 mb:Nat
 mg:Nat
 rb:Nat
 gc:Nat
 pp:Nat
structure Ev where
 pt:Option Addr
 ct:Nat
 tb:Nat->Nat
 G:Nat->List Nat
 R:List Nat
structure Ed where
 N:Int
 ws:List Int
 cnt:Int
 rd:Sd.Rd
 cr:Nat->Array Value
 dn:Nat
 tr:Nat->Array Value
 T:Nat->Option Ty
 L:Nat->Option (Rr.Dd × List Nat × Mac)
def eBox (s:Su) (f:Ex) (v:Ev) (d:Ed):Array Value:=#[.int .i64 s.a,.int .i64 s.b,.int .i64 s.c,.int .i64 s.e,.slice (some ⟨f.pp,0,none⟩) s.pg.length s.pg.length,.int .i64 0,.int .i64 1,.int .i64 2,.int .i64 3,.int .i64 (3+s.b),.int .i64 (3+s.b+3*s.a),.pointer (some ⟨f.mb,0,none⟩),.pointer (some ⟨f.rb,0,none⟩),.slice (some ⟨f.gc,0,none⟩) s.n s.n,.slice v.pt d.dn v.ct,.int .i64 d.N]
def own (f:Ex) (v:Ev):Nat->List Nat
 | 0=>[f.b]
 | 1=>[f.mb,f.mg]
 | 2=>[f.rb]
 | 3=>[f.gc]
 | 4=>fpR v.pt
 | 5=>v.R
 | t+6=>v.G t
def fF (f:Ex) (v:Ev):List Nat:=f.b::f.mb::f.mg::f.rb::f.gc::(fpR v.pt ++ (List.range 8).flatMap v.G)
def PgIn (w:World) (R:List Nat) (g i:Nat) (x:Int × List Ins):Prop:=g∈R/\w.cell? ⟨g,i*2,none⟩=some (.int .i64 x.1)/\∃ ao c,w.cell? ⟨g,i*2+1,none⟩=some (.slice ao x.2.length c)/\a39 w ao x.2/\(∀ k∈fpR ao,k∈R)/\x.2.length<=9223372036854775807
def ClIn (w:World) (R:List Nat) (qa:Option Addr) (j:Nat) (x:Int × List Nat):Prop:=∃ g,qa=some ⟨g,0,none⟩/\g∈R/\w.cell? ⟨g,j*2,none⟩=some (.int .i64 x.1)/\∃ po c,w.cell? ⟨g,j*2+1,none⟩=some (.slice po x.2.length c)/\FlAt w po x.2/\∀ k∈fpR po,k∈R
def DlIn (w:World) (R:List Nat) (D:Rr.Dd) (args:List Nat) (m:Mac):Prop:=Rr.DdAt w 0 D args m/\∀ k,k∈fpR D.pa∨k∈fpR D.pr∨k∈fpR D.pw∨k∈fpR D.po->k∈R
structure Fx (w:World) (R:List Nat) (f:Ex) (s:Su) (cr:Nat->Array Value):Prop where
 tab:Shaped5 w
 tin:1∈R
 prg:∀ i,i<s.pg.length->PgIn w R f.pp i (s.pg.getD i (0,[]))
 cls:∀ t,t<s.n->∃ qa qc,(cr t)[0]?=some (.slice qa (s.cs t).length qc)/\∀ j,j<(s.cs t).length->ClIn w R qa j (s.call t j)
structure EnAt (w:World) (f:Ex) (v:Ev) (s:Su) (d:Ed):Prop where
 box:w.heap[f.b]?=some (.cells (eBox s f v d) 76 (0,0))
 mem:∃ o,MemAt 105 w f.mb f.mg d.ws o d.cnt
 rds:Sd.RdAt w f.rb d.rd
 crs:Arr w f.gc 79 3 s.n s.n d.cr
 trn:w.ownsRow 0 89 20 (.slice v.pt d.dn v.ct) d.dn (ag6 d.tr d.dn)
 tsz:∀ i,i<d.dn->(d.tr i).size=20
 fx:Fx w v.R f s d.cr
 tx:∀ t y,d.T t=some y->t<8/\∃ K,TxAt w (v.tb t) (v.G t) K y/\∀ k∈K,k∈v.R
 no:∀ t,d.T t=none->v.G t=[]
 dl:∀ i D a m,d.L i=some (D,a,m)->DlIn w v.R D a m
 blR:Blw w v.R
 apart:∀ i j,i≠j->Sep (own f v i) (own f v j)
theorem ab2 {w w':World} {g j:Nat} {R:List Nat} (k:Kept R w w') (hg:g∈R):w'.cell? ⟨g,j,none⟩=w.cell? ⟨g,j,none⟩:=by
 unfold World.cell?;dsimp only;rw[k.2 g hg]
theorem aw1 {w w':World} {ao:Option Addr} {c:List Ins} (h:a39 w ao c) (k:Kept (fpR ao) w w'):a39 w' ao c:=fun i hi=>by
 obtain⟨b,off,e,hlt,c0,c1,c2⟩:=h i hi;have hb:b∈fpR ao:=aP5.2 ⟨_,e,rfl⟩;exact⟨b,off,e,zL hlt k.1,(ab2 k hb).trans c0,(ab2 k hb).trans c1,(ab2 k hb).trans c2⟩
theorem bz0 {w w':World} {po:Option Addr} {l:List Nat} (h:FlAt w po l) (k:Kept (fpR po) w w'):FlAt w' po l:=fun i hi=>by
 obtain⟨b,off,e,hlt,c0⟩:=h i hi;have hb:b∈fpR po:=aP5.2 ⟨_,e,rfl⟩;exact⟨b,off,e,zL hlt k.1,(ab2 k hb).trans c0⟩
theorem ag8 {R L:List Nat} {w w':World} (k:Kept R w w') (h:∀ i∈L,i∈R):Kept L w w':=⟨k.1,fun i hi=>k.2 i (h i hi)⟩
theorem aK9 {w w':World} {T:TypeId} {sz n c:Nat} {p:Option Addr} {xs:List Value} (h:w.ownsRow 0 T sz (.slice p n c) n xs) (k:Kept (fpR p) w w'):w'.ownsRow 0 T sz (.slice p n c) n xs:=by
 refine⟨h.1,?_⟩
 rcases h.2 with q | ⟨g,cap,cur,hv,hb,hg,rest⟩
 ·exact .inl q
 ·refine .inr ⟨g,cap,cur,hv,hb,?_,rest⟩
  rw[k.2 g (a40 (n:=n) (c:=c).2 (by rw[hv];rfl))];exact hg
theorem aU9 {w:World} {T:TypeId} {sz n c:Nat} {p:Option Addr} {xs:List Value} (h:w.ownsRow 0 T sz (.slice p n c) n xs):Blw w (fpR p):=fun k hk=>(h.lt k (a40.1 hk)).2
section
variable {w w':World} {R R':List Nat} {f:Ex} {v:Ev} {s:Su} {d:Ed} {cr cr':Nat->Array Value}
theorem PgIn.keep {g i:Nat} {x:Int × List Ins} (h:PgIn w R g i x) (k:Kept R w w') (hR:∀ i∈R,i∈R'):PgIn w' R' g i x:=by
 obtain⟨h1,h2,ao,c,h3,h4,h5,h6⟩:=h;exact⟨hR _ h1,(ab2 k h1).trans h2,ao,c,(ab2 k h1).trans h3,aw1 h4 (ag8 k h5),fun i hi=>hR _ (h5 i hi),h6⟩
theorem ClIn.keep {qa:Option Addr} {j:Nat} {x:Int × List Nat} (h:ClIn w R qa j x) (k:Kept R w w') (hR:∀ i∈R,i∈R'):ClIn w' R' qa j x:=by
 obtain⟨g,h0,h1,h2,po,c,h3,h4,h5⟩:=h;exact⟨g,h0,hR _ h1,(ab2 k h1).trans h2,po,c,(ab2 k h1).trans h3,bz0 h4 (ag8 k h5),fun i hi=>hR _ (h5 i hi)⟩
theorem DlIn.keep {D:Rr.Dd} {a:List Nat} {m:Mac} (h:DlIn w R D a m) (k:Kept R w w') (hR:∀ i∈R,i∈R'):DlIn w' R' D a m :=
 ⟨⟨h.1.a.keep (ag8 k fun i hi=>h.2 i (.inl hi)),h.1.r.keep (ag8 k fun i hi=>h.2 i (.inr (.inl hi))),h.1.wr.keep (ag8 k fun i hi=>h.2 i (.inr (.inr (.inl hi)))),h.1.o.keep (ag8 k fun i hi=>h.2 i (.inr (.inr (.inr hi)))),h.1.xa,h.1.xr,h.1.xw,h.1.xo⟩,fun i hi=>hR _ (h.2 i hi)⟩
theorem ay7 (h:Shaped5 w) (k:Kept R w w') (hR:1∈R):Shaped5 w':=by
 have hb:=k.2 _ hR;refine⟨fun k hk=>?_⟩;obtain⟨c0,c1,c2,c3,c4,c5⟩:=h.shp k hk;exact⟨(World.cell?_of_block hb).trans c0,(World.cell?_of_block hb).trans c1,(World.cell?_of_block hb).trans c2,(World.cell?_of_block hb).trans c3,(World.cell?_of_block hb).trans c4,(World.cell?_of_block hb).trans c5⟩
theorem Fx.keep (h:Fx w R f s cr) (k:Kept R w w') (hR:∀ i∈R,i∈R') (hc:∀ t,t<s.n->(cr' t)[0]?=(cr t)[0]?):Fx w' R' f s cr' :=
 ⟨ay7 h.tab k h.tin,hR _ h.tin,fun i hi=>(h.prg i hi).keep k hR,fun t ht=>by
  obtain⟨qa,qc,e,q⟩:=h.cls t ht;exact⟨qa,qc,(hc t ht).trans e,fun j hj=>(q j hj).keep k hR⟩⟩
theorem EnAt.blws (h:EnAt w f v s d):∀ i,Blw w (own f v i)
 | 0=>fun k hk=>by rw[show k=f.b by simpa[own]using hk];exact lt_of_block h.box
 | 1=>fun k hk=>by
  obtain⟨o,hm⟩:=h.mem;simp only[own,List.mem_cons,List.not_mem_nil,or_false]at hk
  rcases hk with rfl | rfl
  ·exact hm.ltB
  ·exact hm.ltG
 | 2=>fun k hk=>by rw[show k=f.rb by simpa[own]using hk];exact h.rds.lt
 | 3=>fun k hk=>by rw[show k=f.gc by simpa[own]using hk];exact h.crs.lt
 | 4=>aU9 h.trn
 | 5=>h.blR
 | t+6=>by
  show Blw w (v.G t)
  cases e:d.T t with
  | none=>rw[h.no t e];intro k hk;cases hk
  | some y=>obtain⟨_,K,q,_⟩:=h.tx t y e;exact q.blw
theorem aJ6 {v:Ev} {k:Nat}:k∈fF f v ↔ ∃ j,j≠5/\j<14/\k∈own f v j:=by
 simp only[fF,List.mem_cons,List.mem_append,List.mem_flatMap,List.mem_range]
 constructor
 ·rintro(rfl | rfl | rfl | rfl | rfl | q | ⟨t,ht,q⟩)
  ·exact⟨0,by omega,by omega,by simp[own]⟩
  ·exact⟨1,by omega,by omega,by simp[own]⟩
  ·exact⟨1,by omega,by omega,by simp[own]⟩
  ·exact⟨2,by omega,by omega,by simp[own]⟩
  ·exact⟨3,by omega,by omega,by simp[own]⟩
  ·exact⟨4,by omega,by omega,q⟩
  ·exact⟨t+6,by omega,by omega,q⟩
 ·rintro⟨j,h1,h2,q⟩
  match j,h1,h2,q with
  | 0,_,_,q=>simp[own]at q;simp[q]
  | 1,_,_,q=>simp[own]at q;rcases q with q | q <;> simp[q]
  | 2,_,_,q=>simp[own]at q;simp[q]
  | 3,_,_,q=>simp[own]at q;simp[q]
  | 4,_,_,q=>exact .inr (.inr (.inr (.inr (.inr (.inl q)))))
  | t+6,_,h2,q=>exact .inr (.inr (.inr (.inr (.inr (.inr ⟨t,by omega,q⟩)))))
theorem EnAt.inF (h:EnAt w f v s d) {j k:Nat} (hj:j≠5) (hk:k∈own f v j):k∈fF f v:=by
 refine aJ6.2 ⟨j,hj,?_,hk⟩
 match j,hk with
 | t+6,hk =>
  have hk:k∈v.G t:=hk
  cases e:d.T t with
  | none=>rw[h.no t e]at hk;cases hk
  | some y=>have:=(h.tx t y e).1;omega
 | 0,_=>omega
 | 1,_=>omega
 | 2,_=>omega
 | 3,_=>omega
 | 4,_=>omega
 | 5,_=>omega
structure Ext (f:Ex) (v v':Ev) (w w':World):Prop where
 turn:Turn (fF f v) (fF f v') w w'
 ro:∀ k,k∈v'.R->k∈v.R∨w.heap.size<=k
theorem Ext.trans {v' v'':Ev} {w'':World} (h:Ext f v v' w w') (k:Ext f v' v'' w' w''):Ext f v v'' w w'':=⟨h.turn.trans k.turn,fun i hi=>(k.ro i hi).elim (h.ro i) (fun q=>.inr (zQ h.turn.size q))⟩
theorem Ext.of_below (k:Bl w w'):Ext f v v w w':=⟨Below.turn k _,fun _ h=>.inl h⟩
theorem aw3 {v':Ev} {L L':List Nat} (t:Turn L L' w w') (hL:∀ k∈L,k∈fF f v) (hV:∀ k∈fF f v',k∈fF f v∨k∈L'∨w.heap.size<=k) (hR:∀ k,k∈v'.R->k∈v.R∨w.heap.size<=k):Ext f v v' w w' :=
 ⟨⟨t.os,t.tape,t.output,t.size,fun k hk hn=>t.block k hk (fun q=>hn (hL k q)),fun k hk=>by
  rcases hV k hk with q | q | q
  ·exact .inl q
  ·exact(t.own k q).imp (hL k) id
  ·exact .inr q⟩,hR⟩
theorem EnAt.ap_gen (h:EnAt w f v s d) {v':Ev} {i:Nat} (c:∀ j k,k∈own f v' j->k∈own f v j∨(j=i/\∀ j',k∉own f v j')):∀ a b,a≠b->Sep (own f v' a) (own f v' b):=fun a b hab k ha hb=>by
 rcases c a k ha with p | ⟨p,p'⟩
 ·rcases c b k hb with q | ⟨q,q'⟩
  ·exact h.apart a b hab k p q
  ·exact q' a p
 ·rcases c b k hb with q | ⟨q,q'⟩
  ·exact p' b q
  ·omega
theorem EnAt.new (h:EnAt w f v s d) {k:Nat} (hk:w.heap.size<=k):∀ j,k∉own f v j:=fun j q=>absurd (h.blws j k q) (Nat.not_lt.2 hk)
theorem EnAt.but (h:EnAt w f v s d) {i:Nat} {L:List Nat} (t:Turn (own f v i) L w w'):∀ j,j≠i->Kept (own f v j) w w':=fun j hj=>t.kept (h.apart j i hj) (h.blws j)
theorem EnAt.kBox (h:EnAt w f v s d) (k:Kept (own f v 0) w w'):w'.heap[f.b]?=some (.cells (eBox s f v d) 76 (0,0)):=(k.2 f.b (by simp[own])).trans h.box
theorem EnAt.kMem (h:EnAt w f v s d) (k:Kept (own f v 1) w w'):∃ o,MemAt 105 w' f.mb f.mg d.ws o d.cnt:=by
 obtain⟨o,hm⟩:=h.mem;exact⟨o,hm.keep (k.2 _ (by simp[own])) (k.2 _ (by simp[own]))⟩
theorem EnAt.kRds (h:EnAt w f v s d) (k:Kept (own f v 2) w w'):Sd.RdAt w' f.rb d.rd:=h.rds.keep k
theorem EnAt.kCrs (h:EnAt w f v s d) (k:Kept (own f v 3) w w'):Arr w' f.gc 79 3 s.n s.n d.cr:=h.crs.keep (k.2 _ (by simp[own]))
theorem EnAt.kTrn (h:EnAt w f v s d) (k:Kept (own f v 4) w w'):w'.ownsRow 0 89 20 (.slice v.pt d.dn v.ct) d.dn (ag6 d.tr d.dn):=aK9 h.trn k
theorem EnAt.kFx (h:EnAt w f v s d) (k:Kept (own f v 5) w w'):Fx w' v.R f s d.cr:=h.fx.keep k (fun _ q=>q) (fun _ _=>rfl)
theorem EnAt.kTx (h:EnAt w f v s d) (k5:Kept (own f v 5) w w') {t:Nat} {y:Ty} (e:d.T t=some y) (k:Kept (own f v (t+6)) w w'):t<8/\∃ K,TxAt w' (v.tb t) (v.G t) K y/\∀ k∈K,k∈v.R:=by
 obtain⟨h1,K,h2,h3⟩:=h.tx t y e;exact⟨h1,K,h2.keep k (ag8 k5 h3),h3⟩
theorem EnAt.kDl (h:EnAt w f v s d) (k:Kept (own f v 5) w w'):∀ i D a m,d.L i=some (D,a,m)->DlIn w' v.R D a m:=fun i D a m e=>(h.dl i D a m e).keep k fun _ q=>q
theorem EnAt.kBl (h:EnAt w f v s d) (k:Kept (own f v 5) w w'):Blw w' v.R:=fun i hi=>zL (h.blR i hi) k.1
theorem EnAt.keep (h:EnAt w f v s d) (k:∀ i,Kept (own f v i) w w'):EnAt w' f v s d :=
 ⟨h.kBox (k 0),h.kMem (k 1),h.kRds (k 2),h.kCrs (k 3),h.kTrn (k 4),h.tsz,h.kFx (k 5),fun _ _ e=>h.kTx (k 5) e (k _),h.no,h.kDl (k 5),h.kBl (k 5),h.apart⟩
theorem EnAt.on (h:EnAt w f v s d) (k:Bl w w'):EnAt w' f v s d:=h.keep fun i=>a26 k (h.blws i)
theorem EnAt.same (h:EnAt w f v s d) (k:Same w w'):EnAt w' f v s d:=h.on (k.below _)
theorem EnAt.cell (h:EnAt w f v s d) (j:Nat):w.cell? ⟨f.b,j,none⟩=(eBox s f v d)[j]?:=zR w f.b j _ _ _ h.box
theorem EnAt.ltB (h:EnAt w f v s d):f.b<w.heap.size:=lt_of_block h.box
theorem EnAt.free (h:EnAt w f v s d) (j:Nat):w.frozen? ⟨f.b,j,none⟩=false:=zZ w f.b j _ _ h.box
theorem aw4 (h:EnAt w f v s d) {i:Nat} (hi:i≠5) (t:Turn (own f v i) (own f v i) w w'):Ext f v v w w':=aw3 t (fun _ q=>h.inF hi q) (fun _ q=>.inl q) fun _ q=>.inl q
theorem EnAt.setN (h:EnAt w f v s d) (N':Int):EnAt (w.setCell ⟨f.b,15,none⟩ (.int .i64 N')) f v s { d with N:=N' }/\Ext f v v w (w.setCell ⟨f.b,15,none⟩ (.int .i64 N')):=by
 have t:Turn (own f v 0) (own f v 0) w (w.setCell ⟨f.b,15,none⟩ (.int .i64 N')):=a23 w f.b 15 _;have k:=h.but t;exact⟨⟨zS w f.b 15 _ _ _ h.box,h.kMem (k 1 (by omega)),h.kRds (k 2 (by omega)),h.kCrs (k 3 (by omega)),h.kTrn (k 4 (by omega)),h.tsz,h.kFx (k 5 (by omega)),fun _ _ e=>h.kTx (k 5 (by omega)) e (k _ (by omega)),h.no,h.kDl (k 5 (by omega)),h.kBl (k 5 (by omega)),h.apart⟩,aw4 h (by omega) t⟩
theorem EnAt.setC (h:EnAt w f v s d) {t j:Nat} (ht:t<s.n) (h1:1<=j) (h3:j<3) (x:Value):EnAt (w.setCell ⟨f.gc,t*3+j,none⟩ x) f v s { d with cr:=updA d.cr t ((d.cr t).setIfInBounds j x) }/\Ext f v v w (w.setCell ⟨f.gc,t*3+j,none⟩ x):=by
 have tt:Turn (own f v 3) (own f v 3) w (w.setCell ⟨f.gc,t*3+j,none⟩ x):=a23 w f.gc _ _;have k:=h.but tt;refine⟨⟨h.kBox (k 0 (by omega)),h.kMem (k 1 (by omega)),h.kRds (k 2 (by omega)),h.crs.put ht h3 x,h.kTrn (k 4 (by omega)),h.tsz,h.fx.keep (k 5 (by omega)) (fun _ q=>q) (fun u hu=>?_),fun _ _ e=>h.kTx (k 5 (by omega)) e (k _ (by omega)),h.no,h.kDl (k 5 (by omega)),h.kBl (k 5 (by omega)),h.apart⟩,aw4 h (by omega) tt⟩;dsimp only
 by_cases e:u=t
 ·subst e
  rw[a22,Array.getElem?_setIfInBounds_ne (by omega)]
 ·rw[a34 _ _ e]
theorem EnAt.setR (h:EnAt w f v s d) {r:Sd.Rd} (t:Turn [f.rb] [f.rb] w w') (hr:Sd.RdAt w' f.rb r):EnAt w' f v s { d with rd:=r }/\Ext f v v w w':=by
 have t:Turn (own f v 2) (own f v 2) w w':=t;have k:=h.but t;exact⟨⟨h.kBox (k 0 (by omega)),h.kMem (k 1 (by omega)),hr,h.kCrs (k 3 (by omega)),h.kTrn (k 4 (by omega)),h.tsz,h.kFx (k 5 (by omega)),fun _ _ e=>h.kTx (k 5 (by omega)) e (k _ (by omega)),h.no,h.kDl (k 5 (by omega)),h.kBl (k 5 (by omega)),h.apart⟩,aw4 h (by omega) t⟩
def updG (G:Nat->List Nat) (t:Nat) (L:List Nat):Nat->List Nat:=fun u=>if u=t then L else G u
theorem ab6 (G:Nat->List Nat) (t:Nat) (L:List Nat):updG G t L t=L:=if_pos rfl
theorem am4 (G:Nat->List Nat) {t u:Nat} (L:List Nat) (h:u≠t):updG G t L u=G u:=if_neg h
theorem aF8 {v:Ev} {t:Nat} {L:List Nat} {tb:Nat->Nat} {j:Nat} (hj:j≠t+6):own f { v with G:=updG v.G t L,tb:=tb } j=own f v j:=by
 match j,hj with
 | 0,_=>rfl
 | 1,_=>rfl
 | 2,_=>rfl
 | 3,_=>rfl
 | 4,_=>rfl
 | 5,_=>rfl
 | u+6,hj=>exact am4 _ _ (by omega)
theorem EnAt.goes (h:EnAt w f v s d) {t:Nat} {y:Ty} {K:List Nat} (e:d.T t=some y) (hK:∀ k∈K,k∈v.R) (g:Went w w' (v.tb t) f.mb f.mg (v.G t) K y d.ws d.cnt):∃ L,EnAt w' f { v with G:=updG v.G t L } s { d with ws:=goW y d.ws,cnt:=(if goA y d.ws then up d.cnt else d.cnt),T:=upT d.T t (some (goS y d.ws)) }/\Ext f v { v with G:=updG v.G t L } w w':=by
 obtain⟨L,o,g1,g2,g3,g4⟩:=g;have ht:=(h.tx t y e).1;have k:∀ j,j≠1->j≠t+6->Kept (own f v j) w w':=fun j h1 h2=>g4.kept (fun i hi q=>by
  simp only[List.mem_cons]at q
  rcases q with q | q | q
  ·exact h.apart j 1 h1 i hi (by simp[own,q])
  ·exact h.apart j 1 h1 i hi (by simp[own,q])
  ·exact h.apart j (t+6) h2 i hi q) (h.blws j)
 have hL:∀ i,i∈L->i∈v.G t∨w.heap.size<=i:=fun i hi=>by
  rcases g4.own i (by simp[hi]) with q | q
  ·simp only[List.mem_cons]at q
   rcases q with q | q | q
   ·exact absurd hi (g3 i (by simp[q]))
   ·exact absurd hi (g3 i (by simp[q]))
   ·exact .inl q
  ·exact .inr q
 have c:∀ j i,i∈own f { v with G:=updG v.G t L } j->i∈own f v j∨(j=t+6/\∀ j',i∉own f v j'):=fun j i hi=>by
  by_cases q:j=t+6
  ·subst q
   have hi:i∈updG v.G t L t:=hi;rw[ab6]at hi
   rcases hL i hi with z | z
   ·exact .inl z
   ·exact .inr ⟨rfl,h.new z⟩
  ·rw[show own f { v with G:=updG v.G t L } j=own f v j from aF8 q]at hi
   exact .inl hi
 refine⟨L,⟨h.kBox (k 0 (by omega) (by omega)),⟨o,g2⟩,h.kRds (k 2 (by omega) (by omega)),h.kCrs (k 3 (by omega) (by omega)),h.kTrn (k 4 (by omega) (by omega)),h.tsz,h.kFx (k 5 (by omega) (by omega)),fun u y' e'=>?_,fun u e'=>?_,h.kDl (k 5 (by omega) (by omega)),h.kBl (k 5 (by omega) (by omega)),h.ap_gen c⟩,aw3 g4 (fun i hi=>?_) (fun i hi=>?_) fun i hi=>.inl hi⟩
 ·dsimp only at e' ⊢
  by_cases q:u=t
  ·subst q
   rw[a10]at e'
   cases e'
   rw[ab6];exact⟨ht,K,g1,hK⟩
  ·rw[a21 _ _ q]at e'
   rw[am4 _ _ q];exact h.kTx (k 5 (by omega) (by omega)) e' (k _ (by omega) (by omega))
 ·dsimp only at e' ⊢
  by_cases q:u=t
  ·subst q
   rw[a10]at e'
   cases e'
  ·rw[a21 _ _ q]at e'
   rw[am4 _ _ q];exact h.no u e'
 ·simp only[List.mem_cons]at hi
  rcases hi with q | q | q
  ·exact h.inF (j:=1) (by omega) (by simp[own,q])
  ·exact h.inF (j:=1) (by omega) (by simp[own,q])
  ·exact h.inF (j:=t+6) (by omega) q
 ·obtain⟨j,h1,h2,h3⟩:=aJ6.1 hi
  rcases c j i h3 with q | ⟨rfl,q⟩
  ·exact .inl (h.inF h1 q)
  ·have h3:i∈updG v.G t L t:=h3
   rw[ab6]at h3;exact .inr (.inl (by simp[h3]))
end
section
variable {w w':World} {f:Ex} {v:Ev} {s:Su} {d:Ed}
theorem EnAt.grow (h:EnAt w f v s d) (k:Bl w w') {L:List Nat} (a:Abv w.heap.size L) (b:Blw w' L):EnAt w' f { v with R:=L ++ v.R } s d/\Ext f v { v with R:=L ++ v.R } w w':=by
 have h':=h.on k;have sub:∀ i∈v.R,i∈L ++ v.R:=fun i hi=>List.mem_append.2 (.inr hi)
 have c:∀ j i,i∈own f { v with R:=L ++ v.R } j->i∈own f v j∨(j=5/\∀ j',i∉own f v j'):=fun j i hi=>by
  match j,hi with
  | 0,hi=>exact .inl hi
  | 1,hi=>exact .inl hi
  | 2,hi=>exact .inl hi
  | 3,hi=>exact .inl hi
  | 4,hi=>exact .inl hi
  | 5,hi=>exact(List.mem_append.1 hi).elim (fun q=>.inr ⟨rfl,h.new (a i q)⟩) .inl
  | t+6,hi=>exact .inl hi
 refine⟨⟨h'.box,h'.mem,h'.rds,h'.crs,h'.trn,h'.tsz,h'.fx.keep ⟨zE _,fun _ _=>rfl⟩ sub (fun _ _=>rfl),fun t y e=>?_,h'.no,fun i D x m e=>(h'.dl i D x m e).keep ⟨zE _,fun _ _=>rfl⟩ sub,fun i hi=>(List.mem_append.1 hi).elim (b i) (h'.blR i),h.ap_gen c⟩,aw3 (Below.turn k []) (fun i hi=>by cases hi) (fun i hi=>.inl hi) fun i hi=>(List.mem_append.1 hi).elim (fun q=>.inr (a i q)) .inl⟩;obtain⟨h1,K,h2,h3⟩:=h'.tx t y e;exact⟨h1,K,h2,fun i hi=>sub i (h3 i hi)⟩
theorem EnAt.born (h:EnAt w f v s d) (k:Bl w w') {t b:Nat} {y:Ty} {G K:List Nat} (ht:t<8) (hT:d.T t=none) (tx:TxAt w' b G K y) (aG:Abv w.heap.size G) (aK:Abv w.heap.size K) :
  EnAt w' f { v with tb:=updN v.tb t b,G:=updG v.G t G,R:=K ++ v.R } s { d with T:=upT d.T t (some y) }/\Ext f v { v with tb:=updN v.tb t b,G:=updG v.G t G,R:=K ++ v.R } w w':=by
 obtain⟨h',x⟩:=h.grow k aK tx.blwK;have o5:∀ j,j≠t+6->own f { v with tb:=updN v.tb t b,G:=updG v.G t G,R:=K ++ v.R } j=own f { v with R:=K ++ v.R } j:=fun j hj=>aF8 (v:={ v with R:=K ++ v.R }) hj
 have nG:∀ i,i∈G->∀ j,i∉own f { v with R:=K ++ v.R } j:=fun i hi j q=>by
  by_cases e:j=5
  ·subst e
   rcases List.mem_append.1 q with q | q
   ·exact tx.sep i q hi
   ·exact h.new (aG i hi) 5 q
  ·refine h.new (aG i hi) j ?_
   match j,e,q with
   | 0,_,q=>exact q
   | 1,_,q=>exact q
   | 2,_,q=>exact q
   | 3,_,q=>exact q
   | 4,_,q=>exact q
   | u+6,_,q=>exact q
 have c:∀ j i,i∈own f { v with tb:=updN v.tb t b,G:=updG v.G t G,R:=K ++ v.R } j->i∈own f { v with R:=K ++ v.R } j∨(j=t+6/\∀ j',i∉own f { v with R:=K ++ v.R } j'):=fun j i hi=>by
  by_cases q:j=t+6
  ·subst q
   have hi:i∈updG v.G t G t:=hi;rw[ab6]at hi;exact .inr ⟨rfl,nG i hi⟩
  ·rw[o5 j q]at hi
   exact .inl hi
 refine⟨⟨h'.box,h'.mem,h'.rds,h'.crs,h'.trn,h'.tsz,h'.fx,fun u y' e=>?_,fun u e=>?_,h'.dl,h'.blR,h'.ap_gen c⟩,⟨x.turn.os,x.turn.tape,x.turn.output,x.turn.size,x.turn.block,fun i hi=>?_⟩,x.ro⟩
 ·dsimp only at e ⊢
  by_cases q:u=t
  ·subst q
   rw[a10]at e
   cases e
   rw[ab6,a24];exact⟨ht,K,tx,fun i hi=>List.mem_append.2 (.inl hi)⟩
  ·rw[a21 _ _ q]at e
   rw[am4 _ _ q,a51 _ _ q];exact h'.tx u y' e
 ·dsimp only at e ⊢
  by_cases q:u=t
  ·subst q
   rw[a10]at e
   cases e
  ·rw[a21 _ _ q]at e
   rw[am4 _ _ q];exact h'.no u e
 ·obtain⟨j,h1,h2,h3⟩:=aJ6.1 hi
  by_cases q:j=t+6
  ·subst q
   have h3:i∈updG v.G t G t:=h3;rw[ab6]at h3;exact .inr (aG i h3)
  ·rw[o5 j q]at h3
   exact x.turn.own i (aJ6.2 ⟨j,h1,h2,h3⟩)
theorem EnAt.died (h:EnAt w f v s d) (t:Nat):EnAt w f { v with G:=updG v.G t [] } s { d with T:=upT d.T t none }/\Ext f v { v with G:=updG v.G t [] } w w:=by
 have c:∀ j i,i∈own f { v with G:=updG v.G t [] } j->i∈own f v j:=fun j i hi=>by
  by_cases q:j=t+6
  ·subst q
   have hi:i∈updG v.G t [] t:=hi;rw[ab6]at hi
   cases hi
  ·rwa[show own f { v with G:=updG v.G t [] } j=own f v j from aF8 q]at hi
 refine⟨⟨h.box,h.mem,h.rds,h.crs,h.trn,h.tsz,h.fx,fun u y e=>?_,fun u e=>?_,h.dl,h.blR,fun i j hij k hi hj=>h.apart i j hij k (c i k hi) (c j k hj)⟩,aw3 (Turn.refl [] w) (fun i hi=>by cases hi) (fun i hi=>?_) fun i hi=>.inl hi⟩
 ·dsimp only at e ⊢
  by_cases q:u=t
  ·subst q
   rw[a10]at e
   cases e
  ·rw[a21 _ _ q]at e
   rw[am4 _ _ q];exact h.tx u y e
 ·dsimp only at e ⊢
  by_cases q:u=t
  ·subst q
   exact ab6 _ _ _
  ·rw[a21 _ _ q]at e
   rw[am4 _ _ q];exact h.no u e
 ·obtain⟨j,h1,h2,h3⟩:=aJ6.1 hi
  exact .inl (h.inF h1 (c j i h3))
theorem EnAt.told (h:EnAt w f v s d) (i:Nat) {D:Rr.Dd} {a:List Nat} {m:Mac} (q:DlIn w v.R D a m):EnAt w f v s { d with L:=fun k=>if k=i then some (D,a,m) else d.L k } :=
 ⟨h.box,h.mem,h.rds,h.crs,h.trn,h.tsz,h.fx,h.tx,h.no,fun k D' a' m' e=>by
  dsimp only at e
  by_cases z:k=i
  ·rw[if_pos z]at e
   cases e
   exact q
  ·rw[if_neg z]at e
   exact h.dl k D' a' m' e,h.blR,h.apart⟩
theorem EnAt.arr (h:EnAt w f v s d) (h0:0<d.dn):∃ g,v.pt=some ⟨g,0,none⟩/\v.ct<=maxLen/\Arr w g 89 20 v.ct d.dn d.tr:=by
 obtain⟨g,c,e,h1,h2⟩:=bG1 h.trn h0 h.tsz;injection e with e1 _ e3;subst e3;exact⟨g,e1,h1,h2⟩
theorem EnAt.turned (h:EnAt w f v s d) {g:Nat} (hp:v.pt=some ⟨g,0,none⟩) (hm:v.ct<=maxLen) (t:Turn [g] [g] w w') {tr:Nat->Array Value} (A:Arr w' g 89 20 v.ct d.dn tr):EnAt w' f v s { d with tr:=tr }/\Ext f v v w w':=by
 have t:Turn (own f v 4) (own f v 4) w w':=by
  have e:own f v 4=[g]:=by simp[own,hp,fpR]
  rw[e];exact t
 have k:=h.but t;refine⟨⟨h.kBox (k 0 (by omega)),h.kMem (k 1 (by omega)),h.kRds (k 2 (by omega)),h.kCrs (k 3 (by omega)),?_,A.sz,h.kFx (k 5 (by omega)),fun _ _ e=>h.kTx (k 5 (by omega)) e (k _ (by omega)),h.no,h.kDl (k 5 (by omega)),h.kBl (k 5 (by omega)),h.apart⟩,aw4 h (by omega) t⟩;have:=A.owns (by omega) hm;rw[<- hp]at this;exact this
theorem bs3 {w:World} {g:Nat} {a:Array Value}:Turn [g] [g] w (w.setRow g a):=⟨rfl,rfl,rfl,by simp,fun k _ hn=>setRow_other _ _ _ _ (by simpa using hn),fun _ q=>.inl q⟩
theorem EnAt.more (h:EnAt w f v s d) {w3:World} {u:Value} {c:Array Value} (hc:c.size=20) (hown:w3.ownsRow 0 89 20 u (d.dn+1) (ag6 d.tr d.dn ++ c.toList)) (hg:w.grownBy w3 (Value.slice v.pt d.dn v.ct).ownBlock) (hat:u.ownBlock=(Value.slice v.pt d.dn v.ct).ownBlock∨∃ s,u.ownBlock=some s/\w.heap.size<=s) :
  ∃ p' c',u=.slice p' (d.dn+1) c'/\w3.heap[f.b]?=some (.cells (eBox s f v d) 76 (0,0))/\EnAt (w3.setCell ⟨f.b,14,none⟩ u) f { v with pt:=p',ct:=c' } s { d with dn:=d.dn+1,tr:=updA d.tr d.dn c }/\Ext f v { v with pt:=p',ct:=c' } w (w3.setCell ⟨f.b,14,none⟩ u):=by
 obtain⟨p',c',rfl⟩:∃ p' c',u=.slice p' (d.dn+1) c':=by
  rcases hown.2 with⟨rfl,h0⟩ | ⟨g,cap,cur,rfl,_⟩
  ·omega
  ·exact⟨_,_,rfl⟩
 have hf:ag6 d.tr d.dn ++ c.toList=ag6 (updA d.tr d.dn c) (d.dn+1):=by
  show _=ag6 (updA d.tr d.dn c) d.dn ++ (updA d.tr d.dn c d.dn).toList
  rw[a22,aB3 d.dn (fun i hi=>(a34 d.tr c (show i≠d.dn by omega)).symm)]
 rw[hf]at hown;have ho:∀ k,k∈fpR p'->k∈fpR v.pt∨w.heap.size<=k:=by
  rcases hat with q | ⟨s,q,hs⟩
  ·exact al4 (s:=w.heap.size) (.inl q) (zE _)
  ·exact al4 (n:=d.dn) (c:=v.ct) (.inr q) hs
 have t1:Turn (own f v 4) (fpR p') w w3:=⟨hg.os,hg.tape,hg.output,hg.size,fun k hk hn=>hg.block k hk (fun q=>hn (a40.2 q.symm)),ho⟩;have k1:=h.but t1;have hb:=h.kBox (k1 0 (by omega));have hne:f.b∉fpR p':=fun q=>(ho _ q).elim (fun z=>h.apart 0 4 (by omega) f.b (by simp[own]) z) (fun z=>h.new z 0 (by simp[own]))
 have k2:∀ L:List Nat,f.b∉L->Kept L w3 (w3.setCell ⟨f.b,14,none⟩ (.slice p' (d.dn+1) c')):=fun L hn=>⟨by simp,fun i hi=>zO _ _ _ _ (fun (e:i=f.b)=>hn (e ▸ hi))⟩
 have k:∀ j,j≠4->j≠0->Kept (own f v j) w (w3.setCell ⟨f.b,14,none⟩ (.slice p' (d.dn+1) c')):=fun j h1 h2=>by
  have z:=k2 (own f v j) (fun q=>h.apart 0 j (by omega) f.b (by simp[own]) q);exact⟨zQ (k1 j h1).1 z.1,fun i hi=>(z.2 i hi).trans ((k1 j h1).2 i hi)⟩
 have c4:∀ j i,i∈own f { v with pt:=p',ct:=c' } j->i∈own f v j∨(j=4/\∀ j',i∉own f v j'):=fun j i hi=>by
  match j,hi with
  | 0,hi=>exact .inl hi
  | 1,hi=>exact .inl hi
  | 2,hi=>exact .inl hi
  | 3,hi=>exact .inl hi
  | 4,hi=>exact(ho i hi).imp id (fun q=>⟨rfl,h.new q⟩)
  | 5,hi=>exact .inl hi
  | t+6,hi=>exact .inl hi
 have t3:Turn (own f v 4 ++ [f.b]) (fpR p' ++ [f.b]) w (w3.setCell ⟨f.b,14,none⟩ (.slice p' (d.dn+1) c')):=⟨hg.os,hg.tape,hg.output,by simpa using hg.size,fun i hi hn=>by
  rw[List.mem_append,not_or]at hn;exact(zO _ _ _ _ (by simpa using hn.2)).trans (t1.block i hi hn.1),fun i hi=>(List.mem_append.1 hi).elim (fun q=>(ho i q).imp (fun z=>List.mem_append.2 (.inl z)) id) (fun q=>.inl (List.mem_append.2 (.inr q)))⟩
 refine⟨p',c',rfl,hb,⟨zS w3 f.b 14 _ _ _ hb,h.kMem (k 1 (by omega) (by omega)),h.kRds (k 2 (by omega) (by omega)),h.kCrs (k 3 (by omega) (by omega)),aK9 hown (k2 _ hne),fun i hi=>?_,h.kFx (k 5 (by omega) (by omega)),fun _ _ e=>h.kTx (k 5 (by omega) (by omega)) e (k _ (by omega) (by omega)),h.no,h.kDl (k 5 (by omega) (by omega)),h.kBl (k 5 (by omega) (by omega)),h.ap_gen c4⟩,aw3 t3 (fun i hi=>?_) (fun i hi=>?_) fun i hi=>.inl hi⟩
 ·dsimp only at hi ⊢
  by_cases e:i=d.dn
  ·rw[e,a22,hc]
  ·rw[a34 _ _ e]
   exact h.tsz i (by omega)
 ·rcases List.mem_append.1 hi with q | q
  ·exact h.inF (j:=4) (by omega) q
  ·exact h.inF (j:=0) (by omega) q
 ·obtain⟨j,h1,h2,h3⟩:=aJ6.1 hi
  rcases c4 j i h3 with q | ⟨rfl,q⟩
  ·exact .inl (h.inF h1 q)
  ·exact .inr (.inl (List.mem_append.2 (.inl h3)))
end
def finB (E:Eg) (u:Nat):Bool:=decide (finE E u)
def rdZ (s:Su) (X:Rs):Sd.Rd:={ n:=s.n,g:=fun u=>decide (u<s.n) && !finB X.H.E u,s:=fun u=>decide (u<s.n) && (X.stp u && !finB X.H.E u),o:=X.R }
structure Alk (m m':Sd.Rd):Prop where
 n:m.n=m'.n
 o:m.o=m'.o
 g:∀ k,k<8->m.g k=m'.g k
 s:∀ k,k<8->m.s k=m'.s k
theorem Alk.at_ {w:World} {b:Nat} {m m':Sd.Rd} (h:Alk m m') (k:Sd.RdAt w b m):Sd.RdAt w b m':=by
 refine k.cong ?_;unfold Sd.boxV;rw[h.n,h.o,h.g 0 (by omega),h.g 1 (by omega),h.g 2 (by omega),h.g 3 (by omega),h.g 4 (by omega),h.g 5 (by omega),h.g 6 (by omega),h.g 7 (by omega),h.s 0 (by omega),h.s 1 (by omega),h.s 2 (by omega),h.s 3 (by omega),h.s 4 (by omega),h.s 5 (by omega),h.s 6 (by omega),h.s 7 (by omega)]
section
variable {s:Su} {X:Rs} {t:Nat}
theorem bw5 (H:Hs) {u:Nat} (h:u≠t):(begH H t).E.T u=H.E.T u/\(begH H t).E.B u=H.E.B u/\(begH H t).E.nc=H.E.nc/\(begH H t).E.n=H.E.n:=by
 unfold begH
 split
 ·dsimp only[begE]
  split
  ·exact⟨a21 _ _ h,a51 _ _ h,rfl,rfl⟩
  ·exact⟨rfl,rfl,rfl,rfl⟩
 ·exact⟨rfl,rfl,rfl,rfl⟩
theorem go_T (H:Hs) {u:Nat} (h:u≠t):(goH H t).E.T u=H.E.T u/\(goH H t).E.B=H.E.B/\(goH H t).E.nc=H.E.nc/\(goH H t).E.n=H.E.n:=by
 unfold goH
 split
 ·exact⟨rfl,rfl,rfl,rfl⟩
 ·exact⟨a21 _ _ h,rfl,rfl,rfl⟩
theorem an8 {u:Nat} (h:u≠t):finB (stepR X t).H.E u=finB X.H.E u:=by
 have e1:=go_T (t:=t) (begH X.H t) h;have e2:=bw5 (t:=t) X.H h;refine decide_eq_decide.2 ?_
 show finE (goH (begH X.H t) t).E u ↔ _
 unfold finE;rw[e1.1,e1.2.1,e1.2.2.1,e2.1,e2.2.1,e2.2.2.1]
theorem bK7:(stepR X t).H.E.n=X.H.E.n:=by
 by_cases h:(0:Nat)≠t
 ·exact((go_T (t:=t) (begH X.H t) h).2.2.2).trans (bw5 (t:=t) X.H h).2.2.2
 ·have h:(t+1)≠t:=by omega
  exact((go_T (t:=t) (begH X.H t) h).2.2.2).trans (bw5 (t:=t) X.H h).2.2.2
theorem bc3 (hn:X.H.E.n=s.n) (h8:s.n<=8) (ht:t<s.n) (hf:finB X.H.E t=false):Alk (if finB (stepR X t).H.E t then Sd.finN (Sd.stepN (rdZ s X) t) t else Sd.stepN (rdZ s X) t) (rdZ s (stepR X t)):=by
 have hg:(rdZ s X).g t=true:=by
  show (decide (t<s.n) && !finB X.H.E t)=true
  rw[hf,zT ht];rfl
 obtain⟨dn,hdn⟩:∃ dn,dn=aA1 (stepR X t).H.E (fun u=>if u=t then true else X.stp u) (stepR X t).H.E.n:=⟨_,rfl⟩
 have hR:(stepR X t).R=if dn then X.R+1 else X.R:=by rw[hdn];rfl
 have hS:(stepR X t).stp=if dn then fun _=>false else fun u=>if u=t then true else X.stp u:=by rw[hdn];rfl
 have hD:dn=true ↔ ∀ u,u<s.n->u≠t->finB X.H.E u=true∨X.stp u=true:=by
  rw[hdn,aw2,bK7,hn]
  constructor
  ·intro q u hu hne
   rcases q u hu with z | z
   ·exact .inl (by rw[<- an8 hne];exact zT z)
   ·rw[if_neg hne]at z;exact .inr z
  ·intro q u hu
   by_cases e:u=t
   ·exact .inr (if_pos e)
   ·rcases q u hu e with z | z
    ·rw[<- an8 e]at z;exact .inl (zP z)
    ·exact .inr (by rw[if_neg e];exact z)
 obtain⟨m1,hm1⟩:∃ m1:Sd.Rd,m1={ rdZ s X with s:=Sd.putF (rdZ s X).s t true }:=⟨_,rfl⟩
 have s1:∀ k,m1.s k=if k=t then true else decide (k<s.n) && (X.stp k && !finB X.H.E k):=fun k=>by rw[hm1];rfl
 have g1:∀ k,m1.g k=(decide (k<s.n) && !finB X.H.E k):=fun k=>by rw[hm1];rfl
 have hov:Sd.overB m1=dn:=by
  rw[Bool.eq_iff_iff,hD];unfold Sd.overB;rw[Bool.and_eq_true,Sd.eq8_iff]
  constructor
  ·rintro⟨_,q⟩ u hu hne
   have:=q u (by omega);rw[s1,g1,if_neg hne,zT hu]at this
   cases e1:finB X.H.E u with
   | true=>exact .inl rfl
   | false =>
    rw[e1]at this
    cases e2:X.stp u with
    | true=>exact .inr rfl
    | false=>rw[e2]at this;cases this
  ·intro q
   refine⟨?_,fun k hk=>?_⟩
   ·rw[Bool.not_eq_true',Bool.eq_false_iff]
    intro z;have:=(Sd.eq8_iff _ _).1 z t (by omega);rw[g1,hf,zT ht]at this
    cases this
   ·rw[s1,g1]
    by_cases e:k=t
    ·rw[if_pos e,e,hf,zT ht];rfl
    ·rw[if_neg e]
     by_cases hk':k<s.n
     ·rcases q k hk' e with z | z
      ·rw[z,zT hk'];cases X.stp k <;> rfl
      ·rw[z];rfl
     ·rw[zU hk'];rfl
 have hst:Sd.stepN (rdZ s X) t=if dn then { m1 with s:=Sd.noneF,o:=m1.o+1 } else m1:=by
  unfold Sd.stepN;rw[if_pos hg,<- hm1];unfold Sd.settleM;rw[hov]
 have mo:m1.o=X.R:=by rw[hm1];rfl
 have mn:m1.n=s.n:=by rw[hm1];rfl
 have G':∀ k,(rdZ s (stepR X t)).g k=(decide (k<s.n) && !finB (stepR X t).H.E k):=fun _=>rfl
 have S':∀ k,(rdZ s (stepR X t)).s k=(decide (k<s.n) && ((stepR X t).stp k && !finB (stepR X t).H.E k)):=fun _=>rfl
 rw[hst]
 cases hft:finB (stepR X t).H.E t with
 | false =>
  rw[if_neg Bool.false_ne_true];have fe:∀ k,finB (stepR X t).H.E k=finB X.H.E k:=fun k=>by
   by_cases e:k=t
   ·rw[e,hft,hf]
   ·exact an8 e
  cases hd:dn with
  | true =>
   rw[if_pos rfl];rw[hd]at hR hS;refine⟨mn,?_,fun k hk=>?_,fun k hk=>?_⟩
   ·show m1.o+1=(stepR X t).R
    rw[hR,mo];rfl
   ·rw[G',fe];exact g1 k
   ·rw[S',hS];show false=_;simp
  | false =>
   rw[if_neg Bool.false_ne_true];rw[hd]at hR hS;refine⟨mn,?_,fun k hk=>?_,fun k hk=>?_⟩
   ·show m1.o=(stepR X t).R
    rw[hR,mo];rfl
   ·rw[G',fe];exact g1 k
   ·rw[S',hS,fe,s1]
    by_cases e:k=t
    ·rw[if_pos e,e,hf,zT ht];simp
    ·rw[if_neg e];simp[e]
 | true =>
  rw[if_pos rfl];have fe:∀ k,k≠t->finB (stepR X t).H.E k=finB X.H.E k:=fun k e=>an8 e
  have gf:∀ m:Sd.Rd,m.g=m1.g->Sd.finN m t=Sd.settleM { m with g:=Sd.putF m.g t false,s:=Sd.putF m.s t false }:=fun m e=>by
   unfold Sd.finN;rw[if_pos];rw[e,g1,hf,zT ht];rfl
  have no:∀ m:Sd.Rd,m.g=m1.g->(dn=true->m.s=Sd.noneF)->(dn=false->m.s=m1.s)->Sd.overB { m with g:=Sd.putF m.g t false,s:=Sd.putF m.s t false }=false:=fun m e e1 e2=>by
   rw[Bool.eq_false_iff];unfold Sd.overB;rw[Ne,Bool.and_eq_true,Sd.eq8_iff];rintro⟨z1,z2⟩;rw[Bool.not_eq_true',Bool.eq_false_iff]at z1;have z2:∀ k,k<8->(if k=t then false else m.s k)=(if k=t then false else m.g k):=z2
   cases hd:dn with
   | true =>
    apply z1
    refine(Sd.eq8_iff _ _).2 fun k hk=>?_
    have:=z2 k hk
    show (if k=t then false else m.g k)=false
    rw[<- this,e1 hd]
    split <;> rfl
   | false =>
    have:¬ ∀ u,u<s.n->u≠t->finB X.H.E u=true∨X.stp u=true:=fun q=>by
     have:=hD.2 q;rw[hd]at this
     cases this
    apply this
    intro u hu hne;have z:=z2 u (by omega);rw[if_neg hne,if_neg hne,e2 hd,e,s1,g1,if_neg hne,zT hu]at z
    cases e1:finB X.H.E u with
    | true=>exact .inl rfl
    | false =>
     rw[e1]at z
     cases e2:X.stp u with
     | true=>exact .inr rfl
     | false=>rw[e2]at z;cases z
  have gg:∀ k,(if k=t then false else m1.g k)=(rdZ s (stepR X t)).g k:=fun k=>by
   rw[G']
   by_cases e:k=t
   ·rw[if_pos e,e,hft];simp
   ·rw[if_neg e,fe k e];exact g1 k
  cases hd:dn with
  | true =>
   rw[if_pos rfl,gf { m1 with s:=Sd.noneF,o:=m1.o+1 } rfl];unfold Sd.settleM;rw[no { m1 with s:=Sd.noneF,o:=m1.o+1 } rfl (fun _=>rfl) (fun z=>by rw[hd]at z;cases z),if_neg Bool.false_ne_true];rw[hd]at hR hS;refine⟨mn,?_,fun k hk=>gg k,fun k hk=>?_⟩
   ·show m1.o+1=(stepR X t).R
    rw[hR,mo];rfl
   ·rw[S',hS]
    show (if k=t then false else false)=_
    simp
  | false =>
   rw[if_neg Bool.false_ne_true,gf m1 rfl];unfold Sd.settleM;rw[no m1 rfl (fun z=>by rw[hd]at z;cases z) (fun _=>rfl),if_neg Bool.false_ne_true];rw[hd]at hR hS;refine⟨mn,?_,fun k hk=>gg k,fun k hk=>?_⟩
   ·show m1.o=(stepR X t).R
    rw[hR,mo];rfl
   ·rw[S',hS]
    show (if k=t then false else m1.s k)=_
    by_cases e:k=t
    ·rw[if_pos e,e,hft];simp
    ·rw[if_neg e,fe k e,s1,if_neg e];simp[e]
end
structure Es where
 X:Rs
 A:Nat->Int
def al3 (ws:List Int):Ty->Int
 | .inl _=>0
 | .inr (_,x)=>Md.Ct.aheadI ws 1 x.tick
def updI (A:Nat->Int) (i:Nat) (x:Int):Nat->Int:=fun k=>if k=i then x else A k
theorem az4 (A:Nat->Int) (i:Nat) (x:Int):updI A i x i=x:=if_pos rfl
theorem aR8 (A:Nat->Int) {i k:Nat} (x:Int) (h:k≠i):updI A i x k=A k:=if_neg h
def Z0 (s:Su):Es:=⟨X0 s,fun _=>0⟩
def aa0 (s:Su) (Z:Es) (t:Nat):Es:=⟨stepR Z.X t,if (Z.X.H.E.T t).isNone then updI Z.A Z.X.H.dn (al3 (goW (newT s t (s.call t (Z.X.H.E.B t))) Z.X.H.E.ws) (goS (newT s t (s.call t (Z.X.H.E.B t))) Z.X.H.E.ws)) else Z.A⟩
def trU (g:Value) (th no pr bg ah fr:Int):Array Value:=#[g,.int .i64 th,.int .i64 no,.int .i64 pr,.int .i64 0,.slice none 0 0,.int .i64 0,.int .i64 0,.slice none 0 0,.slice none 0 0,.slice none 0 0,.int .i64 0,.int .i64 0,.int .i64 0,.int .i64 bg,.int .i64 0,.int .i64 0,.int .i64 ah,.int .i64 fr,.int .i64 0]
def trO (y:Ty) (D:Rr.Dd) (th no pr bg en ah fr to_:Int):Array Value:=#[Value.nilIface] ++ dTx y D th no pr bg en ah fr to_
def goI (X:Rs) (t:Nat):Int:=if (X.H.E.T t).isNone then -1 else (X.H.at_ t:Int)
structure Fits (s:Su) (v:Ev) (d:Ed) (Z:Es):Prop where
 N:d.N=(Z.X.H.N:Int)
 ws:d.ws=Z.X.H.E.ws
 cnt:d.cnt=Z.X.H.E.cnt
 rd:d.rd=rdZ s Z.X
 T:d.T=Z.X.H.E.T
 dn:d.dn=Z.X.H.dn
 cr:∀ t,t<s.n->∃ qa qc,d.cr t=#[.slice qa (s.cs t).length qc,.int .i64 (Z.X.H.E.B t:Int),.int .i64 (goI Z.X t)]
 up:∀ i,i<Z.X.H.dn->(Z.X.H.D i).en=0->d.tr i=trU (txV (Z.X.H.D i).tx (v.tb (Z.X.H.D i).th)) (Z.X.H.D i).th (Z.X.H.D i).no (s.call (Z.X.H.D i).th (Z.X.H.D i).no).1 (Z.X.H.D i).bg (Z.A i) (Z.X.fr i)
 ov:∀ i,i<Z.X.H.dn->(Z.X.H.D i).en≠0->∃ D,d.L i=some (D,ag3 (Z.X.H.D i).tx,macT (Z.X.H.D i).tx)/\d.tr i=trO (Z.X.H.D i).tx D (Z.X.H.D i).th (Z.X.H.D i).no (s.call (Z.X.H.D i).th (Z.X.H.D i).no).1 (Z.X.H.D i).bg (Z.X.H.D i).en (Z.A i) (Z.X.fr i) (Z.X.to_ i)
structure Eng (w:World) (f:Ex) (v:Ev) (s:Su) (Z:Es):Prop where
 at_:∃ d,EnAt w f v s d/\Fits s v d Z
 wi:WI s Z.X
 rn:Z.X.R<=Z.X.H.N
section
variable {w:World} {a b c e th:Int} {ao:Option Addr} {cs:List Ins} {n cap:Nat} {po:Option Addr} {l:List Nat} {k co:Nat}
def Born (w w':World) (bx:Nat) (y:Ty):Prop:=∃ G K,TxAt w' bx G K y/\Abv w.heap.size G/\Abv w.heap.size K/\Bl w w'
theorem az3 (w:World) (o o':Obj):Bl w ((w.alloc o).alloc o'):=(below_alloc w o).trans ((below_alloc _ o').mono (by simp))
theorem bF0 (hc:Md.cfgB a b c e=true) (hn:cs.length=n) (hk:l.length=k) (hk8:k<=8) (hT:Shaped5 w) (hC:a39 w ao cs) (hL:FlAt w po l) (hnl:n<=9223372036854775807) (h0:0<=th) (h1:th<b):Calls Tryz.prog 68 #[cfgV a b c e,.int .i64 th,.agg #[.int .i64 2,.slice ao n cap],.slice po k co] w fun r w'=>∃ bx,r=.returned (.iface 145 (.pointer (some ⟨bx,0,none⟩)))/\Hid (Born w w' bx (.inr ((newY a b c e 2 cs l th).m,newY a b c e 2 cs l th))):=by
 have HN:Hid (∀ u,Bl w u->Calls Tryz.prog 80 #[cfgV a b c e,.int .i64 th,.agg #[.int .i64 2,.slice ao n cap],.slice po k co] u fun r w'=>∃ bx,r=.returned (.pointer (some ⟨bx,0,none⟩))/\Made u w' bx (newY a b c e 2 cs l th)):=fun u hb=>Ww.new_yes hc hn hk hk8 (hT.on hb) (hC.on hb) (hL.on hb) hnl h0 h1
 have HB:=zH (az3 w (cfgO a b c e) (prgO 2 ao n cap));clear hT hC hL;go_enter Tryz.func68,Tryz.ntmps68
 go_wp2_with (go_at_call 80;refine(HN.out _ HB.out).mono ?_;rintro r u1 ⟨bx,rfl,q⟩;have HQ:=zH q;clear q HN)
 go_ret;refine⟨bx,rfl,?_⟩;obtain⟨z,v,q1,q2,q3,q4⟩:=HQ.out.at_;exact⟨_,_,⟨z,v,q1,q2,rfl,rfl⟩,q3.mono HB.out.size,q4.mono HB.out.size,HB.out.trans (HQ.out.bl.mono HB.out.size)⟩
theorem bE9 {tg:Int} (htg:¬ tg=2) (hc:Md.cfgB a b c e=true) (hn:cs.length=n) (hk:l.length=k) (hk8:k<=8) (hT:Shaped5 w) (hC:a39 w ao cs) (hL:FlAt w po l) (hnl:n<=9223372036854775807) (h0:0<=th) (h1:th<b):Calls Tryz.prog 68 #[cfgV a b c e,.int .i64 th,.agg #[.int .i64 tg,.slice ao n cap],.slice po k co] w fun r w'=>∃ bx,r=.returned (.iface 147 (.pointer (some ⟨bx,0,none⟩)))/\Hid (Born w w' bx (.inl ((newX a b c e tg cs l th).m,newX a b c e tg cs l th))):=by
 have HN:Hid (∀ u,Bl w u->Calls Tryz.prog 81 #[cfgV a b c e,.int .i64 th,.agg #[.int .i64 tg,.slice ao n cap],.slice po k co] u fun r w'=>∃ bx,r=.returned (.pointer (some ⟨bx,0,none⟩))/\Rr.Made u w' bx (newX a b c e tg cs l th)):=fun u hb=>Rr.new_yes hc hn hk hk8 (hT.on hb) (hC.on hb) (hL.on hb) hnl h0 h1
 have HB:=zH (az3 w (cfgO a b c e) (prgO tg ao n cap));have htb:(tg == 2)=false:=by simpa using htg
 clear hT hC hL htg;go_enter Tryz.func68,Tryz.ntmps68
 go_wp2_with (go_at_call 81;refine(HN.out _ HB.out).mono ?_;rintro r u1 ⟨bx,rfl,q⟩;have HQ:=zH q;clear q HN)
 go_ret;refine⟨bx,rfl,?_⟩;obtain⟨z,F,r,q1,q3,q4⟩:=HQ.out.at_;exact⟨_,_,⟨z,none,F,r,q1,.inl ⟨rfl,by show (-1:Int)<0;omega⟩,rfl,rfl⟩,q3.mono HB.out.size,q4.mono HB.out.size,HB.out.trans (HQ.out.bl.mono HB.out.size)⟩
end
theorem bf2 {w:World} {s:Su} (hs:SuIn s) {t j:Nat} (ht:t<s.n) (hj:j<(s.cs t).length) (hT:Shaped5 w) {x:Int × List Nat} (hx:s.call t j=x) {ao po:Option Addr} {n cap k co:Nat} (hn:(s.prog x.1).2.length=n) (hk:x.2.length=k) (hC:a39 w ao (s.prog x.1).2) (hL:FlAt w po x.2) (hnl:n<=9223372036854775807) :
  Calls Tryz.prog 68 #[cfgV s.a s.b s.c s.e,.int .i64 (t:Int),.agg #[.int .i64 (s.prog x.1).1,.slice ao n cap],.slice po k co] w fun r w'=>∃ bx,r=.returned (txV (newT s t x) bx)/\Hid (Born w w' bx (newT s t x)):=by
 have ha:=hs.args hj;rw[hx]at ha;have hb:=hs.nb;unfold newT
 by_cases q:(s.prog x.1).1=2
 ·rw[if_pos q,q]
  exact bF0 hs.cfg hn hk (by omega) hT hC hL hnl (by omega) (by omega)
 ·rw[if_neg q]
  exact bE9 q hs.cfg hn hk (by omega) hT hC hL hnl (by omega) (by omega)
section
variable {w:World} {b mb mg:Nat} {G K:List Nat} {y:Ty} {s:Su} {t:Nat} {N n:Int} {ws:List Int} {o:Bool} {p4 p5:Int}
abbrev plO (p4 p5:Int):Obj:=.cells #[.int .i64 0,.int .i64 1,.int .i64 2,.int .i64 3,.int .i64 p4,.int .i64 p5] 62
abbrev plV (p4 p5:Int):Value:=.agg #[.int .i64 0,.int .i64 1,.int .i64 2,.int .i64 3,.int .i64 p4,.int .i64 p5]
theorem bR7 (a:Addr) (w:World):(Instr.typeAssert (.iface 147 (.pointer (some a))) 87 145 true).run Tryz.prog w=.ok (.tuple #[.pointer none,.bool false]) w:=by kernel_rfl
theorem bK8 (a:Addr) (w:World):(Instr.typeAssert (.iface 145 (.pointer (some a))) 87 145 true).run Tryz.prog w=.ok (.tuple #[.pointer (some a),.bool true]) w:=by kernel_rfl
attribute [local go_sem] bR7 bK8
theorem bw0:Calls Tryz.prog 69 #[.iface 147 (.pointer (some ⟨b,0,none⟩)),.pointer (some ⟨mb,0,none⟩),plV p4 p5] w fun r w'=>r=.returned (.int .i64 0)/\Bl w w':=by
 have HB:=zH (below_alloc w (plO p4 p5));go_enter Tryz.func69,Tryz.ntmps69;go_wp2_with fail;go_ret;exact⟨rfl,HB.out⟩
theorem bj9 (th no pr tag:Int) (na:Nat) (mark num:Int) (m:Mac) (D:Rr.Dd) (e0 e1 e2 bg en st ah fr to_:Int) (w:World):(Instr.field 46 (.agg (dCel th no pr tag na mark num m D e0 e1 e2 bg en st ah fr to_)) 5).run Tryz.prog w=.ok (.int .i64 mark) w:=by kernel_rfl
theorem bs4 {x:Int} (h:u64B x):IntKind.u64.wrap (wrap64 x)=x:=by
 unfold u64B at h;simp only[IntKind.wrap_u64,wrap64];omega
attribute [local go_sem] bj9
theorem af3 {u:World} {g:Nat} (h:u.heap[g]?=some (plO p4 p5)):u.cell? ⟨g,0,none⟩=some (.int .i64 0)/\u.cell? ⟨g,1,none⟩=some (.int .i64 1)/\u.cell? ⟨g,2,none⟩=some (.int .i64 2)/\u.cell? ⟨g,3,none⟩=some (.int .i64 3)/\u.cell? ⟨g,4,none⟩=some (.int .i64 p4)/\u.cell? ⟨g,5,none⟩=some (.int .i64 p5) :=
 ⟨(zR u g 0 _ _ _ h).trans rfl,(zR u g 1 _ _ _ h).trans rfl,(zR u g 2 _ _ _ h).trans rfl,(zR u g 3 _ _ _ h).trans rfl,(zR u g 4 _ _ _ h).trans rfl,(zR u g 5 _ _ _ h).trans rfl⟩
theorem bw1 {m:Mac} {x:Wx} (h:TxAt w b G K (.inr (m,x))) (hI:TIn s t N (.inr (m,x))) (hp:x.part≠1) (hm:MemAt 105 w mb mg ws o n):Calls Tryz.prog 69 #[.iface 145 (.pointer (some ⟨b,0,none⟩)),.pointer (some ⟨mb,0,none⟩),plV p4 p5] w fun r w'=>r=.returned (.int .i64 (Md.Ct.aheadI ws 1 x.tick))/\Bl w w':=by
 have hmk:b99 x=wrap64 x.tick:=by unfold b99;rw[if_neg hp]
 have HCV:Hid (IntKind.u64.wrap (wrap64 x.tick)=x.tick):=bs4 hI.1.tk;have HD:Hid (∀ u,Bl w u->Calls Tryz.prog 83 #[.pointer (some ⟨b,0,none⟩)] u fun e w'=>∃ D,e=.returned (.agg (dCel 0 0 0 x.tag x.args.length (wrap64 x.tick) x.num x.m D (endT (.inr (m,x)) x.m.how) (endT (.inr (m,x)) x.m.cod) (endT (.inr (m,x)) x.m.err) 0 0 x.steps 0 0 0))/\Bl u w'):=fun u hu=>by
  refine(aR7 (h.on hu) hI).mono ?_;rintro e w' ⟨D,rfl,_,k⟩;refine⟨D,?_,k⟩;rw[<- hmk]
  rfl
 have HA:Hid (∀ u,Bl w u->Calls Tryz.prog 82 #[.pointer (some ⟨mb,0,none⟩),plV p4 p5,.int .u64 x.tick] u fun e w'=>e=.returned (.tuple #[.int .i64 (Md.Ct.aheadI ws 1 x.tick),.int .i64 (errP ws 1)])/\Bl u w'):=fun u hu=>(Md.Ct.ahead_any (hm.on hu) 0 1 2 3 p4 p5 x.tick).mono fun e w' q=>⟨q.1,q.2.2⟩
 have HB:=zH (And.intro (below_alloc w (plO p4 p5)) (zN w (plO p4 p5)));have HX:Hid (∀ u,Below (w.alloc (plO p4 p5)).heap.size (w.alloc (plO p4 p5)) u->Bl w u/\u.heap[w.heap.size]?=some (plO p4 p5)):=fun u hu=>⟨HB.out.1.trans (hu.mono HB.out.1.size),(hu.block _ (lt_of_block HB.out.2)).trans HB.out.2⟩
 clear h hI hp hm hmk
 generalize endT (.inr (m,x)) x.m.how=e0 at *
 generalize endT (.inr (m,x)) x.m.cod=e1 at *
 generalize endT (.inr (m,x)) x.m.err=e2 at *
 generalize Md.Ct.aheadI ws 1 x.tick=A at *
 generalize errP ws 1=E at *
 obtain⟨mk,hmk⟩:∃ mk,wrap64 x.tick=mk:=⟨_,rfl⟩
 rw[hmk]at HCV HD;clear hmk;go_enter Tryz.func69,Tryz.ntmps69;go_wp2_with fail;obtain⟨w1,hw1⟩:∃ w1,w1=w.alloc (plO p4 p5):=⟨_,rfl⟩
 rw[<- hw1]at HB HX;rw[show w.alloc (.cells #[.int .i64 0,.int .i64 1,.int .i64 2,.int .i64 3,.int .i64 p4,.int .i64 p5] 62)=w1 from hw1.symm];clear hw1;refine a09 (fun u=>u.cell? ⟨w.heap.size,0,none⟩=some (.int .i64 0)/\u.cell? ⟨w.heap.size,1,none⟩=some (.int .i64 1)/\u.cell? ⟨w.heap.size,2,none⟩=some (.int .i64 2)/\u.cell? ⟨w.heap.size,3,none⟩=some (.int .i64 3)/\u.cell? ⟨w.heap.size,4,none⟩=some (.int .i64 p4)/\u.cell? ⟨w.heap.size,5,none⟩=some (.int .i64 p5) )  ((0,true)::(1,true)::(2,true)::(3,false)::(4,true)::(5,true)::(6,false)::(7,true)::(8,true)::(9,true)::(10,true)::(11,true)::[])  Md.Cv.follows13 (by kernel_rfl) (fun _ _ _ _ _ h=>h)  (af3 HB.out.2) ?_
 (repeat ((first | (refine a02 (v:=?_) rfl (by rfl) (fun wq hSq=>?_) ?_;rotate_left;(focus ((try dsimp only at hSq);go_simp;try with_reducible rfl))) | refine a03 rfl (by rfl) ?_);simp only[Act.put,zA,zB,zC]))
 (refine a05 rfl (by rfl) (fun KK hK=>?_);go_simp)
 refine(HD.out _ (HX.out _ ((Same.drew w1).below _)).1).mono ?_;rintro e u2 ⟨D,rfl,k⟩;have A2:Hid (Bl w1 u2):=((Same.drew w1).below _).trans k;clear k;refine hK.out _ _ (af3 (HX.out _ A2.out).2) ?_
 (clear hK KK;try simp only[Act.put,zA,zB,zC])
 (repeat ((first | (refine a02 (v:=?_) rfl (by rfl) (fun wq hSq=>?_) ?_;rotate_left;(focus ((try dsimp only at hSq);go_simp;try with_reducible rfl))) | refine a03 rfl (by rfl) ?_);simp only[Act.put,zA,zB,zC]))
 rw[HCV.out]
 (refine a05 rfl (by rfl) (fun KK hK=>?_);go_simp)
 refine(HA.out _ (HX.out _ A2.out).1).mono ?_;rintro e u3 ⟨rfl,k⟩;have A3:Hid (Bl w1 u3):=a17 A2.out k;clear k;refine hK.out _ _ (af3 (HX.out _ A3.out).2) ?_
 (clear hK KK;try simp only[Act.put,zA,zB,zC])
 (repeat ((first | (refine a02 (v:=?_) rfl (by rfl) (fun wq hSq=>?_) ?_;rotate_left;(focus ((try dsimp only at hSq);go_simp;try with_reducible rfl))) | refine a03 rfl (by rfl) ?_);simp only[Act.put,zA,zB,zC]))
 refine a13 ?_;go_wp2_with fail;go_ret;exact⟨rfl,(HX.out _ A3.out).1⟩
theorem ahead_any (h:TxAt w b G K y) (hI:TIn s t N y) (hp:∀ m x,y=.inr (m,x)->x.part≠1) (hm:MemAt 105 w mb mg ws o n):Calls Tryz.prog 69 #[txV y b,.pointer (some ⟨mb,0,none⟩),plV p4 p5] w fun r w'=>r=.returned (.int .i64 (al3 ws y))/\Bl w w':=by
 rcases y with⟨m,x⟩ | ⟨m,x⟩
 ·exact bw0
 ·exact bw1 h hI (hp m x rfl) hm
end
section
variable {w w':World} {f:Ex} {v:Ev} {s:Su} {d:Ed} {t nc qc:Nat} {qa:Option Addr} {bgn go:Int}
def finI (bgn go:Int) (nc:Nat):Bool:=decide (go=-1) && decide (bgn=(nc:Int))
theorem EnAt.course (h:EnAt w f v s d) (ht:t<s.n) (hc:d.cr t=#[.slice qa nc qc,.int .i64 bgn,.int .i64 go]):w.cell? ⟨f.gc,t*3,none⟩=some (.slice qa nc qc)/\w.cell? ⟨f.gc,t*3+1,none⟩=some (.int .i64 bgn)/\w.cell? ⟨f.gc,t*3+2,none⟩=some (.int .i64 go)/\f.gc<w.heap.size:=by
 have C:∀ j,j<3->w.cell? ⟨f.gc,t*3+j,none⟩=(d.cr t)[j]?:=fun j hj=>h.crs.cell ht hj
 rw[hc]at C;exact⟨(C 0 (by omega)).trans rfl,(C 1 (by omega)).trans rfl,(C 2 (by omega)).trans rfl,h.crs.lt⟩
theorem ai7 {g o:Nat} (h0:w.cell? ⟨g,o,none⟩=some (.slice qa nc qc)) (h1:w.cell? ⟨g,o+1,none⟩=some (.int .i64 bgn)) (h2:w.cell? ⟨g,o+2,none⟩=some (.int .i64 go)):Calls Tryz.prog 39 #[.pointer (some ⟨g,o,none⟩)] w fun e w'=>e=.returned (.bool (finI bgn go nc))/\Same w w':=by
 by_cases q:go=-1
 ·have qb:(go == -1)=true:=by simpa using q
  have HB:Hid (finI bgn go nc=(bgn == (nc:Int))):=by unfold finI;rw[zT q,Bool.true_and];rfl
  clear q;go_enter Tryz.func39,Tryz.ntmps39;go_wp2_with fail;refine a09 (fun u=>u.cell? ⟨g,o,none⟩=some (.slice qa nc qc)/\u.cell? ⟨g,o+1,none⟩=some (.int .i64 bgn)/\u.cell? ⟨g,o+2,none⟩=some (.int .i64 go) )  ((0,true)::(1,true)::(2,true)::(3,true)::(4,true)::(5,true)::(6,true)::(7,true)::(8,true)::(9,true)::(10,true)::(11,true)::(12,true)::(13,true)::(14,true)::(15,true)::(16,true)::(17,true)::[])  Md.Cv.follows13 (by kernel_rfl) (fun _ _ _ _ _ h=>h)  ⟨h0,h1,h2⟩ ?_
  (repeat ((first | (refine a02 (v:=?_) rfl (by rfl) (fun wq hSq=>?_) ?_;rotate_left;(focus ((try dsimp only at hSq);go_simp;try with_reducible rfl))) | refine a03 rfl (by rfl) ?_);simp only[Act.put,zA,zB,zC]))
  refine a13 ?_;go_wp2_with fail;go_ret;exact⟨by rw[HB.out];rfl,Same.drew w⟩
 ·have qb:(go == -1)=false:=by simpa using q
  have HB:Hid (finI bgn go nc=false):=by unfold finI;rw[zU q,Bool.false_and];trivial
  clear q;go_enter Tryz.func39,Tryz.ntmps39;go_wp2_with fail;refine a09 (fun u=>u.cell? ⟨g,o,none⟩=some (.slice qa nc qc)/\u.cell? ⟨g,o+1,none⟩=some (.int .i64 bgn)/\u.cell? ⟨g,o+2,none⟩=some (.int .i64 go) )  ((0,true)::(1,true)::(2,true)::(3,true)::(4,true)::(5,true)::(6,true)::(7,true)::(8,true)::(9,true)::(10,true)::(11,true)::(12,true)::(13,true)::(14,true)::(15,true)::(16,true)::(17,true)::[])  Md.Cv.follows13 (by kernel_rfl) (fun _ _ _ _ _ h=>h)  ⟨h0,h1,h2⟩ ?_
  (repeat ((first | (refine a02 (v:=?_) rfl (by rfl) (fun wq hSq=>?_) ?_;rotate_left;(focus ((try dsimp only at hSq);go_simp;try with_reducible rfl))) | refine a03 rfl (by rfl) ?_);simp only[Act.put,zA,zB,zC]))
  refine a13 ?_;go_wp2_with fail;go_ret;exact⟨by rw[HB.out];rfl,Same.drew w⟩
theorem aa5 (h:EnAt w f v s d) (hs:SuIn s) (x:Int):Calls Tryz.prog 43 #[.pointer (some ⟨f.b,0,none⟩),.int .i64 x] w fun e w'=>e=.returned (.bool (decide (0<=x) && decide (x<(s.n:Int))))/\w'=w:=by
 have c:=(h.cell 13).trans (rfl:_=some (Value.slice (some ⟨f.gc,0,none⟩) s.n s.n));have hb:=h.ltB;have h8:(s.n:Int)<=8:=by have:=hs.nb;have:=hs.b8;omega
 clear h;go_enter Tryz.func43,Tryz.ntmps43
 by_cases q:0<=x
 ·go_wp2_with fail
  go_ret;exact⟨by simp[q],rfl⟩
 ·go_wp2_with fail
  go_ret;exact⟨by simp;omega,rfl⟩
end
section
variable {w:World} {b g o:Nat} {G K:List Nat} {y:Ty} {s:Su} {t:Nat} {N:Int} {th no pr bg ah fr to_:Int}
structure UpC (u:World) (g o:Nat) (x:Value) (th no pr bg ah fr:Int):Prop where
 c0:u.cell? ⟨g,o,none⟩=some x
 c1:u.cell? ⟨g,o+1,none⟩=some (.int .i64 th)
 c2:u.cell? ⟨g,o+2,none⟩=some (.int .i64 no)
 c3:u.cell? ⟨g,o+3,none⟩=some (.int .i64 pr)
 c14:u.cell? ⟨g,o+14,none⟩=some (.int .i64 bg)
 c17:u.cell? ⟨g,o+17,none⟩=some (.int .i64 ah)
 c18:u.cell? ⟨g,o+18,none⟩=some (.int .i64 fr)
 lt:g<u.heap.size
theorem ac2 (th no pr tag:Int) (na:Nat) (mark num:Int) (m:Mac) (D:Rr.Dd) (e0 e1 e2 bg en st ah fr to_:Int):(dCel th no pr tag na mark num m D e0 e1 e2 bg en st ah fr to_).all (·.oneCell')=true:=by simp[dCel,Value.oneCell']
theorem bH0 {u:World} {B g:Nat} {D:Rr.Dd} {args:List Nat} {m:Mac} (h:Rr.DdAt u B D args m) (hn:g∉fpR D.pa/\g∉fpR D.pr/\g∉fpR D.pw/\g∉fpR D.po) (j:Nat) (x:Value):Rr.DdAt (u.setCell ⟨g,j,none⟩ x) B D args m :=
 ⟨h.a.keep (af1 hn.1),h.r.keep (af1 hn.2.1),h.wr.keep (af1 hn.2.2.1),h.o.keep (af1 hn.2.2.2),h.xa,h.xr,h.xw,h.xo⟩
structure TBox (w u:World) (g:Nat) (D:Rr.Dd) (args:List Nat) (m:Mac) (c:Array Value):Prop where
 box:u.heap[g]?=some (.cells c 46 (0,0))
 dd:Rr.DdAt u (w.alloc Rr.dZ).heap.size D args m
 bl:Below (w.alloc Rr.dZ).heap.size (w.alloc Rr.dZ) u
 lo:(w.alloc Rr.dZ).heap.size<=g
 ap:g∉fpR D.pa/\g∉fpR D.pr/\g∉fpR D.pw/\g∉fpR D.po
theorem TBox.old {u:World} {D:Rr.Dd} {args:List Nat} {m:Mac} {c:Array Value} (h:TBox w u g D args m c):Bl w u:=(below_alloc w _).trans (h.bl.mono (below_alloc w _).size)
theorem TBox.set {u:World} {D:Rr.Dd} {args:List Nat} {m:Mac} {c:Array Value} (h:TBox w u g D args m c) (j:Nat) (x:Value) (c':Array Value) (e:c.setIfInBounds j x=c'):TBox w (u.setCell ⟨g,j,none⟩ x) g D args m c' :=
 ⟨by rw[<- e];exact zS u g j _ _ x h.box,bH0 h.dd h.ap j x,h.bl.setCell h.lo _,h.lo,h.ap⟩
theorem TBox.drew {u:World} {D:Rr.Dd} {args:List Nat} {m:Mac} {c:Array Value} (h:TBox w u g D args m c):TBox w u.drew g D args m c:=⟨h.box,h.dd.on ((Same.drew _).below _),h.bl.trans ((Same.drew _).below _),h.lo,h.ap⟩
theorem TBox.res {u:World} {D:Rr.Dd} {args:List Nat} {m:Mac} {c:Array Value} (h:TBox w u g D args m c):u.heap[w.heap.size]?=some Rr.dZ:=(h.bl.block _ (by simp)).trans (zN _ _)
theorem TBox.done {u:World} {D:Rr.Dd} {args:List Nat} {m:Mac} {c c':Array Value} (h:TBox w u g D args m c):Rr.DdAt (u.setRow w.heap.size c') w.heap.size D args m/\Bl w (u.setRow w.heap.size c'):=by
 have hl:w.heap.size<(w.alloc Rr.dZ).heap.size:=by simp
 exact⟨(h.dd.keep (fun i hi _=>setRow_other _ _ _ _ (by omega)) (by simp)).mono (by omega),Md.Ce.bl_setRow h.old (zE _) _⟩
theorem au5 {fn:Func} {p:Tmp} (h:fn.results=#[.cell p 46]) {R:Ending->World->Prop} {a:Act} {w:World} (g:Nat) {th no pr tag:Int} {na:Nat} {mark num:Int} {m:Mac} {D:Rr.Dd} {e0 e1 e2 bg en st ah fr to_:Int} (hp:a.tmps.getD p undef=.pointer (some ⟨g,0,none⟩))
  (hg:w.heap[g]?=some (.cells (dCel th no pr tag na mark num m D e0 e1 e2 bg en st ah fr to_) 46 (0,0))) (hd:a.defers=[]) (hR:R (.returned (.agg (dCel th no pr tag na mark num m D e0 e1 e2 bg en st ah fr to_))) w):bodyPost Tryz.prog fn R .ret a w :=
 bodyPost_ret (results_cell_row h _ _ g _ _ _ _ hp hg Tryz.underlying46 rfl (by kernel_rfl)) hd hR
theorem bL1 {tg:Int} {na:Nat} {mk nu:Int} {m:Mac} {e0 e1 e2 st:Int} {args:List Nat} (hc:∀ u,Bl w u->UpC u g o (.iface 147 (.pointer (some ⟨b,0,none⟩))) th no pr bg ah fr) (hD:∀ u,Bl w u->Calls Tryz.prog 247 #[.pointer (some ⟨b,0,none⟩)] u fun e w'=>∃ D,e=.returned (.agg (dCel 0 0 0 tg na mk nu m D e0 e1 e2 0 0 st 0 0 0))/\Rr.DdAt w' u.heap.size D args m/\Bl u w') :
  Calls Tryz.prog 35 #[.pointer (some ⟨g,o,none⟩),.int .i64 to_] w fun e w'=>∃ D,e=.returned (.agg (dCel th no pr tg na mk nu m D e0 e1 e2 bg 0 st ah fr to_))/\Hid (Rr.DdAt w' w.heap.size D args m/\Bl w w'):=by
 have HC:=zH hc;have HD:=zH hD;have HB:=zH (below_alloc w Rr.dZ);obtain⟨c0,c1,c2,c3,c14,c17,c18,lt⟩:=HC.out _ HB.out;clear hc hD;go_enter Tryz.func35,Tryz.ntmps35
 go_upto_region 4 with(first
  | (refine wpList_store_row rfl 46 _ _ rfl u1.heap.size (dCel 0 0 0 tg na mk nu m D e0 e1 e2 0 0 st 0 0 0) rfl rfl _ _ (zN _ _) Rr.deedInfo rfl (ac2 ..) ?_;rw[World.setRow_alloc_new])
  | (go_at_call 247;refine(HD.out _ HB.out).mono ?_;rintro e u1 ⟨D,rfl,q1,q2⟩;have H1:=zH (And.intro q1 q2);clear q1 q2 HD c0 c1 c2 c3 c14 c17 c18 lt))
 obtain⟨g5,hg5⟩:∃ g5,u1.heap.size=g5:=⟨_,rfl⟩
 obtain⟨u2,hu2⟩:∃ u2,u2=u1.alloc (.cells (dCel 0 0 0 tg na mk nu m D e0 e1 e2 0 0 st 0 0 0) 46):=⟨_,rfl⟩
 rw[<- hu2,hg5];simp only[Act.put];have H2:Hid (TBox w u2 g5 D args m (dCel 0 0 0 tg na mk nu m D e0 e1 e2 0 0 st 0 0 0)):=by
  rw[hu2,<- hg5];exact⟨zN _ _,H1.out.1.on (below_alloc _ _),a17 H1.out.2 (below_alloc _ _),H1.out.2.size,⟨fun q=>absurd (H1.out.1.a.blw _ q) (by omega),fun q=>absurd (H1.out.1.r.blw _ q) (by omega),fun q=>absurd (H1.out.1.wr.blw _ q) (by omega),fun q=>absurd (H1.out.1.o.blw _ q) (by omega)⟩⟩
 clear hu2 hg5 H1
 go_cut [38] (fun _ wc=>Hid (TBox w wc g5 D args m (dCel th no pr tg na mk nu m D e0 e1 e2 0 0 st 0 0 0)))
 case first =>
  obtain⟨c0,c1,c2,c3,c14,c17,c18,lt⟩:=HC.out _ H2.out.old;have hne:¬ g=g5:=fun e=>by subst e;exact absurd H2.out.lo (Nat.not_le.2 (zL (HC.out _ (zF _ _)).lt (Nat.le_of_lt (by simp))))
  have hne':¬ g5=g:=fun e=>hne e.symm
  have k0:=(zR u2 g5 0 _ _ _ H2.out.box).trans (rfl:_=some (Value.int .i64 0));have k1:=(zR u2 g5 1 _ _ _ H2.out.box).trans (rfl:_=some (Value.int .i64 0));have k2:=(zR u2 g5 2 _ _ _ H2.out.box).trans (rfl:_=some (Value.int .i64 0));have j0:=zZ u2 g5 0 _ _ H2.out.box;have j1:=zZ u2 g5 1 _ _ H2.out.box;have j2:=zZ u2 g5 2 _ _ H2.out.box;refine a09 (fun u=>u.cell? ⟨g,o+1,none⟩=some (.int .i64 th)/\u.cell? ⟨g,o+2,none⟩=some (.int .i64 no)/\u.cell? ⟨g,o+3,none⟩=some (.int .i64 pr) )  ((0,true)::(1,true)::(2,true)::(3,true)::(4,true)::(5,true)::(6,true)::(7,true)::(8,true)::(9,true)::(10,true)::(11,true)::(12,true)::(13,true)::(14,true)::(15,true)::(16,false)::(17,true)::(18,false)::(19,true)::(20,false)::[])  Md.Cv.follows13 (by kernel_rfl) (fun _ _ _ _ _ h=>h)  ⟨c1,c2,c3⟩ ?_
  (repeat ((first | (refine a02 (v:=?_) rfl (by rfl) (fun wq hSq=>?_) ?_;rotate_left;(focus ((try dsimp only at hSq);go_simp;try with_reducible rfl))) | refine a03 rfl (by rfl) ?_);simp only[Act.put,zA,zB,zC]))
  (refine a05 rfl (by rfl) (fun KK hK=>?_);go_simp)
  have T0:=zH (H2.out.drew.set 0 (.int .i64 th) _ rfl);obtain⟨_,d1,d2,d3,_,_,_,_⟩:=HC.out _ T0.out.old;refine hK.out _ _ ⟨d1,d2,d3⟩ ?_
  (clear hK KK;try simp only[Act.put])
  clear d1 d2 d3
  (repeat ((first | (refine a02 (v:=?_) rfl (by rfl) (fun wq hSq=>?_) ?_;rotate_left;(focus ((try dsimp only at hSq);go_simp;try with_reducible rfl))) | refine a03 rfl (by rfl) ?_);simp only[Act.put,zA,zB,zC]))
  (refine a05 rfl (by rfl) (fun KK hK=>?_);go_simp)
  have T1:=zH (T0.out.set 1 (.int .i64 no) _ rfl);obtain⟨_,d1,d2,d3,_,_,_,_⟩:=HC.out _ T1.out.old;refine hK.out _ _ ⟨d1,d2,d3⟩ ?_
  (clear hK KK;try simp only[Act.put])
  clear d1 d2 d3
  (repeat ((first | (refine a02 (v:=?_) rfl (by rfl) (fun wq hSq=>?_) ?_;rotate_left;(focus ((try dsimp only at hSq);go_simp;try with_reducible rfl))) | refine a03 rfl (by rfl) ?_);simp only[Act.put,zA,zB,zC]))
  (refine a05 rfl (by rfl) (fun KK hK=>?_);go_simp)
  have T2:=zH (T1.out.set 2 (.int .i64 pr) _ rfl);obtain⟨_,d1,d2,d3,_,_,_,_⟩:=HC.out _ T2.out.old;refine hK.out _ _ ⟨d1,d2,d3⟩ ?_
  (clear hK KK;try simp only[Act.put])
  clear d1 d2 d3;refine a13 ?_;go_wp2_with fail
  go_meet
  exact T2.out
 case rest =>
  have H3:=hcut;clear H2
  go_upto_region 5 with fail
  go_cut [58] (fun _ wc2=>Hid (TBox w wc2 g5 D args m (dCel th no pr tg na mk nu m D e0 e1 e2 bg 0 st ah fr to_)))
  case first =>
   obtain⟨c0,c1,c2,c3,c14,c17,c18,lt⟩:=HC.out _ H3.out.old;have hne:¬ g=g5:=fun e=>by subst e;exact absurd H3.out.lo (Nat.not_le.2 (zL (HC.out _ (zF _ _)).lt (Nat.le_of_lt (by simp))))
   have hne':¬ g5=g:=fun e=>hne e.symm
   have k0:=(zR wc g5 13 _ _ _ H3.out.box).trans (rfl:_=some (Value.int .i64 0));have k1:=(zR wc g5 16 _ _ _ H3.out.box).trans (rfl:_=some (Value.int .i64 0));have k2:=(zR wc g5 17 _ _ _ H3.out.box).trans (rfl:_=some (Value.int .i64 0));have k3:=(zR wc g5 18 _ _ _ H3.out.box).trans (rfl:_=some (Value.int .i64 0));have j0:=zZ wc g5 13 _ _ H3.out.box;have j1:=zZ wc g5 16 _ _ H3.out.box;have j2:=zZ wc g5 17 _ _ H3.out.box;have j3:=zZ wc g5 18 _ _ H3.out.box;refine a09 (fun u=>u.cell? ⟨g,o+14,none⟩=some (.int .i64 bg)/\u.cell? ⟨g,o+17,none⟩=some (.int .i64 ah)/\u.cell? ⟨g,o+18,none⟩=some (.int .i64 fr) )  ((0,true)::(1,true)::(2,true)::(3,true)::(4,true)::(5,true)::(6,true)::(7,true)::(8,true)::(9,true)::(10,true)::(11,true)::(12,true)::(13,true)::(14,true)::(15,true)::(16,true)::(17,false)::(18,true)::(19,false)::(20,true)::(21,false)::(22,true)::(23,false)::[])  Md.Cv.follows13 (by kernel_rfl) (fun _ _ _ _ _ h=>h)  ⟨c14,c17,c18⟩ ?_
   (repeat ((first | (refine a02 (v:=?_) rfl (by rfl) (fun wq hSq=>?_) ?_;rotate_left;(focus ((try dsimp only at hSq);go_simp;try with_reducible rfl))) | refine a03 rfl (by rfl) ?_);simp only[Act.put,zA,zB,zC]))
   (refine a05 rfl (by rfl) (fun KK hK=>?_);go_simp)
   have T0:=zH (H3.out.drew.set 13 (.int .i64 bg) _ rfl);obtain⟨_,_,_,_,d14,d17,d18,_⟩:=HC.out _ T0.out.old;refine hK.out _ _ ⟨d14,d17,d18⟩ ?_
   (clear hK KK;try simp only[Act.put])
   clear d14 d17 d18
   (repeat ((first | (refine a02 (v:=?_) rfl (by rfl) (fun wq hSq=>?_) ?_;rotate_left;(focus ((try dsimp only at hSq);go_simp;try with_reducible rfl))) | refine a03 rfl (by rfl) ?_);simp only[Act.put,zA,zB,zC]))
   (refine a05 rfl (by rfl) (fun KK hK=>?_);go_simp)
   have T1:=zH (T0.out.set 16 (.int .i64 ah) _ rfl);obtain⟨_,_,_,_,d14,d17,d18,_⟩:=HC.out _ T1.out.old;refine hK.out _ _ ⟨d14,d17,d18⟩ ?_
   (clear hK KK;try simp only[Act.put])
   clear d14 d17 d18
   (repeat ((first | (refine a02 (v:=?_) rfl (by rfl) (fun wq hSq=>?_) ?_;rotate_left;(focus ((try dsimp only at hSq);go_simp;try with_reducible rfl))) | refine a03 rfl (by rfl) ?_);simp only[Act.put,zA,zB,zC]))
   (refine a05 rfl (by rfl) (fun KK hK=>?_);go_simp)
   have T2:=zH (T1.out.set 17 (.int .i64 fr) _ rfl);obtain⟨_,_,_,_,d14,d17,d18,_⟩:=HC.out _ T2.out.old;refine hK.out _ _ ⟨d14,d17,d18⟩ ?_
   (clear hK KK;try simp only[Act.put])
   clear d14 d17 d18
   (repeat ((first | (refine a02 (v:=?_) rfl (by rfl) (fun wq hSq=>?_) ?_;rotate_left;(focus ((try dsimp only at hSq);go_simp;try with_reducible rfl))) | refine a03 rfl (by rfl) ?_);simp only[Act.put,zA,zB,zC]))
   (refine a05 rfl (by rfl) (fun KK hK=>?_);go_simp)
   have T3:=zH (T2.out.set 18 (.int .i64 to_) _ rfl);obtain⟨_,_,_,_,d14,d17,d18,_⟩:=HC.out _ T3.out.old;refine hK.out _ _ ⟨d14,d17,d18⟩ ?_
   (clear hK KK;try simp only[Act.put])
   clear d14 d17 d18;refine a13 ?_;go_wp2_with fail
   go_meet
   exact T3.out
  case rest =>
   rename_i wx
   have H4:=hcut;clear H3 HC
   go_wp2_with (first
    | (refine wpList_load_row rfl 46 _ rfl g5 rfl _ _ _ _ H4.out.box Tryz.underlying46 rfl Rr.deedInfo ?_)
    | (refine wpList_store_row rfl 46 _ _ rfl w.heap.size (dCel th no pr tg na mk nu m D e0 e1 e2 bg 0 st ah fr to_) rfl rfl _ _ H4.out.res Rr.deedInfo rfl (ac2 ..) ?_))
   exact au5 rfl w.heap.size rfl (setRow_heap _ _ _ _ _ _ H4.out.res) rfl ⟨D,rfl,H4.out.done⟩
theorem bL2 {tg:Int} {na:Nat} {mk nu:Int} {m:Mac} {e0 e1 e2 st:Int} {args:List Nat} (hc:∀ u,Bl w u->UpC u g o (.iface 145 (.pointer (some ⟨b,0,none⟩))) th no pr bg ah fr) (hD:∀ u,Bl w u->Calls Tryz.prog 83 #[.pointer (some ⟨b,0,none⟩)] u fun e w'=>∃ D,e=.returned (.agg (dCel 0 0 0 tg na mk nu m D e0 e1 e2 0 0 st 0 0 0))/\Rr.DdAt w' u.heap.size D args m/\Bl u w') :
  Calls Tryz.prog 35 #[.pointer (some ⟨g,o,none⟩),.int .i64 to_] w fun e w'=>∃ D,e=.returned (.agg (dCel th no pr tg na mk nu m D e0 e1 e2 bg 0 st ah fr to_))/\Hid (Rr.DdAt w' w.heap.size D args m/\Bl w w'):=by
 have HC:=zH hc;have HD:=zH hD;have HB:=zH (below_alloc w Rr.dZ);obtain⟨c0,c1,c2,c3,c14,c17,c18,lt⟩:=HC.out _ HB.out;clear hc hD;go_enter Tryz.func35,Tryz.ntmps35
 go_upto_region 4 with(first
  | (refine wpList_store_row rfl 46 _ _ rfl u1.heap.size (dCel 0 0 0 tg na mk nu m D e0 e1 e2 0 0 st 0 0 0) rfl rfl _ _ (zN _ _) Rr.deedInfo rfl (ac2 ..) ?_;rw[World.setRow_alloc_new])
  | (go_at_call 83;refine(HD.out _ HB.out).mono ?_;rintro e u1 ⟨D,rfl,q1,q2⟩;have H1:=zH (And.intro q1 q2);clear q1 q2 HD c0 c1 c2 c3 c14 c17 c18 lt))
 obtain⟨g5,hg5⟩:∃ g5,u1.heap.size=g5:=⟨_,rfl⟩
 obtain⟨u2,hu2⟩:∃ u2,u2=u1.alloc (.cells (dCel 0 0 0 tg na mk nu m D e0 e1 e2 0 0 st 0 0 0) 46):=⟨_,rfl⟩
 rw[<- hu2,hg5];simp only[Act.put];have H2:Hid (TBox w u2 g5 D args m (dCel 0 0 0 tg na mk nu m D e0 e1 e2 0 0 st 0 0 0)):=by
  rw[hu2,<- hg5];exact⟨zN _ _,H1.out.1.on (below_alloc _ _),a17 H1.out.2 (below_alloc _ _),H1.out.2.size,⟨fun q=>absurd (H1.out.1.a.blw _ q) (by omega),fun q=>absurd (H1.out.1.r.blw _ q) (by omega),fun q=>absurd (H1.out.1.wr.blw _ q) (by omega),fun q=>absurd (H1.out.1.o.blw _ q) (by omega)⟩⟩
 clear hu2 hg5 H1
 go_cut [38] (fun _ wc=>Hid (TBox w wc g5 D args m (dCel th no pr tg na mk nu m D e0 e1 e2 0 0 st 0 0 0)))
 case first =>
  obtain⟨c0,c1,c2,c3,c14,c17,c18,lt⟩:=HC.out _ H2.out.old;have hne:¬ g=g5:=fun e=>by subst e;exact absurd H2.out.lo (Nat.not_le.2 (zL (HC.out _ (zF _ _)).lt (Nat.le_of_lt (by simp))))
  have hne':¬ g5=g:=fun e=>hne e.symm
  have k0:=(zR u2 g5 0 _ _ _ H2.out.box).trans (rfl:_=some (Value.int .i64 0));have k1:=(zR u2 g5 1 _ _ _ H2.out.box).trans (rfl:_=some (Value.int .i64 0));have k2:=(zR u2 g5 2 _ _ _ H2.out.box).trans (rfl:_=some (Value.int .i64 0));have j0:=zZ u2 g5 0 _ _ H2.out.box;have j1:=zZ u2 g5 1 _ _ H2.out.box;have j2:=zZ u2 g5 2 _ _ H2.out.box;refine a09 (fun u=>u.cell? ⟨g,o+1,none⟩=some (.int .i64 th)/\u.cell? ⟨g,o+2,none⟩=some (.int .i64 no)/\u.cell? ⟨g,o+3,none⟩=some (.int .i64 pr) )  ((0,true)::(1,true)::(2,true)::(3,true)::(4,true)::(5,true)::(6,true)::(7,true)::(8,true)::(9,true)::(10,true)::(11,true)::(12,true)::(13,true)::(14,true)::(15,true)::(16,false)::(17,true)::(18,false)::(19,true)::(20,false)::[])  Md.Cv.follows13 (by kernel_rfl) (fun _ _ _ _ _ h=>h)  ⟨c1,c2,c3⟩ ?_
  (repeat ((first | (refine a02 (v:=?_) rfl (by rfl) (fun wq hSq=>?_) ?_;rotate_left;(focus ((try dsimp only at hSq);go_simp;try with_reducible rfl))) | refine a03 rfl (by rfl) ?_);simp only[Act.put,zA,zB,zC]))
  (refine a05 rfl (by rfl) (fun KK hK=>?_);go_simp)
  have T0:=zH (H2.out.drew.set 0 (.int .i64 th) _ rfl);obtain⟨_,d1,d2,d3,_,_,_,_⟩:=HC.out _ T0.out.old;refine hK.out _ _ ⟨d1,d2,d3⟩ ?_
  (clear hK KK;try simp only[Act.put])
  clear d1 d2 d3
  (repeat ((first | (refine a02 (v:=?_) rfl (by rfl) (fun wq hSq=>?_) ?_;rotate_left;(focus ((try dsimp only at hSq);go_simp;try with_reducible rfl))) | refine a03 rfl (by rfl) ?_);simp only[Act.put,zA,zB,zC]))
  (refine a05 rfl (by rfl) (fun KK hK=>?_);go_simp)
  have T1:=zH (T0.out.set 1 (.int .i64 no) _ rfl);obtain⟨_,d1,d2,d3,_,_,_,_⟩:=HC.out _ T1.out.old;refine hK.out _ _ ⟨d1,d2,d3⟩ ?_
  (clear hK KK;try simp only[Act.put])
  clear d1 d2 d3
  (repeat ((first | (refine a02 (v:=?_) rfl (by rfl) (fun wq hSq=>?_) ?_;rotate_left;(focus ((try dsimp only at hSq);go_simp;try with_reducible rfl))) | refine a03 rfl (by rfl) ?_);simp only[Act.put,zA,zB,zC]))
  (refine a05 rfl (by rfl) (fun KK hK=>?_);go_simp)
  have T2:=zH (T1.out.set 2 (.int .i64 pr) _ rfl);obtain⟨_,d1,d2,d3,_,_,_,_⟩:=HC.out _ T2.out.old;refine hK.out _ _ ⟨d1,d2,d3⟩ ?_
  (clear hK KK;try simp only[Act.put])
  clear d1 d2 d3;refine a13 ?_;go_wp2_with fail
  go_meet
  exact T2.out
 case rest =>
  have H3:=hcut;clear H2
  go_upto_region 5 with fail
  go_cut [58] (fun _ wc2=>Hid (TBox w wc2 g5 D args m (dCel th no pr tg na mk nu m D e0 e1 e2 bg 0 st ah fr to_)))
  case first =>
   obtain⟨c0,c1,c2,c3,c14,c17,c18,lt⟩:=HC.out _ H3.out.old;have hne:¬ g=g5:=fun e=>by subst e;exact absurd H3.out.lo (Nat.not_le.2 (zL (HC.out _ (zF _ _)).lt (Nat.le_of_lt (by simp))))
   have hne':¬ g5=g:=fun e=>hne e.symm
   have k0:=(zR wc g5 13 _ _ _ H3.out.box).trans (rfl:_=some (Value.int .i64 0));have k1:=(zR wc g5 16 _ _ _ H3.out.box).trans (rfl:_=some (Value.int .i64 0));have k2:=(zR wc g5 17 _ _ _ H3.out.box).trans (rfl:_=some (Value.int .i64 0));have k3:=(zR wc g5 18 _ _ _ H3.out.box).trans (rfl:_=some (Value.int .i64 0));have j0:=zZ wc g5 13 _ _ H3.out.box;have j1:=zZ wc g5 16 _ _ H3.out.box;have j2:=zZ wc g5 17 _ _ H3.out.box;have j3:=zZ wc g5 18 _ _ H3.out.box;refine a09 (fun u=>u.cell? ⟨g,o+14,none⟩=some (.int .i64 bg)/\u.cell? ⟨g,o+17,none⟩=some (.int .i64 ah)/\u.cell? ⟨g,o+18,none⟩=some (.int .i64 fr) )  ((0,true)::(1,true)::(2,true)::(3,true)::(4,true)::(5,true)::(6,true)::(7,true)::(8,true)::(9,true)::(10,true)::(11,true)::(12,true)::(13,true)::(14,true)::(15,true)::(16,true)::(17,false)::(18,true)::(19,false)::(20,true)::(21,false)::(22,true)::(23,false)::[])  Md.Cv.follows13 (by kernel_rfl) (fun _ _ _ _ _ h=>h)  ⟨c14,c17,c18⟩ ?_
   (repeat ((first | (refine a02 (v:=?_) rfl (by rfl) (fun wq hSq=>?_) ?_;rotate_left;(focus ((try dsimp only at hSq);go_simp;try with_reducible rfl))) | refine a03 rfl (by rfl) ?_);simp only[Act.put,zA,zB,zC]))
   (refine a05 rfl (by rfl) (fun KK hK=>?_);go_simp)
   have T0:=zH (H3.out.drew.set 13 (.int .i64 bg) _ rfl);obtain⟨_,_,_,_,d14,d17,d18,_⟩:=HC.out _ T0.out.old;refine hK.out _ _ ⟨d14,d17,d18⟩ ?_
   (clear hK KK;try simp only[Act.put])
   clear d14 d17 d18
   (repeat ((first | (refine a02 (v:=?_) rfl (by rfl) (fun wq hSq=>?_) ?_;rotate_left;(focus ((try dsimp only at hSq);go_simp;try with_reducible rfl))) | refine a03 rfl (by rfl) ?_);simp only[Act.put,zA,zB,zC]))
   (refine a05 rfl (by rfl) (fun KK hK=>?_);go_simp)
   have T1:=zH (T0.out.set 16 (.int .i64 ah) _ rfl);obtain⟨_,_,_,_,d14,d17,d18,_⟩:=HC.out _ T1.out.old;refine hK.out _ _ ⟨d14,d17,d18⟩ ?_
   (clear hK KK;try simp only[Act.put])
   clear d14 d17 d18
   (repeat ((first | (refine a02 (v:=?_) rfl (by rfl) (fun wq hSq=>?_) ?_;rotate_left;(focus ((try dsimp only at hSq);go_simp;try with_reducible rfl))) | refine a03 rfl (by rfl) ?_);simp only[Act.put,zA,zB,zC]))
   (refine a05 rfl (by rfl) (fun KK hK=>?_);go_simp)
   have T2:=zH (T1.out.set 17 (.int .i64 fr) _ rfl);obtain⟨_,_,_,_,d14,d17,d18,_⟩:=HC.out _ T2.out.old;refine hK.out _ _ ⟨d14,d17,d18⟩ ?_
   (clear hK KK;try simp only[Act.put])
   clear d14 d17 d18
   (repeat ((first | (refine a02 (v:=?_) rfl (by rfl) (fun wq hSq=>?_) ?_;rotate_left;(focus ((try dsimp only at hSq);go_simp;try with_reducible rfl))) | refine a03 rfl (by rfl) ?_);simp only[Act.put,zA,zB,zC]))
   (refine a05 rfl (by rfl) (fun KK hK=>?_);go_simp)
   have T3:=zH (T2.out.set 18 (.int .i64 to_) _ rfl);obtain⟨_,_,_,_,d14,d17,d18,_⟩:=HC.out _ T3.out.old;refine hK.out _ _ ⟨d14,d17,d18⟩ ?_
   (clear hK KK;try simp only[Act.put])
   clear d14 d17 d18;refine a13 ?_;go_wp2_with fail
   go_meet
   exact T3.out
  case rest =>
   rename_i wx
   have H4:=hcut;clear H3 HC
   go_wp2_with (first
    | (refine wpList_load_row rfl 46 _ rfl g5 rfl _ _ _ _ H4.out.box Tryz.underlying46 rfl Rr.deedInfo ?_)
    | (refine wpList_store_row rfl 46 _ _ rfl w.heap.size (dCel th no pr tg na mk nu m D e0 e1 e2 bg 0 st ah fr to_) rfl rfl _ _ H4.out.res Rr.deedInfo rfl (ac2 ..) ?_))
   exact au5 rfl w.heap.size rfl (setRow_heap _ _ _ _ _ _ H4.out.res) rfl ⟨D,rfl,H4.out.done⟩
theorem bf0 (h:TxAt w b G K y) (hI:TIn s t N y) (hc:∀ u,Bl w u->UpC u g o (txV y b) th no pr bg ah fr):Calls Tryz.prog 35 #[.pointer (some ⟨g,o,none⟩),.int .i64 to_] w fun e w'=>∃ D,e=.returned (.agg (dTx y D th no pr bg 0 ah fr to_))/\Hid (Rr.DdAt w' w.heap.size D (ag3 y) (macT y)/\Bl w w'):=by
 rcases y with⟨m,x⟩ | ⟨m,x⟩
 ·exact bL1 hc fun u hu=>aR7 (h.on hu) hI
 ·exact bL2 hc fun u hu=>aR7 (h.on hu) hI
end
section
variable {w u:World} {th no pr tg:Int} {na:Nat} {mk nu:Int} {m:Mac} {D:Rr.Dd} {e0 e1 e2 bg en st ah fr to_:Int} {args:List Nat}
structure OBox (w u:World) (c:Array Value):Prop where
 box:u.heap[w.heap.size]?=some (.cells c 46 (0,0))
 bl:Bl w u
 res:u.heap[w.heap.size+1]?=some Rr.dZ
theorem OBox.on {u':World} {c:Array Value} (h:OBox w u c) (k:Bl u u'):OBox w u' c:=⟨(k.block _ (lt_of_block h.box)).trans h.box,h.bl.trans (k.mono h.bl.size),(k.block _ (lt_of_block h.res)).trans h.res⟩
theorem OBox.set {c:Array Value} (h:OBox w u c) (j:Nat) (x:Value) (c':Array Value) (e:c.setIfInBounds j x=c'):OBox w (u.setCell ⟨w.heap.size,j,none⟩ x) c' :=
 ⟨by rw[<- e];exact zS u _ j _ _ x h.box,h.bl.setCell (zE _) _,(zO _ _ _ _ (by show w.heap.size+1≠w.heap.size;omega)).trans h.res⟩
theorem OBox.cell {c:Array Value} (h:OBox w u c) (j:Nat):u.cell? ⟨w.heap.size,j,none⟩=c[j]?:=zR _ _ _ _ _ _ h.box
theorem OBox.free {c:Array Value} (h:OBox w u c) (j:Nat):u.frozen? ⟨w.heap.size,j,none⟩=false:=zZ _ _ _ _ _ h.box
theorem aQ5 {u':World} {p:Option Addr} {c g j:Nat} {xs:List Value} {x:Value} (h:RowAt 51 u p c xs) (hn:g∉fpR p) (k:Below (u.setCell ⟨g,j,none⟩ x).heap.size (u.setCell ⟨g,j,none⟩ x) u'):RowAt 51 u' p c xs:=(h.keep (af1 hn)).on k
theorem aR3 {u':World} {p:Option Addr} {c g j:Nat} {xs:Wr} {x:Value} (h:TRow u p c xs) (hn:g∉fpR p) (k:Below (u.setCell ⟨g,j,none⟩ x).heap.size (u.setCell ⟨g,j,none⟩ x) u'):TRow u' p c xs:=(h.keep (af1 hn)).on k
theorem aP9 (h:Rr.DdAt w 0 D args m) (hn:args.length=na) (b0:na<=1024) (b1:m.reads.length<=1024) (b2:m.buf.length<=1024) (b3:m.out.length<=1024):Calls Tryz.prog 62 #[.agg (dCel th no pr tg na mk nu m D e0 e1 e2 bg en st ah fr to_)] w fun e w'=>∃ D',e=.returned (.agg (dCel th no pr tg na mk nu m D' e0 e1 e2 bg en st ah fr to_))/\Hid (Rr.DdAt w' w.heap.size D' args m/\Bl w w'):=by
 have HA:Hid (∀ u,Bl w u->Calls Tryz.prog 58 #[.slice D.pa na D.ca] u fun e w'=>∃ p' c',e=.returned (.slice p' na c')/\RowAt 51 w' p' c' (fls args)/\Abv u.heap.size (fpR p')/\Bl u w'):=fun u hu=>an4 (h.a.keep (a26 hu h.a.blw)) hn b0
 have HR:Hid (∀ u,Bl w u->Calls Tryz.prog 77 #[.slice D.pr m.reads.length D.cr] u fun e w'=>∃ p' c',e=.returned (.slice p' m.reads.length c')/\TRow w' p' c' m.reads/\Abv u.heap.size (fpR p')/\Bl u w'):=fun u hu=>ar1 (h.r.keep (a26 hu h.r.blw)) rfl b1
 have HW:Hid (∀ u,Bl w u->Calls Tryz.prog 77 #[.slice D.pw m.buf.length D.cw] u fun e w'=>∃ p' c',e=.returned (.slice p' m.buf.length c')/\TRow w' p' c' m.buf/\Abv u.heap.size (fpR p')/\Bl u w'):=fun u hu=>ar1 (h.wr.keep (a26 hu h.wr.blw)) rfl b2
 have HO:Hid (∀ u,Bl w u->Calls Tryz.prog 58 #[.slice D.po m.out.length D.co] u fun e w'=>∃ p' c',e=.returned (.slice p' m.out.length c')/\RowAt 51 w' p' c' (fls m.out)/\Abv u.heap.size (fpR p')/\Bl u w'):=fun u hu=>an4 (h.o.keep (a26 hu h.o.blw)) rfl b3
 have X0:Hid (OBox w ((w.alloc (.cells (dCel th no pr tg na mk nu m D e0 e1 e2 bg en st ah fr to_) 46)).alloc Rr.dZ) (dCel th no pr tg na mk nu m D e0 e1 e2 bg en st ah fr to_)):=⟨Rr.heap_old (zN _ _),az3 _ _ _,aa7 (by simp)⟩;have k4:=(X0.out.cell 4).trans (rfl:_=some (Value.slice D.pa na D.ca));clear h hn b0 b1 b2 b3;go_enter Tryz.func62,Tryz.ntmps62
 go_wp2_with (first
  | (refine wpList_load_row rfl 46 _ rfl w.heap.size rfl _ _ _ _ X4.out.box Tryz.underlying46 rfl Rr.deedInfo ?_;clear k9 j9)
  | (refine wpList_store_row rfl 46 _ _ rfl (w.heap.size+1) (dCel th no pr tg na mk nu m ⟨p1,c1,p2,c2,p3,c3,p4,c4⟩ e0 e1 e2 bg en st ah fr to_) rfl rfl _ _ X4.out.res Rr.deedInfo rfl (ac2 ..) ?_)
  | (go_at_call 58;refine(HO.out _ X3.out.bl).mono ?_;rintro e u4 ⟨p4,c4,rfl,q1,q2,q3⟩;have A4:=zH (And.intro q1 (And.intro q2 q3));have Y4:=X3.out.on q3;have X4:=zH (Y4.set 9 (.slice p4 m.out.length c4) (dCel th no pr tg na mk nu m ⟨p1,c1,p2,c2,p3,c3,p4,c4⟩ e0 e1 e2 bg en st ah fr to_) rfl);clear k9 j9;have k9:=(Y4.cell 9).trans (rfl:_=some (Value.slice D.po m.out.length D.co));have j9:=Y4.free 9;clear q1 q2 q3 Y4 HO)
  | (go_at_call 77;refine(HW.out _ X2.out.bl).mono ?_;rintro e u3 ⟨p3,c3,rfl,q1,q2,q3⟩;have A3:=zH (And.intro q1 (And.intro q2 q3));have Y3:=X2.out.on q3;have X3:=zH (Y3.set 8 (.slice p3 m.buf.length c3) (dCel th no pr tg na mk nu m ⟨p1,c1,p2,c2,p3,c3,D.po,D.co⟩ e0 e1 e2 bg en st ah fr to_) rfl);clear k8 j8;have k8:=(Y3.cell 8).trans (rfl:_=some (Value.slice D.pw m.buf.length D.cw));have j8:=Y3.free 8;have k9:=(Y3.cell 9).trans (rfl:_=some (Value.slice D.po m.out.length D.co));have j9:=Y3.free 9;clear q1 q2 q3 Y3 HW)
  | (go_at_call 77;refine(HR.out _ X1.out.bl).mono ?_;rintro e u2 ⟨p2,c2,rfl,q1,q2,q3⟩;have A2:=zH (And.intro q1 (And.intro q2 q3));have Y2:=X1.out.on q3;have X2:=zH (Y2.set 7 (.slice p2 m.reads.length c2) (dCel th no pr tg na mk nu m ⟨p1,c1,p2,c2,D.pw,D.cw,D.po,D.co⟩ e0 e1 e2 bg en st ah fr to_) rfl);clear k7 j7;have k7:=(Y2.cell 7).trans (rfl:_=some (Value.slice D.pr m.reads.length D.cr));have j7:=Y2.free 7;have k8:=(Y2.cell 8).trans (rfl:_=some (Value.slice D.pw m.buf.length D.cw));have j8:=Y2.free 8;clear q1 q2 q3 Y2 HR)
  | (go_at_call 58;refine(HA.out _ X0.out.bl).mono ?_;rintro e u1 ⟨p1,c1,rfl,q1,q2,q3⟩;have A1:=zH (And.intro q1 (And.intro q2 q3));have Y1:=X0.out.on q3;have X1:=zH (Y1.set 4 (.slice p1 na c1) (dCel th no pr tg na mk nu m ⟨p1,c1,D.pr,D.cr,D.pw,D.cw,D.po,D.co⟩ e0 e1 e2 bg en st ah fr to_) rfl);clear k4;have k4:=(Y1.cell 4).trans (rfl:_=some (Value.slice D.pa na D.ca));have j4:=Y1.free 4;have k7:=(Y1.cell 7).trans (rfl:_=some (Value.slice D.pr m.reads.length D.cr));have j7:=Y1.free 7;clear q1 q2 q3 Y1 HA))
 refine au5 (D:=⟨p1,c1,p2,c2,p3,c3,p4,c4⟩) rfl (w.heap.size+1) rfl (setRow_heap _ _ _ _ _ _ X4.out.res) rfl ⟨_,rfl,?_⟩;obtain⟨a1,b1,d1⟩:=A1.out;obtain⟨a2,b2,d2⟩:=A2.out;obtain⟨a3,b3,d3⟩:=A3.out;obtain⟨a4,b4,d4⟩:=A4.out;have s1:=d1.size;have s2:=d2.size;have s3:=d3.size;simp only[Array.size_push,World.alloc]at b1 s1;have Z:∀ (u:World) (a:Addr) (x:Value),(u.setCell a x).heap.size=u.heap.size:=fun u a x=>by simp
 rw[Z]at b2 b3 b4 s2 s3;have N:∀ {p:Option Addr} {B:Nat},Abv B (fpR p)->w.heap.size+2<=B->w.heap.size∉fpR p/\w.heap.size+1∉fpR p/\Abv w.heap.size (fpR p):=fun h hB=>⟨fun q=>by have:=h _ q;omega,fun q=>by have:=h _ q;omega,h.mono (by omega)⟩
 have n1:=N b1 (by omega);have n2:=N b2 (by omega);have n3:=N b3 (by omega);have n4:=N b4 (by omega);have e1:=aQ5 (aQ5 (aQ5 a1 n1.1 d2) n1.1 d3) n1.1 d4;have e2:=aR3 (aR3 a2 n2.1 d3) n2.1 d4;have e3:=aR3 a3 n3.1 d4;exact⟨⟨(e1.keep (af1 n1.1)).keep (a99 n1.2.1),(e2.keep (af1 n2.1)).keep (a99 n2.2.1),(e3.keep (af1 n3.1)).keep (a99 n3.2.1),(a4.keep (af1 n4.1)).keep (a99 n4.2.1),n1.2.2,n2.2.2,n3.2.2,n4.2.2⟩,Md.Ce.bl_setRow X4.out.bl (by omega) _⟩
end
end Go.Proofs.YtkihgongjedheaaGreatDoor.En
namespace Go.Proofs.YtkihgongjedheaaGreatDoor.Sd
open Go.ChangeShapes Go.WideShapes Go.ChangeAt Go.RowKit
section
variable {w:World} {b:Nat} {m:Rd}
theorem step_in (h:RdAt w b m) (k:Nat) (hk:k<m.n) (hn:m.n<=8) (ho:m.o<9223372036854775807):Calls Tryz.prog 70 #[.pointer (some ⟨b,0,none⟩),.int .i64 (k:Int)] w fun e w'=>e=.returned (.int .i64 0)/\RdAt w' b (stepN m k)/\Turn [b] [b] w w':=by
 have H1:=zH (aa5 h (k:Int));have e:hasT m (k:Int)=true:=zT ⟨by omega,by omega⟩;rw[e]at H1;have hk8:k<8:=by omega
 have k8:(k:Int)<8:=by omega
 have hc:=h.cellG k hk8;have hs:=h.cellS k hk8;have hb:=h.lt;have hf:=h.free (9+k);have HA:=zH h;clear e hk hn
 cases hg:m.g k
 ·have e:stepN m k=m:=by simp[stepN,hg]
  rw[e];rw[hg]at hc;clear e h;go_enter Tryz.func70,Tryz.ntmps70
  go_wp2_with (go_at_call 75;refine H1.out.mono ?_;rintro e w1 ⟨rfl,hw⟩;subst w1)
  go_ret;exact⟨rfl,HA.out,Turn.refl _ _⟩
 ·have e:stepN m k=settleM { m with s:=putF m.s k true }:=by simp[stepN,hg]
  rw[e];rw[hg]at hc;have HS:=zH (aB7 (h.setS k hk8 true) ho);have HT:=zH (a23 w b (9+k) (.bool true));clear e h;go_enter Tryz.func70,Tryz.ntmps70
  go_wp2_with (first
   | (go_at_call 75;refine H1.out.mono ?_;rintro e w1 ⟨rfl,hw⟩;subst w1)
   | (go_at_call 76;refine HS.out.mono ?_;rintro e w2 ⟨rfl,q1,q2⟩;have HQ:=zH (And.intro q1 (HT.out.trans q2));clear q1 q2))
  go_ret;exact⟨rfl,HQ.out.1,HQ.out.2⟩
theorem fin_in (h:RdAt w b m) (k:Nat) (hk:k<m.n) (hn:m.n<=8) (ho:m.o<9223372036854775807):Calls Tryz.prog 59 #[.pointer (some ⟨b,0,none⟩),.int .i64 (k:Int)] w fun e w'=>e=.returned (.int .i64 0)/\RdAt w' b (finN m k)/\Turn [b] [b] w w':=by
 have H1:=zH (aa5 h (k:Int));have e:hasT m (k:Int)=true:=zT ⟨by omega,by omega⟩;rw[e]at H1;have hk8:k<8:=by omega
 have k8:(k:Int)<8:=by omega
 have hc:=h.cellG k hk8;have hs:=h.cellS k hk8;have hb:=h.lt;have hf:=h.free (9+k);have hf2:=h.free (1+k);have HA:=zH h;clear e hk hn
 cases hg:m.g k
 ·have e:finN m k=m:=by simp[finN,hg]
  rw[e];rw[hg]at hc;clear e h;go_enter Tryz.func59,Tryz.ntmps59
  go_wp2_with (go_at_call 75;refine H1.out.mono ?_;rintro e w1 ⟨rfl,hw⟩;subst w1)
  go_ret;exact⟨rfl,HA.out,Turn.refl _ _⟩
 ·have e:finN m k=settleM { m with g:=putF m.g k false,s:=putF m.s k false }:=by simp[finN,hg]
  rw[e];rw[hg]at hc;have HS:Hid (∀ u,Same ((w.setCell ⟨b,1+k,none⟩ (.bool false)).setCell ⟨b,9+k,none⟩ (.bool false)) u->Calls Tryz.prog 76 #[.pointer (some ⟨b,0,none⟩)] u fun e w'=>e=.returned (.tuple #[])/\RdAt w' b (settleM { m with g:=putF m.g k false,s:=putF m.s k false })/\Turn [b] [b] w w'):=fun u hu=>(aB7 (((h.setG k hk8 false).setS k hk8 false).same hu) ho).mono fun e w' ⟨q1,q2,q3⟩=>⟨q1,q2,(((a23 w b (1+k) _).trans (a23 _ b (9+k) _)).trans (hu.turn _)).trans q3⟩
  clear e h;go_enter Tryz.func59,Tryz.ntmps59
  go_wp2_with (go_at_call 75;refine H1.out.mono ?_;rintro e w1 ⟨rfl,hw⟩;subst w1)
  go_region_held (fun _=>True) (go_keep) (fail)
  go_wp2_with (go_at_call 76;refine(HS.out _ (by first | exact Same.refl _ | exact⟨rfl,rfl,rfl,rfl⟩)).mono ?_;rintro e w2 ⟨rfl,q1,q2⟩;have HQ:=zH (And.intro q1 q2);clear q1 q2)
  go_ret;exact⟨rfl,HQ.out.1,HQ.out.2⟩
end
end Go.Proofs.YtkihgongjedheaaGreatDoor.Sd
namespace Go.Proofs.YtkihgongjedheaaGreatDoor.En
open Go.ChangeShapes Go.WideShapes Go.ChangeAt Go.RowKit Num Ww
open Rr (Rx a16 InX okW u64B Alike step_in newX a44)
theorem aU7:(Tryz.prog.info? 46).map (·.size)=some 19:=Rr.deedInfo
section
variable {w:World} {f:Ex} {v:Ev} {s:Su} {d:Ed} {i t g:Nat} {y:Ty} {N:Int} {th no pr bg ah fr st to_:Int} {K:List Nat}
theorem EnAt.upC (h:EnAt w f v s d) (hi:i<d.dn) (hp:v.pt=some ⟨g,0,none⟩) {x:Value} (e:d.tr i=trU x th no pr bg ah fr):UpC w g (i*20) x th no pr bg ah fr:=by
 obtain⟨g',e',_,A⟩:=h.arr (by omega);obtain rfl:g'=g:=by rw[hp]at e';injection e' with e';injection e' with e';exact e'.symm
 have C:∀ j,j<20->w.cell? ⟨g',i*20+j,none⟩=(d.tr i)[j]?:=fun j hj=>A.cell hi hj
 rw[e]at C;exact⟨(C 0 (by omega)).trans rfl,(C 1 (by omega)).trans rfl,(C 2 (by omega)).trans rfl,(C 3 (by omega)).trans rfl,(C 14 (by omega)).trans rfl,(C 17 (by omega)).trans rfl,(C 18 (by omega)).trans rfl,A.lt⟩
def fpD (D:Rr.Dd):List Nat:=fpR D.pa ++ fpR D.pr ++ fpR D.pw ++ fpR D.po
theorem mem_fpD {D:Rr.Dd} {k:Nat}:k∈fpD D ↔ k∈fpR D.pa∨k∈fpR D.pr∨k∈fpR D.pw∨k∈fpR D.po:=by
 simp only[fpD,List.mem_append,or_assoc]
theorem EnAt.tells (h:EnAt w f v s d) {w1:World} {D:Rr.Dd} {a:List Nat} {m:Mac} (hD:Rr.DdAt w1 w.heap.size D a m) (k:Bl w w1) :
  EnAt w1 f { v with R:=fpD D ++ v.R } s { d with L:=fun j=>if j=i then some (D,a,m) else d.L j }/\Ext f v { v with R:=fpD D ++ v.R } w w1:=by
 obtain⟨h1,x⟩:=h.grow k (L:=fpD D) (fun j hj=>by
  rcases mem_fpD.1 hj with q | q | q | q
  ·exact hD.xa j q
  ·exact hD.xr j q
  ·exact hD.xw j q
  ·exact hD.xo j q) (fun j hj=>by
  rcases mem_fpD.1 hj with q | q | q | q
  ·exact hD.a.blw j q
  ·exact hD.r.blw j q
  ·exact hD.wr.blw j q
  ·exact hD.o.blw j q)
 exact⟨h1.told i ⟨hD.mono (zV _),fun j hj=>List.mem_append.2 (.inl (mem_fpD.2 hj))⟩,x⟩
theorem aT2 (y:Ty) (D:Rr.Dd) (th no pr bg en ah fr to_:Int):(dTx y D th no pr bg en ah fr to_).size=19:=by kernel_rfl
theorem bf1 (x:Value) (y:Ty) (D:Rr.Dd) (th no pr bg ah fr st to_:Int):((ae7 (trU x th no pr bg ah fr) 1 (dTx y D th no pr bg 0 ah fr to_).toList).setIfInBounds 15 (.int .i64 st)).setIfInBounds 0 .nilIface=trO y D th no pr bg st ah fr to_:=by kernel_rfl
theorem b13 (tr:Nat->Array Value) (i:Nat) (c:Array Value) (P Q:Array Value->Array Value):updA (updA (updA tr i c) i (P (updA tr i c i))) i (Q (updA (updA tr i c) i (P (updA tr i c i)) i))=updA tr i (Q (P c)):=by
 funext k
 by_cases q:k=i
 ·subst q
  rw[a22,a22,a22,a22]
 ·rw[a34 _ _ q,a34 _ _ q,a34 _ _ q,a34 _ _ q]
theorem b44 (h:EnAt w f v s d) (hi:i<d.dn) (hp:v.pt=some ⟨g,0,none⟩) (ht:d.T t=some y) (e:d.tr i=trU (txV y (v.tb t)) th no pr bg ah fr) (hI:TIn s t N y):Calls Tryz.prog 71 #[.pointer (some ⟨g,i*20,none⟩),.int .i64 st,.int .i64 to_] w fun r w'=>r=.returned (.tuple #[])/\Hid (∃ v' D,v'.pt=v.pt/\v'.tb=v.tb/\v'.G=v.G/\EnAt w' f v' s { d with tr:=updA d.tr i (trO y D th no pr bg st ah fr to_),L:=fun j=>if j=i then some (D,ag3 y,macT y) else d.L j }/\Ext f v v' w w'):=by
 obtain⟨_,K,tx,hK⟩:=h.tx t y ht;have HT:=zH (bf0 (to_:=to_) tx hI fun u hu=>(h.on hu).upC hi hp e);have HM:Hid (v.ct<=maxLen):=by obtain⟨_,_,q,_⟩:=h.arr (by omega);exact q
 have HX:Hid (∀ w1 D,Rr.DdAt w1 w.heap.size D (ag3 y) (macT y)->Bl w w1->∃ arr,w1.heap[g]?=some (.cells arr 89 (0,0))/\i*20+1+(dTx y D th no pr bg 0 ah fr to_).size<=arr.size/\(let w2:=w1.setRow g (ae7 arr (i*20+1) (dTx y D th no pr bg 0 ah fr to_).toList);(∀ j,j<20->(∃ x,w2.cell? ⟨g,i*20+j,none⟩=some x)/\w2.frozen? ⟨g,i*20+j,none⟩=false)/\∀ w3,w3=(w2.setCell ⟨g,i*20+15,none⟩ (.int .i64 st)).setCell ⟨g,i*20,none⟩ .nilIface->∃ v' D,v'.pt=v.pt/\v'.tb=v.tb/\v'.G=v.G/\EnAt w3 f v' s { d with tr:=updA d.tr i (trO y D th no pr bg st ah fr to_),L:=fun j=>if j=i then some (D,ag3 y,macT y) else d.L j }/\Ext f v v' w w3)):=fun w1 D hD k=>by
  obtain⟨h1,x1⟩:=h.tells (i:=i) hD k;obtain⟨g',e',hm,A⟩:=h1.arr (by show 0<d.dn;omega);obtain rfl:g'=g:=by
   have:v.pt=some ⟨g',0,none⟩:=e';rw[hp]at this;injection this with this;injection this with this;exact this.symm
  obtain⟨arr,a1,a2,a3⟩:=A.puts (i:=i) (j:=1) (cs:=dTx y D th no pr bg 0 ah fr to_) hi (by rw[aT2];omega);obtain⟨h2,x2⟩:=h1.turned e' hm bs3 a3;refine⟨arr,a1,a2,⟨fun j hj=>⟨?_,a3.free _⟩,fun w3 hw3=>?_⟩⟩
  ·have z:=a3.sz i hi
   exact⟨_,(a3.cell hi hj).trans (Array.getElem?_eq_getElem (by omega))⟩
  ·obtain⟨h3,x3⟩:=h2.turned e' hm (a23 _ _ _ _) (a3.put hi (j:=15) (by omega) (.int .i64 st))
   obtain⟨h4,x4⟩:=h3.turned e' hm (a23 _ _ _ _) ((a3.put hi (j:=15) (by omega) (.int .i64 st)).put hi (j:=0) (by omega) .nilIface);subst hw3;refine⟨{ v with R:=fpD D ++ v.R },D,rfl,rfl,rfl,?_,((x1.trans x2).trans x3).trans x4⟩;have e5:=b13 d.tr i (ae7 (d.tr i) 1 (dTx y D th no pr bg 0 ah fr to_).toList) (fun c=>c.setIfInBounds 15 (.int .i64 st)) (fun c=>c.setIfInBounds 0 .nilIface);rw[e,bf1]at e5;rw[<- e5,<- e];exact h4
 clear h ht hI tx hK;go_enter Tryz.func71,Tryz.ntmps71
 go_wp2_with (first
  | (refine az6 rfl 46 _ _ rfl g (i*20+1) (dTx y D th no pr bg 0 ah fr to_) rfl rfl _ arr a1 aU7 a2 (ac2 ..) ?_;simp only[Act.put];obtain⟨w2,hw2⟩:∃ w2,w2=w1.setRow g (ae7 arr (i*20+1) (dTx y D th no pr bg 0 ah fr to_).toList):=⟨_,rfl⟩;rw[<- hw2]at HZ ⊢;obtain⟨⟨x15,c15⟩,f15⟩:=HZ.out.1 15 (by omega);obtain⟨⟨x0,c0⟩,f0⟩:=HZ.out.1 0 (by omega);have c15:w2.cell? ⟨g,i*20+1+14,none⟩=some x15:=c15;have f15:w2.frozen? ⟨g,i*20+1+14,none⟩=false:=f15;have c0:w2.cell? ⟨g,i*20,none⟩=some x0:=c0;have f0:w2.frozen? ⟨g,i*20,none⟩=false:=f0;clear hw2 a1 a2)
  | (go_at_call 35;refine HT.out.mono ?_;rintro r w1 ⟨D,rfl,q⟩;obtain⟨arr,a1,a2,a3,a4⟩:=HX.out w1 D q.out.1 q.out.2;have HZ:=zH (And.intro a3 a4);clear a3 a4 HT HX))
 go_end0
 exact⟨rfl,HZ.out.2 _ rfl⟩
theorem av3 {nc qc:Nat} {qa:Option Addr} {bgn go:Int} (h:EnAt w f v s d) (hs:SuIn s) (ht:t<s.n) (hn:d.rd.n=s.n) (ho:d.rd.o<9223372036854775807) (hc:d.cr t=#[.slice qa nc qc,.int .i64 bgn,.int .i64 go]):Calls Tryz.prog 32 #[.pointer (some ⟨f.b,0,none⟩),.int .i64 (t:Int)] w fun r w'=>r=.returned (.tuple #[])/\Hid (EnAt w' f v s { d with rd:=if finI bgn go nc then Sd.finN d.rd t else d.rd }/\Ext f v v w w'):=by
 have h8:s.n<=8:=by have:=hs.nb;have:=hs.b8;omega
 obtain⟨c0,c1,c2,lc⟩:=h.course ht hc;have HF:=zH (ai7 c0 c1 c2);have k13:=(h.cell 13).trans (rfl:_=some (Value.slice (some ⟨f.gc,0,none⟩) s.n s.n));have lb:=h.ltB;have hti:(t:Int)<(s.n:Int):=by omega
 have hlb:(s.n:Int)<=8:=by omega
 cases hf:finI bgn go nc with
 | false =>
  rw[hf]at HF;have HE:=zH (fun w' (k:Same w w')=>And.intro (h.same k) (Ext.of_below (f:=f) (v:=v) (k.below _)));clear h c0 c1 c2 hs hc hn ho;go_enter Tryz.func32,Tryz.ntmps32
  go_wp2_with (go_at_call 39;refine HF.out.mono ?_;rintro r w1 ⟨rfl,q⟩;have H1:=zH q;clear q)
  go_end0
  exact⟨rfl,HE.out _ H1.out⟩
 | true =>
  rw[hf]at HF;have HE:=zH (fun w' (k:Same w w')=>And.intro (h.same k) (Ext.of_below (f:=f) (v:=v) (k.below _)));have HR:Hid (∀ w1,Same w w1->Calls Tryz.prog 59 #[.pointer (some ⟨f.rb,0,none⟩),.int .i64 (t:Int)] w1 fun e w'=>e=.returned (.int .i64 0)/\Hid (EnAt w' f v s { d with rd:=Sd.finN d.rd t }/\Ext f v v w w')):=fun w1 k=>by
   have h1:=h.same k;refine(Sd.fin_in h1.rds t (by omega) (by omega) ho).mono ?_;rintro e w' ⟨rfl,q1,q2⟩;obtain⟨h2,x2⟩:=h1.setR q2 q1;exact⟨rfl,h2,(Ext.of_below (k.below _)).trans x2⟩
  have HC:Hid (∀ w1,Same w w1->w1.cell? ⟨f.b,12,none⟩=some (.pointer (some ⟨f.rb,0,none⟩))/\f.b<w1.heap.size):=fun w1 k=>⟨((h.same k).cell 12).trans rfl,(h.same k).ltB⟩
  clear h c0 c1 c2 hs hc hn ho;go_enter Tryz.func32,Tryz.ntmps32
  go_wp2_with (first
   | (go_at_call 59;refine(HR.out _ H1.out).mono ?_;rintro r w2 ⟨rfl,q⟩;have H2:=zH q.out;clear q)
   | (go_at_call 39;refine HF.out.mono ?_;rintro r w1 ⟨rfl,q⟩;have H1:=zH q;obtain⟨k12,lb1⟩:=HC.out _ q;clear q))
  go_end0
  exact⟨rfl,H2.out⟩
end
theorem be7:(Tryz.prog.info? 89).map (fun i=>(i.zero,i.size,i.bytes))=some (some (.agg (trU .nilIface 0 0 0 0 0 0)),20,232):=by kernel_rfl
theorem bE7 (x:Value) (hx:x.oneCell'=true) (th no pr bg ah fr:Int):∀ u∈(trU x th no pr bg ah fr).toList,u.oneCell'=true:=fun u hu=>by
 simp only[trU,List.mem_cons,List.not_mem_nil,or_false]at hu
 rcases hu with rfl | rfl | rfl | rfl | rfl | rfl | rfl | rfl | rfl | rfl | rfl | rfl | rfl | rfl | rfl | rfl | rfl | rfl | rfl | rfl
 ·exact hx
 all_goals rfl
theorem b43 (w:World) (arr:Array Value) (T:TypeId):∀ (j:Nat) (u:Value),arr.toList[j]?=some u->(w.alloc (.cells arr T)).cell? ((⟨w.heap.size,0,none⟩:Addr).add j)=some u:=fun j u hj=>by
 rw[add_plain,zR _ _ _ _ _ _ (zN _ _),Nat.zero_add]
 simpa using hj
structure Nxt (w:World) (f:Ex) (s:Su) (t B:Nat) (qa:Option Addr) (x:Int × List Nat) (k gl np:Nat) (po ao:Option Addr) (co ca:Nat):Prop where
 at_:qa=some ⟨gl,0,none⟩
 x1:x.1=(k:Int)
 kp:k<s.pg.length
 c0:w.cell? ⟨gl,B*2,none⟩=some (.int .i64 (k:Int))
 c1:w.cell? ⟨gl,B*2+1,none⟩=some (.slice po x.2.length co)
 p0:w.cell? ⟨f.pp,k*2,none⟩=some (.int .i64 (s.prog x.1).1)
 p1:w.cell? ⟨f.pp,k*2+1,none⟩=some (.slice ao np ca)
 len:(s.prog x.1).2.length=np
 lp:np<=9223372036854775807
 code:a39 w ao (s.prog x.1).2
 args:FlAt w po x.2
 lg:gl<w.heap.size
 lf:f.pp<w.heap.size
section
variable {w w':World} {f:Ex} {v:Ev} {s:Su} {d:Ed} {t B:Nat} {qa:Option Addr} {qc:Nat}
theorem Nxt.on {x:Int × List Nat} {k gl np:Nat} {po ao:Option Addr} {co ca:Nat} (h:Nxt w f s t B qa x k gl np po ao co ca) (q:Bl w w'):Nxt w' f s t B qa x k gl np po ao co ca :=
 ⟨h.at_,h.x1,h.kp,(q.cell (p:=⟨gl,_,none⟩) h.lg).trans h.c0,(q.cell (p:=⟨gl,_,none⟩) h.lg).trans h.c1,(q.cell (p:=⟨f.pp,_,none⟩) h.lf).trans h.p0,(q.cell (p:=⟨f.pp,_,none⟩) h.lf).trans h.p1,h.len,h.lp,h.code.on q,h.args.on q,zL h.lg q.size,zL h.lf q.size⟩
theorem EnAt.next (h:EnAt w f v s d) (hs:SuIn s) (ht:t<s.n) (hB:B<(s.cs t).length) {c1 c2:Value} (hc:d.cr t=#[.slice qa (s.cs t).length qc,c1,c2]):∃ k gl np po ao co ca,Nxt w f s t B qa (s.call t B) k gl np po ao co ca:=by
 obtain⟨_,_,a3,a4⟩:=hs.args hB;obtain⟨qa',qc',e,q⟩:=h.fx.cls t ht;rw[hc]at e;have e:Value.slice qa (s.cs t).length qc=.slice qa' (s.cs t).length qc':=Option.some.inj e;injection e with e1 _ _;subst e1;obtain⟨gl,g1,g2,g3,po,co,g4,g5,g6⟩:=q B hB;have hk:(s.call t B).1.toNat<s.pg.length:=by omega
 obtain⟨p1,p2,ao,ca,p3,p4,p5,p6⟩:=h.fx.prg _ hk;have e:(s.call t B).1=((s.call t B).1.toNat:Int):=by omega
 have ep:s.prog (s.call t B).1=s.pg.getD (s.call t B).1.toNat (0,[]):=rfl;exact⟨_,gl,_,po,ao,co,ca,g1,e,hk,by rw[<- e];exact g3,g4,by rw[ep];exact p2,p3,by rw[ep],p6,by rw[ep];exact p4,g5,h.blR _ g2,h.blR _ p1⟩
theorem b33 (h:EnAt w f v s d) (hs:SuIn s) (ht:t<s.n) (hB:B<(s.cs t).length) (hc:d.cr t=#[.slice qa (s.cs t).length qc,.int .i64 (B:Int),.int .i64 (-1)]) (hT:d.T t=none) (hdn:d.dn<=512):Calls Tryz.prog 44 #[.pointer (some ⟨f.b,0,none⟩),.int .i64 (t:Int)] w fun r w'=>r=.returned (.tuple #[])/\Hid (∃ v' bx,v'.tb=updN v.tb t bx/\EnAt w' f v' s { d with T:=upT d.T t (some (newT s t (s.call t B))),dn:=d.dn+1,tr:=updA d.tr d.dn (trU (txV (newT s t (s.call t B)) bx) t B (s.call t B).1 d.N 0 d.rd.o),cr:=updA d.cr t #[.slice qa (s.cs t).length qc,.int .i64 ((B+1:Nat):Int),.int .i64 (d.dn:Int)] }/\Ext f v v' w w'):=by
 have h8:(s.n:Int)<=8:=by have:=hs.nb;have:=hs.b8;omega
 have hti:(t:Int)<(s.n:Int):=by omega
 have hBn:(B:Int)<((s.cs t).length:Int):=by omega
 have hB64:(s.cs t).length<=64:=hs.few t;have hp64:(s.pg.length:Int)<=64:=by have:=hs.pl;omega
 obtain⟨c0,c1,c2,lc⟩:=h.course ht hc;have k13:=(h.cell 13).trans (rfl:_=some (Value.slice (some ⟨f.gc,0,none⟩) s.n s.n));have lb:=h.ltB;obtain⟨k,gl,np,po,ao,co,ca,X⟩:=h.next hs ht hB hc;have HX:=zH X;obtain⟨nl,hnl⟩:∃ nl,(s.cs t).length=nl:=⟨_,rfl⟩
 rw[hnl]at c0 hBn;have eqa:=X.at_;rw[eqa]at c0;have x0:=X.c0;have x1:=X.c1;have lg:=X.lg;have hkp:(k:Int)<(s.pg.length:Int):=by have:=X.kp;omega
 have HH:=zH h;clear X h eqa;go_enter Tryz.func44,Tryz.ntmps44
 go_upto_region 1 with fail
 go_cut [5] (fun v5 wc=>v5=.pointer (some ⟨w.heap.size,0,none⟩)/\Hid (wc=w.drew.alloc (.cells #[.int .i64 (k:Int),.slice po (s.call t B).2.length co] 83)))
 case first =>
  refine a09 (fun u=>u.cell? ⟨f.gc,t*3,none⟩=some (.slice (some ⟨gl,0,none⟩) nl qc)/\u.cell? ⟨f.gc,t*3+1,none⟩=some (.int .i64 (B:Int))/\u.cell? ⟨gl,B*2,none⟩=some (.int .i64 (k:Int))/\u.cell? ⟨gl,B*2+1,none⟩=some (.slice po (s.call t B).2.length co) )  ((0,true)::(1,true)::(2,true)::(3,true)::(4,true)::(5,true)::(6,true)::(7,true)::(8,true)::(9,true)::(10,false)::(11,false)::[])  Md.Cv.follows13 (by kernel_rfl) (fun _ _ _ _ _ h=>h)  ⟨c0,c1,x0,x1⟩ ?_
  (repeat ((first | (refine a02 (v:=?_) rfl (by rfl) (fun wq hSq=>?_) ?_;rotate_left;(focus ((try dsimp only at hSq);go_simp;try with_reducible rfl))) | refine a03 rfl (by rfl) ?_);simp only[Act.put,zA,zB,zC]))
  (refine a05 rfl (by rfl) (fun KK hK=>?_);go_simp)
  have o:∀ (z:Obj) (g j:Nat),g<w.heap.size->(w.alloc z).drew.cell? ⟨g,j,none⟩=w.cell? ⟨g,j,none⟩:=fun z g j hg=>World.cell?_alloc_old _ _ _ (Nat.ne_of_lt hg)
  refine hK.out _ _ ⟨(o _ _ _ lc).trans c0,(o _ _ _ lc).trans c1,(o _ _ _ lg).trans x0,(o _ _ _ lg).trans x1⟩ ?_
  (clear hK KK;try simp only[Act.put,zA,zB,zC])
  (refine a05 rfl (by rfl) (fun KK hK=>?_);go_simp)
  refine hK.out _ _ ⟨(o _ _ _ lc).trans c0,(o _ _ _ lc).trans c1,(o _ _ _ lg).trans x0,(o _ _ _ lg).trans x1⟩ ?_
  (clear hK KK;try simp only[Act.put])
  refine a13 ?_;go_wp2_with fail
  go_meet
  exact⟨rfl,rfl⟩
 case rest =>
  obtain⟨rfl,HW⟩:=hcut;obtain⟨g5,hg5⟩:∃ g5,w.heap.size=g5:=⟨_,rfl⟩
  rw[hg5];have HE1:Hid (EnAt wc f v s d/\Bl w wc/\wc.heap[g5]?=some (.cells #[.int .i64 (k:Int),.slice po (s.call t B).2.length co] 83 (0,0))/\w.heap.size=g5):=by
   have hw:=HW.out;have hb:Bl w wc:=by rw[hw];exact((Same.drew w).below _).trans (show Below w.heap.size w.drew _ from below_alloc w.drew _)
   refine⟨HH.out.on hb,hb,?_,hg5⟩;rw[hw,<- hg5];exact zN _ _
  have HS:Hid (∀ u,Bl wc u->((u.cell? ⟨f.b,0,none⟩=some (.int .i64 s.a)/\u.cell? ⟨f.b,1,none⟩=some (.int .i64 s.b)/\u.cell? ⟨f.b,2,none⟩=some (.int .i64 s.c)/\u.cell? ⟨f.b,3,none⟩=some (.int .i64 s.e))/\u.cell? ⟨f.b,4,none⟩=some (.slice (some ⟨f.pp,0,none⟩) s.pg.length s.pg.length)/\u.cell? ⟨f.b,12,none⟩=some (.pointer (some ⟨f.rb,0,none⟩))/\u.cell? ⟨f.b,14,none⟩=some (.slice v.pt d.dn v.ct)/\u.cell? ⟨f.b,15,none⟩=some (.int .i64 d.N)/\u.cell? ⟨f.gc,t*3+1,none⟩=some (.int .i64 (B:Int))/\(u.cell? ⟨g5,0,none⟩=some (.int .i64 (k:Int))/\u.cell? ⟨g5,1,none⟩=some (.slice po (s.call t B).2.length co))/\u.cell? ⟨f.pp,k*2,none⟩=some (.int .i64 (s.prog (s.call t B).1).1)/\u.cell? ⟨f.pp,k*2+1,none⟩=some (.slice ao np ca))/\f.b<u.heap.size):=fun u hu=>by
   have h1:=HE1.out.1.on hu;have X1:=(HX.out.on HE1.out.2.1).on hu;have hg:u.heap[g5]?=_:=(hu.block _ (lt_of_block HE1.out.2.2.1)).trans HE1.out.2.2.1;exact⟨⟨⟨(h1.cell 0).trans rfl,(h1.cell 1).trans rfl,(h1.cell 2).trans rfl,(h1.cell 3).trans rfl⟩,(h1.cell 4).trans rfl,(h1.cell 12).trans rfl,(h1.cell 14).trans rfl,(h1.cell 15).trans rfl,(h1.course ht hc).2.1,⟨(zR u g5 0 _ _ _ hg).trans rfl,(zR u g5 1 _ _ _ hg).trans rfl⟩,X1.p0,X1.p1⟩,h1.ltB⟩
  have HTR:Hid (∀ u,Bl wc u->Calls Tryz.prog 68 #[cfgV s.a s.b s.c s.e,.int .i64 (t:Int),.agg #[.int .i64 (s.prog (s.call t B).1).1,.slice ao np ca],.slice po (s.call t B).2.length co] u fun r w'=>∃ bx,r=.returned (.iface (txT (newT s t (s.call t B))) (.pointer (some ⟨bx,0,none⟩)))/\Hid (Born u w' bx (newT s t (s.call t B)))):=fun u hu=>by
   have h1:=HE1.out.1.on hu;have X1:=(HX.out.on HE1.out.2.1).on hu;exact bf2 hs ht hB h1.fx.tab rfl X1.len rfl X1.code X1.args X1.lp
  have HOV:Hid (∀ u,Bl wc u->Calls Tryz.prog 36 #[.pointer (some ⟨f.rb,0,none⟩)] u fun e w'=>e=.returned (.int .i64 d.rd.o)/\w'=u):=fun u hu=>Sd.over_any (HE1.out.1.on hu).rds
  clear c0 c1 c2 lc k13 lb x0 x1 lg HW hg5
  go_upto_region 2 with fail
  obtain⟨⟨⟨a0,a1,a2,a3⟩,a4,a12,a14,a15,ac,⟨ag0,ag1⟩,ap0,ap1⟩,lb⟩:=HS.out wc (zF _ _)
  generalize hcl:(s.call t B).2.length=cl at *
  generalize htg:(s.prog (s.call t B).1).1=tg at *
  obtain⟨tt,htt⟩:∃ tt,txT (newT s t (s.call t B))=tt:=⟨_,rfl⟩
  rw[htt]at HTR;refine a45 (fun u=>(u.cell? ⟨f.b,0,none⟩=some (.int .i64 s.a)/\u.cell? ⟨f.b,1,none⟩=some (.int .i64 s.b)/\u.cell? ⟨f.b,2,none⟩=some (.int .i64 s.c)/\u.cell? ⟨f.b,3,none⟩=some (.int .i64 s.e))/\u.cell? ⟨f.b,4,none⟩=some (.slice (some ⟨f.pp,0,none⟩) s.pg.length s.pg.length)/\u.cell? ⟨f.b,12,none⟩=some (.pointer (some ⟨f.rb,0,none⟩))/\u.cell? ⟨f.b,14,none⟩=some (.slice v.pt d.dn v.ct)/\u.cell? ⟨f.b,15,none⟩=some (.int .i64 d.N)/\u.cell? ⟨f.gc,t*3+1,none⟩=some (.int .i64 (B:Int))/\(u.cell? ⟨g5,0,none⟩=some (.int .i64 (k:Int))/\u.cell? ⟨g5,1,none⟩=some (.slice po cl co))/\u.cell? ⟨f.pp,k*2,none⟩=some (.int .i64 tg)/\u.cell? ⟨f.pp,k*2+1,none⟩=some (.slice ao np ca) )  ((0,true)::(1,true)::(2,true)::(3,true)::(4,true)::(5,true)::(6,true)::(7,true)::(8,true)::(9,true)::(10,true)::(11,true)::(12,true)::(13,true)::(14,true)::(15,true)::(16,true)::(17,true)::(18,true)::(19,true)::(21,true)::(22,true)::(23,true)::(24,true)::(25,true)::(26,true)::(27,true)::(28,true)::(29,true)::(30,true)::(31,true)::(32,true)::(33,true)::(34,true)::(35,true)::(20,false)::(36,false)::(37,true)::(38,true)::(39,false)::(40,false)::(41,true)::(42,true)::(43,false)::[])  Md.Cv.follows13 (by kernel_rfl) (fun _ _ _ _ _ h=>h)  (HS.out _ ((Same.drew wc).below _)).1 ?_
  (repeat (refine a31 (v:=?_) rfl (by rfl) (fun wq hSq=>?_) ?_;rotate_left;(focus ((try dsimp only at hSq);go_simp;try with_reducible rfl));simp only[Act.put,zA,zB,zC]))
  (refine a27 rfl (by rfl) (fun KK hK=>?_);go_simp)
  refine(HTR.out _ ((Same.drew wc).below _)).mono ?_;rintro r w2 ⟨bx,rfl,q⟩;obtain⟨G,K,q1,q2,q3,q4⟩:=q.out;have HB2:Hid (TxAt w2 bx G K (newT s t (s.call t B))/\Abv wc.heap.size G/\Abv wc.heap.size K/\Bl wc w2):=⟨q1,q2,q3,((Same.drew wc).below _).trans q4⟩;clear q q1 q2 q3 q4 HTR;refine hK.out _ _ (fun _=>(HS.out _ HB2.out.2.2.2).1) ?_
  (clear hK KK;try simp only[Act.put,zA,zB,zC])
  (refine a27 rfl (by rfl) (fun KK hK=>?_);go_simp)
  refine(HOV.out _ HB2.out.2.2.2).mono ?_;rintro r w3 ⟨rfl,hw3⟩;subst w3;refine hK.out _ _ (fun _=>(HS.out _ HB2.out.2.2.2).1) ?_
  (clear hK KK;try simp only[Act.put,zA,zB,zC])
  (repeat (refine a31 (v:=?_) rfl (by rfl) (fun wq hSq=>?_) ?_;rotate_left;(focus ((try dsimp only at hSq);go_simp;try with_reducible rfl));simp only[Act.put,zA,zB,zC]))
  (refine a27 rfl (by rfl) (fun KK hK=>?_);go_simp)
  have b3:∀ o,Bl wc (w2.alloc o):=fun o=>HB2.out.2.2.2.alloc HB2.out.2.2.2.size o
  refine hK.out _ _ (fun _=>(HS.out _ (b3 _)).1) ?_
  (clear hK KK;try simp only[Act.put,zA,zB,zC])
  have HM:Hid (∀ o,EnAt (w2.alloc o) f { v with tb:=updN v.tb t bx,G:=updG v.G t G,R:=K ++ v.R } s { d with T:=upT d.T t (some (newT s t (s.call t B))) }/\Ext f v { v with tb:=updN v.tb t bx,G:=updG v.G t G,R:=K ++ v.R } w (w2.alloc o)):=fun o=>by
   obtain⟨e2,x2⟩:=HE1.out.1.born HB2.out.2.2.2 (by omega) hT HB2.out.1 HB2.out.2.1 HB2.out.2.2.1;exact⟨e2.on (below_alloc _ _),((Ext.of_below HE1.out.2.1).trans x2).trans (Ext.of_below (below_alloc _ _))⟩
  obtain⟨i0,hi,hz0,hz1,hz2⟩:=info_parts be7;refine a27 rfl (by rfl) (fun KK hK=>?_);refine au0 _ _ 74 74 rfl (.slice v.pt d.dn v.ct) (.slice (some ⟨w2.heap.size,0,none⟩) 1 1) rfl rfl (run_append_own_at (P:=Tryz.prog) (w2.alloc (.cells (trU (.iface tt (.pointer (some ⟨bx,0,none⟩))) t B k d.N 0 d.rd.o) 89)) 0 74 74 89 i0 (.agg (trU .nilIface 0 0 0 0 0 0)) 20 232 Tryz.underlying74 hi hz0 hz1 hz2 rfl (by decide) _ d.dn (ag6 d.tr d.dn) (HM.out _).1.trn ⟨w2.heap.size,0,none⟩ 1 1 (trU (.iface tt (.pointer (some ⟨bx,0,none⟩))) t B k d.N 0 d.rd.o).toList rfl (b43 w2 _ _) (bE7 _ rfl _ _ _ _ _ _) (by unfold maxLen;omega) (by omega) (zV _)) ?_;rintro v4 w4 ⟨hown4,hgrow4,hnil4,hat4⟩;obtain⟨p',c',hv4,m1,m2,m3⟩:=(HM.out _).1.more (c:=trU (.iface tt (.pointer (some ⟨bx,0,none⟩))) t B k d.N 0 d.rd.o) rfl hown4 hgrow4 (hat4.imp id (fun q=>⟨_,q,zE _⟩));subst hv4;have blk:∀ j,j<wc.heap.size->j∉fpR v.pt->w4.heap[j]?=wc.heap[j]?:=fun j hj hn=>(hgrow4.block j (zL hj (b3 _).size) (fun q=>hn (a40.2 q.symm))).trans ((b3 _).block j hj)
  have eb:=blk f.b lb (fun q=>HE1.out.1.apart 0 4 (by omega) f.b (by simp[own]) q);have egc:=blk f.gc HE1.out.1.crs.lt (fun q=>HE1.out.1.apart 3 4 (by omega) f.gc (by simp[own]) q);have epp:=blk f.pp (HX.out.on HE1.out.2.1).lf (fun q=>HE1.out.1.apart 5 4 (by omega) f.pp (HE1.out.1.fx.prg k HX.out.kp).1 q);have eg5:=blk g5 (lt_of_block HE1.out.2.2.1) (fun q=>by have:=(aU9 HH.out.trn) g5 q;have:=HE1.out.2.2.2;omega);have HB5:Hid (EnAt (w4.setCell ⟨f.b,14,none⟩ (.slice p' (d.dn+1) c')) f { v with tb:=updN v.tb t bx,G:=updG v.G t G,R:=K ++ v.R,pt:=p',ct:=c' } s { d with T:=upT d.T t (some (newT s t (s.call t B))),dn:=d.dn+1,tr:=updA d.tr d.dn (trU (.iface tt (.pointer (some ⟨bx,0,none⟩))) t B k d.N 0 d.rd.o) }/\Ext f v { v with tb:=updN v.tb t bx,G:=updG v.G t G,R:=K ++ v.R,pt:=p',ct:=c' } w (w4.setCell ⟨f.b,14,none⟩ (.slice p' (d.dn+1) c'))):=⟨m2,(HM.out _).2.trans m3⟩;have c14:=(zR w4 _ 14 _ _ _ m1).trans (rfl:_=some (Value.slice v.pt d.dn v.ct));have f14:=zZ w4 _ 14 _ _ m1;have l4:=lt_of_block m1;have cb:=@World.cell?_of_block;refine hK.out _ _ (fun _=>⟨⟨(cb eb).trans a0,(cb eb).trans a1,(cb eb).trans a2,(cb eb).trans a3⟩,(cb eb).trans a4,(cb eb).trans a12,c14,(cb eb).trans a15,(cb egc).trans ac,⟨(cb eg5).trans ag0,(cb eg5).trans ag1⟩,(cb epp).trans ap0,(cb epp).trans ap1⟩) ?_;clear hown4 hgrow4 hnil4 hat4 m1 m2 m3 blk eb egc epp eg5 cb a0 a1 a2 a3 a4 a12 a14 a15 ac ag0 ag1 ap0 ap1 HS HOV
  (clear hK KK;try simp only[Act.put,zA,zB,zC])
  (repeat (refine a31 (v:=?_) rfl (by rfl) (fun wq hSq=>?_) ?_;rotate_left;(focus ((try dsimp only at hSq);go_simp;try with_reducible rfl));simp only[Act.put,zA,zB,zC]))
  (refine a27 rfl (by rfl) (fun KK hK=>?_);go_simp)
  refine hK.out _ _ (fun hn=>absurd rfl hn) ?_
  (clear hK KK;try simp only[Act.put])
  refine a84 ?_;obtain⟨w5,hw5⟩:∃ w5,w5=w4.setCell ⟨f.b,14,none⟩ (.slice p' (d.dn+1) c'):=⟨_,rfl⟩
  rw[<- hw5]at HB5 ⊢;clear hw5 c14 f14 l4;have s14:=(HB5.out.1.cell 14).trans (rfl:_=some (Value.slice p' (d.dn+1) c'));have s1:=(HB5.out.1.course ht hc).2.1;have s2:=(HB5.out.1.course ht hc).2.2.1;have sg:=(HB5.out.1.course ht hc).2.2.2;have sb:=HB5.out.1.ltB;have f1:=HB5.out.1.crs.free (t*3+1);have f2:=HB5.out.1.crs.free (t*3+2);go_wp2_with fail
  go_end0
  obtain⟨e6,x6⟩:=HB5.out.1.setC ht (j:=2) (by omega) (by omega) (.int .i64 (d.dn:Int));obtain⟨e7,x7⟩:=e6.setC ht (j:=1) (by omega) (by omega) (.int .i64 ((B:Int)+1));refine⟨rfl,{ v with tb:=updN v.tb t bx,G:=updG v.G t G,R:=K ++ v.R,pt:=p',ct:=c' },bx,rfl,?_,(HB5.out.2.trans x6).trans x7⟩;have ecr:updA (updA d.cr t ((d.cr t).setIfInBounds 2 (.int .i64 (d.dn:Int)))) t ((updA d.cr t ((d.cr t).setIfInBounds 2 (.int .i64 (d.dn:Int))) t).setIfInBounds 1 (.int .i64 ((B:Int)+1)))=updA d.cr t #[.slice qa (s.cs t).length qc,.int .i64 ((B+1:Nat):Int),.int .i64 (d.dn:Int)]:=by
   funext u
   by_cases q:u=t
   ·subst q
    rw[a22,a22,a22,hc]
    rfl
   ·rw[a34 _ _ q,a34 _ _ q,a34 _ _ q]
  have e7':=e7;dsimp only at e7';rw[ecr]at e7';unfold txV;rw[htt,HX.out.x1];exact e7'
end
theorem bL7 (y:Ty) (ws:List Int):txT (goS y ws)=txT y:=by rcases y with⟨_,_⟩ | ⟨_,_⟩ <;> rfl
theorem ah8 (y:Ty) (ws:List Int) (b:Nat):txV (goS y ws) b=txV y b:=by unfold txV;rw[bL7]
theorem aQ7 (m:Sd.Rd) (t:Nat):(Sd.stepN m t).n=m.n:=by
 unfold Sd.stepN
 split
 ·unfold Sd.settleM
  split <;> rfl
 ·rfl
theorem aQ8 (m:Sd.Rd) (t:Nat):(Sd.stepN m t).o<=m.o+1:=by
 unfold Sd.stepN
 split
 ·unfold Sd.settleM
  split
  ·exact zE _
  ·exact Nat.le_succ _
 ·exact Nat.le_succ _
theorem bI7 (m:Sd.Rd) (t:Nat):(Sd.finN m t).o<=m.o+1:=by
 unfold Sd.finN
 split
 ·unfold Sd.settleM
  split
  ·exact zE _
  ·exact Nat.le_succ _
 ·exact Nat.le_succ _
structure Way (w:World) (f:Ex) (v:Ev) (s:Su) (d:Ed) (t i g nc qc:Nat) (qa:Option Addr) (bgn:Int) (y:Ty) (th no pr bg ah fr:Int):Prop where
 at_:EnAt w f v s d
 ht:t<s.n
 hT:d.T t=some y
 hi:i<d.dn
 hc:d.cr t=#[.slice qa nc qc,.int .i64 bgn,.int .i64 (i:Int)]
 tr:d.tr i=trU (txV y (v.tb t)) th no pr bg ah fr
 pt:v.pt=some ⟨g,0,none⟩
section
variable {w w':World} {f:Ex} {v:Ev} {s:Su} {d:Ed} {t i g nc qc:Nat} {qa:Option Addr} {bgn:Int} {y:Ty} {th no pr bg ah fr N:Int}
theorem Way.on (h:Way w f v s d t i g nc qc qa bgn y th no pr bg ah fr) (k:Bl w w'):Way w' f v s d t i g nc qc qa bgn y th no pr bg ah fr:=⟨h.at_.on k,h.ht,h.hT,h.hi,h.hc,h.tr,h.pt⟩
theorem Way.up (h:Way w f v s d t i g nc qc qa bgn y th no pr bg ah fr):UpC w g (i*20) (txV y (v.tb t)) th no pr bg ah fr:=h.at_.upC h.hi h.pt h.tr
def goD (d:Ed) (t:Nat) (y:Ty):Ed:={ d with ws:=goW y d.ws,cnt:=(if goA y d.ws then up d.cnt else d.cnt),T:=upT d.T t (some (goS y d.ws)) }
theorem Way.goes (h:Way w f v s d t i g nc qc qa bgn y th no pr bg ah fr) {K:List Nat} (hK:∀ k∈K,k∈v.R) (q:Went w w' (v.tb t) f.mb f.mg (v.G t) K y d.ws d.cnt):∃ L,Way w' f { v with G:=updG v.G t L } s (goD d t y) t i g nc qc qa bgn (goS y d.ws) th no pr bg ah fr/\Ext f v { v with G:=updG v.G t L } w w':=by
 obtain⟨L,k1,k2⟩:=h.at_.goes h.hT hK q;exact⟨L,⟨k1,h.ht,a10 _ _ _,h.hi,h.hc,by rw[ah8];exact h.tr,h.pt⟩,k2⟩
theorem Way.step (h:Way w f v s d t i g nc qc qa bgn y th no pr bg ah fr) (hI:TIn s t N y) (ho:a38 y=false) (hw:okW d.ws) (hl:(d.ws.length:Int)=3+s.b+3*s.a) (hN:N<9223372036854775807):Calls Tryz.prog (bK6 y) #[.pointer (some ⟨v.tb t,0,none⟩),.pointer (some ⟨f.mb,0,none⟩)] w fun e w'=>e=.returned (.tuple #[.bool (a38 (goS y d.ws)),.int .i64 0])/\Hid (∃ L,Way w' f { v with G:=updG v.G t L } s (goD d t y) t i g nc qc qa bgn (goS y d.ws) th no pr bg ah fr/\Ext f v { v with G:=updG v.G t L } w w'):=by
 obtain⟨t8,K,tx,hK⟩:=h.at_.tx t y h.hT;obtain⟨o,hm⟩:=h.at_.mem;have a1:Sep [f.mb,f.mg] (v.G t):=h.at_.apart 1 (t+6) (by omega);have a2:Sep [f.mb,f.mg] K:=fun k hk q=>h.at_.apart 1 5 (by omega) k hk (hK k q)
 have a3:a91 w (f.mb::f.mg::v.G t):=⟨h.at_.fx.tab,fun q=>by
  simp only[List.mem_cons]at q
  rcases q with q | q | q
  ·exact h.at_.apart 5 1 (by omega) _ h.at_.fx.tin (by simp[own,q])
  ·exact h.at_.apart 5 1 (by omega) _ h.at_.fx.tin (by simp[own,q])
  ·exact h.at_.apart 5 (t+6) (by omega) _ h.at_.fx.tin q⟩
 refine(bF4 tx hm a1 a2 a3 hI ho hw hl hN).mono ?_;rintro e w' ⟨rfl,q⟩;exact⟨rfl,h.goes hK q⟩
theorem Way.ahead (h:Way w f v s d t i g nc qc qa bgn y th no pr bg ah fr) (a:Int):EnAt (w.setCell ⟨g,i*20+17,none⟩ (.int .i64 a)) f v s { d with tr:=updA d.tr i (trU (txV y (v.tb t)) th no pr bg a fr) }/\Ext f v v w (w.setCell ⟨g,i*20+17,none⟩ (.int .i64 a)):=by
 obtain⟨g',e',hm,A⟩:=h.at_.arr (by have:=h.hi;omega);obtain rfl:g'=g:=by
  have:=e'.symm.trans h.pt;injection this with this;injection this
 have:=h.at_.turned e' hm (a23 _ _ _ _) (A.put h.hi (j:=17) (by omega) (.int .i64 a));rw[h.tr]at this;exact this
theorem Way.rest (h:Way w f v s d t i g nc qc qa bgn y th no pr bg ah fr):EnAt (w.setCell ⟨f.gc,t*3+2,none⟩ (.int .i64 (-1))) f v s { d with cr:=updA d.cr t #[.slice qa nc qc,.int .i64 bgn,.int .i64 (-1)] }/\Ext f v v w (w.setCell ⟨f.gc,t*3+2,none⟩ (.int .i64 (-1))):=by
 have:=h.at_.setC h.ht (j:=2) (by omega) (by omega) (.int .i64 (-1));rw[h.hc]at this;exact this
theorem bv7 (h:Way w f v s d t i g nc qc qa bgn y th no pr bg ah fr) (hs:SuIn s) (hI:TIn s t N y) (ho:a38 y=false) (hw:okW d.ws) (hl:(d.ws.length:Int)=3+s.b+3*s.a) (hN:N<9223372036854775807) (hdn:d.dn<=512) (hrn:d.rd.n=s.n) (hro:d.rd.o<9223372036854775806) (hov:a38 (goS y d.ws)=false) (hne:(bg == d.N)=false):Calls Tryz.prog 45 #[.pointer (some ⟨f.b,0,none⟩),.int .i64 (t:Int)] w fun r w'=>r=.returned (.tuple #[])/\Hid (∃ v',v'.tb=v.tb/\EnAt w' f v' s { goD d t y with rd:=Sd.stepN d.rd t }/\Ext f v v' w w'):=by
 have h8:(s.n:Int)<=8:=by have:=hs.nb;have:=hs.b8;omega
 have hti:(t:Int)<(s.n:Int):=by have:=h.ht;omega
 have hii:(i:Int)<(d.dn:Int):=by have:=h.hi;omega
 have hdi:(d.dn:Int)<=512:=by omega
 have HH:=zH h;have HST:=zH (fun u (k:Bl w u)=>(h.on k).step hI ho hw hl hN);rw[hov]at HST;have HI1:=zH (hI.goes ho hw).1;obtain⟨c0,c1,c2,lc⟩:=h.at_.course h.ht h.hc;have k13:=(h.at_.cell 13).trans (rfl:_=some (Value.slice (some ⟨f.gc,0,none⟩) s.n s.n));have k14:=(h.at_.cell 14).trans (rfl:_=some (Value.slice v.pt d.dn v.ct));rw[h.pt]at k14;have lb:=h.at_.ltB;clear h hI ho hw hl hN;go_enter Tryz.func45,Tryz.ntmps45
 go_upto_region 1 with fail
 go_cut [5] (fun v5 wc=>v5=.pointer (some ⟨g,i*20,none⟩)/\Hid (wc=w.drew))
 case first =>
  refine a09 (fun u=>u.cell? ⟨f.b,14,none⟩=some (.slice (some ⟨g,0,none⟩) d.dn v.ct)/\u.cell? ⟨f.gc,t*3+2,none⟩=some (.int .i64 (i:Int)) )  ((0,true)::(1,true)::(2,true)::(3,true)::(4,true)::(5,true)::(6,true)::(7,true)::(8,true)::(9,true)::[])  Md.Cv.follows13 (by kernel_rfl) (fun _ _ _ _ _ h=>h)  ⟨k14,c2⟩ ?_
  (repeat ((first | (refine a02 (v:=?_) rfl (by rfl) (fun wq hSq=>?_) ?_;rotate_left;(focus ((try dsimp only at hSq);go_simp;try with_reducible rfl))) | refine a03 rfl (by rfl) ?_);simp only[Act.put,zA,zB,zC]))
  refine a13 ?_;go_wp2_with fail
  go_meet
  exact⟨rfl,rfl⟩
 case rest =>
  obtain⟨rfl,HW⟩:=hcut;have H1:Hid (Way wc f v s d t i g nc qc qa bgn y th no pr bg ah fr/\Ext f v v w wc/\Bl w wc):=by
   rw[HW.out];exact⟨HH.out.on ((Same.drew w).below _),Ext.of_below ((Same.drew w).below _),(Same.drew w).below _⟩
  clear HW HH c0 c1 c2 lc k13 k14 lb
  go_upto_region 2 with fail
  go_cut [6,7] (fun v6 v7 wd=>v6=.bool false/\v7=.int .i64 0/\Hid (∃ L,Way wd f { v with G:=updG v.G t L } s (goD d t y) t i g nc qc qa bgn (goS y d.ws) th no pr bg ah fr/\Ext f v { v with G:=updG v.G t L } w wd))
  case first =>
   have HS:Hid (∀ u L (d':Ed) y',Way u f { v with G:=L } s d' t i g nc qc qa bgn y' th no pr bg ah fr->txV y' (v.tb t)=txV y (v.tb t)->(u.cell? ⟨g,i*20,none⟩=some (txV y (v.tb t))/\u.cell? ⟨f.b,11,none⟩=some (.pointer (some ⟨f.mb,0,none⟩)))/\g<u.heap.size/\f.b<u.heap.size):=fun u L d' y' q e=>⟨⟨by rw[<- e];exact q.up.c0,(q.at_.cell 11).trans rfl⟩,q.up.lt,q.at_.ltB⟩
   obtain⟨⟨e0,e11⟩,lg,lb⟩:=HS.out wc v.G d y H1.out.1 rfl;have HST2:=zH (HST.out wc.drew (H1.out.2.2.trans ((Same.drew wc).below _)));clear HST
   rcases y with⟨m,x⟩ | ⟨m,x⟩
   ·refine a09 (fun u=>u.cell? ⟨g,i*20,none⟩=some (.iface 147 (.pointer (some ⟨v.tb t,0,none⟩)))/\u.cell? ⟨f.b,11,none⟩=some (.pointer (some ⟨f.mb,0,none⟩)) )  ((0,true)::(1,true)::(2,true)::(3,true)::(4,true)::(5,true)::(6,true)::(7,true)::(8,true)::(9,true)::(10,false)::(11,true)::(12,true)::(13,true)::(14,true)::(15,true)::[])  Md.Cv.follows13 (by kernel_rfl) (fun _ _ _ _ _ h=>h)  ⟨e0,e11⟩ ?_
    (repeat ((first | (refine a02 (v:=?_) rfl (by rfl) (fun wq hSq=>?_) ?_;rotate_left;(focus ((try dsimp only at hSq);go_simp;try with_reducible rfl))) | refine a03 rfl (by rfl) ?_);simp only[Act.put,zA,zB,zC]))
    (refine a05 rfl (by rfl) (fun KK hK=>?_);go_simp)
    go_invoke
    go_simp
    refine HST2.out.mono ?_;rintro r wd ⟨rfl,q⟩;obtain⟨L,q1,q2⟩:=q.out;have HQ:=zH (And.intro q1 q2);clear q q1 q2;refine hK.out _ _ (HS.out _ _ _ _ HQ.out.1 (ah8 _ _ _)).1 ?_
    (clear hK KK;try simp only[Act.put,zA,zB,zC])
    (repeat ((first | (refine a02 (v:=?_) rfl (by rfl) (fun wq hSq=>?_) ?_;rotate_left;(focus ((try dsimp only at hSq);go_simp;try with_reducible rfl))) | refine a03 rfl (by rfl) ?_);simp only[Act.put,zA,zB,zC]))
    refine a13 ?_;go_wp2_with fail
    go_meet
    exact⟨rfl,rfl,L,HQ.out.1,(H1.out.2.1.trans (Ext.of_below ((Same.drew wc).below _))).trans HQ.out.2⟩
   ·refine a09 (fun u=>u.cell? ⟨g,i*20,none⟩=some (.iface 145 (.pointer (some ⟨v.tb t,0,none⟩)))/\u.cell? ⟨f.b,11,none⟩=some (.pointer (some ⟨f.mb,0,none⟩)) )  ((0,true)::(1,true)::(2,true)::(3,true)::(4,true)::(5,true)::(6,true)::(7,true)::(8,true)::(9,true)::(10,false)::(11,true)::(12,true)::(13,true)::(14,true)::(15,true)::[])  Md.Cv.follows13 (by kernel_rfl) (fun _ _ _ _ _ h=>h)  ⟨e0,e11⟩ ?_
    (repeat ((first | (refine a02 (v:=?_) rfl (by rfl) (fun wq hSq=>?_) ?_;rotate_left;(focus ((try dsimp only at hSq);go_simp;try with_reducible rfl))) | refine a03 rfl (by rfl) ?_);simp only[Act.put,zA,zB,zC]))
    (refine a05 rfl (by rfl) (fun KK hK=>?_);go_simp)
    go_invoke
    go_simp
    refine HST2.out.mono ?_;rintro r wd ⟨rfl,q⟩;obtain⟨L,q1,q2⟩:=q.out;have HQ:=zH (And.intro q1 q2);clear q q1 q2;refine hK.out _ _ (HS.out _ _ _ _ HQ.out.1 (ah8 _ _ _)).1 ?_
    (clear hK KK;try simp only[Act.put,zA,zB,zC])
    (repeat ((first | (refine a02 (v:=?_) rfl (by rfl) (fun wq hSq=>?_) ?_;rotate_left;(focus ((try dsimp only at hSq);go_simp;try with_reducible rfl))) | refine a03 rfl (by rfl) ?_);simp only[Act.put,zA,zB,zC]))
    refine a13 ?_;go_wp2_with fail
    go_meet
    exact⟨rfl,rfl,L,HQ.out.1,(H1.out.2.1.trans (Ext.of_below ((Same.drew wc).below _))).trans HQ.out.2⟩
  case rest =>
   obtain⟨rfl,rfl,HW⟩:=hcut;obtain⟨L,q1,q2⟩:=HW.out;have HQ:=zH (And.intro q1 q2);obtain⟨v1,hv1⟩:∃ v1,v1={ v with G:=updG v.G t L }:=⟨_,rfl⟩
   have HV1:Hid (v1.tb=v.tb):=by rw[hv1];trivial
   rw[<- hv1]at HQ q1;have c14:=q1.up.c14;have k15:=(q1.at_.cell 15).trans (rfl:_=some (Value.int .i64 d.N));have k12:=(q1.at_.cell 12).trans (rfl:_=some (Value.pointer (some ⟨f.rb,0,none⟩)));have lb:=q1.at_.ltB;have lg:=q1.up.lt;clear q1 q2 HW hv1 H1 HST;have HR:Hid (Calls Tryz.prog 70 #[.pointer (some ⟨f.rb,0,none⟩),.int .i64 (t:Int)] wc.drew fun e w'=>e=.returned (.int .i64 0)/\Hid (EnAt w' f v1 s { goD d t y with rd:=Sd.stepN d.rd t }/\Ext f v v1 w w')):=by
    have h1:=HQ.out.1.at_.same (Same.drew wc);refine(Sd.step_in h1.rds t (by show t<d.rd.n;rw[hrn];exact HQ.out.1.ht) (by show d.rd.n<=8;omega) (by show d.rd.o<_;omega)).mono ?_;rintro e w' ⟨rfl,r1,r2⟩;obtain⟨h2,x2⟩:=h1.setR r2 r1;exact⟨rfl,h2,(HQ.out.2.trans (Ext.of_below ((Same.drew wc).below _))).trans x2⟩
   have HN:Hid (∀ u,EnAt u f v1 s { goD d t y with rd:=Sd.stepN d.rd t }/\Ext f v v1 w u->Calls Tryz.prog 32 #[.pointer (some ⟨f.b,0,none⟩),.int .i64 (t:Int)] u fun r w'=>r=.returned (.tuple #[])/\Hid (EnAt w' f v1 s { goD d t y with rd:=Sd.stepN d.rd t }/\Ext f v v1 w w')):=fun u hu=>by
    have hf:finI bgn (i:Int) nc=false:=by unfold finI;rw[zU (by omega)];rfl
    have o2:=(aQ8 d.rd t);refine(av3 hu.1 hs HQ.out.1.ht ((aQ7 d.rd t).trans hrn) (by show (Sd.stepN d.rd t).o<_;omega) HQ.out.1.hc).mono ?_;rintro r w' ⟨rfl,q⟩;have q:=q.out;rw[hf]at q;exact⟨rfl,q.1,hu.2.trans q.2⟩
   go_upto_region 3 with fail
   refine a09 (fun u=>u.cell? ⟨g,i*20+14,none⟩=some (.int .i64 bg)/\u.cell? ⟨f.b,15,none⟩=some (.int .i64 d.N) )  ((0,true)::(1,true)::(2,true)::(3,true)::(4,true)::(5,true)::(6,true)::(7,true)::(8,true)::(9,true)::[])  Md.Cv.follows13 (by kernel_rfl) (fun _ _ _ _ _ h=>h)  ⟨c14,k15⟩ ?_
   (repeat ((first | (refine a02 (v:=?_) rfl (by rfl) (fun wq hSq=>?_) ?_;rotate_left;(focus ((try dsimp only at hSq);go_simp;try with_reducible rfl))) | refine a03 rfl (by rfl) ?_);simp only[Act.put,zA,zB,zC]))
   refine a13 ?_
   go_wp2_with (first
    | (go_at_call 32;refine(HN.out _ H3.out).mono ?_;rintro r w4 ⟨rfl,q⟩;have H4:=zH q.out;clear q HN)
    | (go_at_call 70;refine HR.out.mono ?_;rintro r w3 ⟨rfl,q⟩;have H3:=zH q.out;clear q HR c14 k15 k12 lg lb;have lb:=H3.out.1.ltB))
   go_end0
   exact⟨rfl,v1,HV1.out,H4.out.1,H4.out.2⟩
theorem b24 (h:Way w f v s d t i g nc qc qa bgn y th no pr bg ah fr) (hs:SuIn s) (hI:TIn s t N y) (ho:a38 y=false) (hw:okW d.ws) (hl:(d.ws.length:Int)=3+s.b+3*s.a) (hN:N<9223372036854775807) (hdn:d.dn<=512) (hrn:d.rd.n=s.n) (hro:d.rd.o<9223372036854775806) (hov:a38 (goS y d.ws)=false) (hne:(bg == d.N)=true) (h1:∀ m x,goS y d.ws=.inr (m,x)->x.part≠1):Calls Tryz.prog 45 #[.pointer (some ⟨f.b,0,none⟩),.int .i64 (t:Int)] w fun r w'=>r=.returned (.tuple #[])/\Hid (∃ v',v'.tb=v.tb/\EnAt w' f v' s { goD d t y with tr:=updA d.tr i (trU (txV y (v.tb t)) th no pr bg (al3 (goW y d.ws) (goS y d.ws)) fr),rd:=Sd.stepN d.rd t }/\Ext f v v' w w'):=by
 have h8:(s.n:Int)<=8:=by have:=hs.nb;have:=hs.b8;omega
 have hti:(t:Int)<(s.n:Int):=by have:=h.ht;omega
 have hii:(i:Int)<(d.dn:Int):=by have:=h.hi;omega
 have hdi:(d.dn:Int)<=512:=by omega
 have HH:=zH h;have HST:=zH (fun u (k:Bl w u)=>(h.on k).step hI ho hw hl hN);rw[hov]at HST;have HI1:=zH (hI.goes ho hw).1;obtain⟨c0,c1,c2,lc⟩:=h.at_.course h.ht h.hc;have k13:=(h.at_.cell 13).trans (rfl:_=some (Value.slice (some ⟨f.gc,0,none⟩) s.n s.n));have k14:=(h.at_.cell 14).trans (rfl:_=some (Value.slice v.pt d.dn v.ct));rw[h.pt]at k14;have lb:=h.at_.ltB;clear h hI ho hw hl hN;go_enter Tryz.func45,Tryz.ntmps45
 go_upto_region 1 with fail
 go_cut [5] (fun v5 wc=>v5=.pointer (some ⟨g,i*20,none⟩)/\Hid (wc=w.drew))
 case first =>
  refine a09 (fun u=>u.cell? ⟨f.b,14,none⟩=some (.slice (some ⟨g,0,none⟩) d.dn v.ct)/\u.cell? ⟨f.gc,t*3+2,none⟩=some (.int .i64 (i:Int)) )  ((0,true)::(1,true)::(2,true)::(3,true)::(4,true)::(5,true)::(6,true)::(7,true)::(8,true)::(9,true)::[])  Md.Cv.follows13 (by kernel_rfl) (fun _ _ _ _ _ h=>h)  ⟨k14,c2⟩ ?_
  (repeat ((first | (refine a02 (v:=?_) rfl (by rfl) (fun wq hSq=>?_) ?_;rotate_left;(focus ((try dsimp only at hSq);go_simp;try with_reducible rfl))) | refine a03 rfl (by rfl) ?_);simp only[Act.put,zA,zB,zC]))
  refine a13 ?_;go_wp2_with fail
  go_meet
  exact⟨rfl,rfl⟩
 case rest =>
  obtain⟨rfl,HW⟩:=hcut;have H1:Hid (Way wc f v s d t i g nc qc qa bgn y th no pr bg ah fr/\Ext f v v w wc/\Bl w wc):=by
   rw[HW.out];exact⟨HH.out.on ((Same.drew w).below _),Ext.of_below ((Same.drew w).below _),(Same.drew w).below _⟩
  clear HW HH c0 c1 c2 lc k13 k14 lb
  go_upto_region 2 with fail
  go_cut [6,7] (fun v6 v7 wd=>v6=.bool false/\v7=.int .i64 0/\Hid (∃ L,Way wd f { v with G:=updG v.G t L } s (goD d t y) t i g nc qc qa bgn (goS y d.ws) th no pr bg ah fr/\Ext f v { v with G:=updG v.G t L } w wd))
  case first =>
   have HS:Hid (∀ u L (d':Ed) y',Way u f { v with G:=L } s d' t i g nc qc qa bgn y' th no pr bg ah fr->txV y' (v.tb t)=txV y (v.tb t)->(u.cell? ⟨g,i*20,none⟩=some (txV y (v.tb t))/\u.cell? ⟨f.b,11,none⟩=some (.pointer (some ⟨f.mb,0,none⟩)))/\g<u.heap.size/\f.b<u.heap.size):=fun u L d' y' q e=>⟨⟨by rw[<- e];exact q.up.c0,(q.at_.cell 11).trans rfl⟩,q.up.lt,q.at_.ltB⟩
   obtain⟨⟨e0,e11⟩,lg,lb⟩:=HS.out wc v.G d y H1.out.1 rfl;have HST2:=zH (HST.out wc.drew (H1.out.2.2.trans ((Same.drew wc).below _)));clear HST
   rcases y with⟨m,x⟩ | ⟨m,x⟩
   ·refine a09 (fun u=>u.cell? ⟨g,i*20,none⟩=some (.iface 147 (.pointer (some ⟨v.tb t,0,none⟩)))/\u.cell? ⟨f.b,11,none⟩=some (.pointer (some ⟨f.mb,0,none⟩)) )  ((0,true)::(1,true)::(2,true)::(3,true)::(4,true)::(5,true)::(6,true)::(7,true)::(8,true)::(9,true)::(10,false)::(11,true)::(12,true)::(13,true)::(14,true)::(15,true)::[])  Md.Cv.follows13 (by kernel_rfl) (fun _ _ _ _ _ h=>h)  ⟨e0,e11⟩ ?_
    (repeat ((first | (refine a02 (v:=?_) rfl (by rfl) (fun wq hSq=>?_) ?_;rotate_left;(focus ((try dsimp only at hSq);go_simp;try with_reducible rfl))) | refine a03 rfl (by rfl) ?_);simp only[Act.put,zA,zB,zC]))
    (refine a05 rfl (by rfl) (fun KK hK=>?_);go_simp)
    go_invoke
    go_simp
    refine HST2.out.mono ?_;rintro r wd ⟨rfl,q⟩;obtain⟨L,q1,q2⟩:=q.out;have HQ:=zH (And.intro q1 q2);clear q q1 q2;refine hK.out _ _ (HS.out _ _ _ _ HQ.out.1 (ah8 _ _ _)).1 ?_
    (clear hK KK;try simp only[Act.put,zA,zB,zC])
    (repeat ((first | (refine a02 (v:=?_) rfl (by rfl) (fun wq hSq=>?_) ?_;rotate_left;(focus ((try dsimp only at hSq);go_simp;try with_reducible rfl))) | refine a03 rfl (by rfl) ?_);simp only[Act.put,zA,zB,zC]))
    refine a13 ?_;go_wp2_with fail
    go_meet
    exact⟨rfl,rfl,L,HQ.out.1,(H1.out.2.1.trans (Ext.of_below ((Same.drew wc).below _))).trans HQ.out.2⟩
   ·refine a09 (fun u=>u.cell? ⟨g,i*20,none⟩=some (.iface 145 (.pointer (some ⟨v.tb t,0,none⟩)))/\u.cell? ⟨f.b,11,none⟩=some (.pointer (some ⟨f.mb,0,none⟩)) )  ((0,true)::(1,true)::(2,true)::(3,true)::(4,true)::(5,true)::(6,true)::(7,true)::(8,true)::(9,true)::(10,false)::(11,true)::(12,true)::(13,true)::(14,true)::(15,true)::[])  Md.Cv.follows13 (by kernel_rfl) (fun _ _ _ _ _ h=>h)  ⟨e0,e11⟩ ?_
    (repeat ((first | (refine a02 (v:=?_) rfl (by rfl) (fun wq hSq=>?_) ?_;rotate_left;(focus ((try dsimp only at hSq);go_simp;try with_reducible rfl))) | refine a03 rfl (by rfl) ?_);simp only[Act.put,zA,zB,zC]))
    (refine a05 rfl (by rfl) (fun KK hK=>?_);go_simp)
    go_invoke
    go_simp
    refine HST2.out.mono ?_;rintro r wd ⟨rfl,q⟩;obtain⟨L,q1,q2⟩:=q.out;have HQ:=zH (And.intro q1 q2);clear q q1 q2;refine hK.out _ _ (HS.out _ _ _ _ HQ.out.1 (ah8 _ _ _)).1 ?_
    (clear hK KK;try simp only[Act.put,zA,zB,zC])
    (repeat ((first | (refine a02 (v:=?_) rfl (by rfl) (fun wq hSq=>?_) ?_;rotate_left;(focus ((try dsimp only at hSq);go_simp;try with_reducible rfl))) | refine a03 rfl (by rfl) ?_);simp only[Act.put,zA,zB,zC]))
    refine a13 ?_;go_wp2_with fail
    go_meet
    exact⟨rfl,rfl,L,HQ.out.1,(H1.out.2.1.trans (Ext.of_below ((Same.drew wc).below _))).trans HQ.out.2⟩
  case rest =>
   obtain⟨rfl,rfl,HW⟩:=hcut;obtain⟨L,q1,q2⟩:=HW.out;have HQ:=zH (And.intro q1 q2);obtain⟨v1,hv1⟩:∃ v1,v1={ v with G:=updG v.G t L }:=⟨_,rfl⟩
   have HV1:Hid (v1.tb=v.tb):=by rw[hv1];trivial
   rw[<- hv1]at HQ q1;have c14:=q1.up.c14;have k15:=(q1.at_.cell 15).trans (rfl:_=some (Value.int .i64 d.N));have k12:=(q1.at_.cell 12).trans (rfl:_=some (Value.pointer (some ⟨f.rb,0,none⟩)));have lb:=q1.at_.ltB;have lg:=q1.up.lt;clear q1 q2 HW hv1 H1 HST;obtain⟨p4,hp4⟩:∃ p4,3+s.b=p4:=⟨_,rfl⟩
   obtain⟨p5,hp5⟩:∃ p5,p4+3*s.a=p5:=⟨_,rfl⟩
   obtain⟨A,hA⟩:∃ A,al3 (goW y d.ws) (goS y d.ws)=A:=⟨_,rfl⟩
   have HS:Hid (∀ u,Bl wc u->((u.cell? ⟨g,i*20,none⟩=some (txV y (v.tb t))/\u.cell? ⟨f.b,11,none⟩=some (.pointer (some ⟨f.mb,0,none⟩))/\u.cell? ⟨f.b,5,none⟩=some (.int .i64 0)/\u.cell? ⟨f.b,6,none⟩=some (.int .i64 1)/\u.cell? ⟨f.b,7,none⟩=some (.int .i64 2)/\u.cell? ⟨f.b,8,none⟩=some (.int .i64 3)/\u.cell? ⟨f.b,9,none⟩=some (.int .i64 p4)/\u.cell? ⟨f.b,10,none⟩=some (.int .i64 p5))/\u.cell? ⟨g,i*20+1+16,none⟩=some (.int .i64 ah)/\u.frozen? ⟨g,i*20+1+16,none⟩=false/\g<u.heap.size)):=fun u hu=>by
    have z:=HQ.out.1.on hu;have c0:=z.up.c0;rw[ah8,HV1.out]at c0;obtain⟨g',e',_,Ar⟩:=z.at_.arr (by have:=z.hi;omega);obtain rfl:g'=g:=by
     have:=e'.symm.trans z.pt;injection this with this;injection this
    refine⟨⟨c0,(z.at_.cell 11).trans rfl,(z.at_.cell 5).trans rfl,(z.at_.cell 6).trans rfl,(z.at_.cell 7).trans rfl,(z.at_.cell 8).trans rfl,(z.at_.cell 9).trans ?_,(z.at_.cell 10).trans ?_⟩,z.up.c17,Ar.free _,z.up.lt⟩
    ·rw[<- hp4];rfl
    ·rw[<- hp5,<- hp4];rfl
   have HAH:Hid (∀ u,Bl wc u->Calls Tryz.prog 69 #[txV y (v.tb t),.pointer (some ⟨f.mb,0,none⟩),plV p4 p5] u fun r w'=>r=.returned (.int .i64 A)/\Bl u w'):=fun u hu=>by
    have z:=HQ.out.1.on hu;obtain⟨_,K,tx,_⟩:=z.at_.tx t _ z.hT;obtain⟨o,hm⟩:=z.at_.mem;have:=ahead_any (p4:=p4) (p5:=p5) tx HI1.out h1 hm;rw[ah8,HV1.out]at this;rw[<- hA];exact this
   have HP:Hid (∀ u,Bl wc u->EnAt (u.setCell ⟨g,i*20+1+16,none⟩ (.int .i64 A)) f v1 s { goD d t y with tr:=updA d.tr i (trU (txV y (v.tb t)) th no pr bg A fr) }/\Ext f v v1 w (u.setCell ⟨g,i*20+1+16,none⟩ (.int .i64 A))):=fun u hu=>by
    have z:=(HQ.out.1.on hu).ahead A;rw[ah8,HV1.out]at z;exact⟨z.1,(HQ.out.2.trans (Ext.of_below hu)).trans z.2⟩
   have HR:Hid (∀ u,EnAt u f v1 s { goD d t y with tr:=updA d.tr i (trU (txV y (v.tb t)) th no pr bg A fr) }/\Ext f v v1 w u->Calls Tryz.prog 70 #[.pointer (some ⟨f.rb,0,none⟩),.int .i64 (t:Int)] u fun e w'=>e=.returned (.int .i64 0)/\Hid (EnAt w' f v1 s { goD d t y with tr:=updA d.tr i (trU (txV y (v.tb t)) th no pr bg A fr),rd:=Sd.stepN d.rd t }/\Ext f v v1 w w')):=fun u hu=>by
    refine(Sd.step_in hu.1.rds t (by show t<d.rd.n;rw[hrn];exact HQ.out.1.ht) (by show d.rd.n<=8;omega) (by show d.rd.o<_;omega)).mono ?_;rintro e w' ⟨rfl,r1,r2⟩;obtain⟨h2,x2⟩:=hu.1.setR r2 r1;exact⟨rfl,h2,hu.2.trans x2⟩
   have HN:Hid (∀ u,EnAt u f v1 s { goD d t y with tr:=updA d.tr i (trU (txV y (v.tb t)) th no pr bg A fr),rd:=Sd.stepN d.rd t }/\Ext f v v1 w u->Calls Tryz.prog 32 #[.pointer (some ⟨f.b,0,none⟩),.int .i64 (t:Int)] u fun r w'=>r=.returned (.tuple #[])/\Hid (EnAt w' f v1 s { goD d t y with tr:=updA d.tr i (trU (txV y (v.tb t)) th no pr bg A fr),rd:=Sd.stepN d.rd t }/\Ext f v v1 w w')):=fun u hu=>by
    have hf:finI bgn (i:Int) nc=false:=by unfold finI;rw[zU (by omega)];rfl
    have o2:=(aQ8 d.rd t);refine(av3 hu.1 hs HQ.out.1.ht ((aQ7 d.rd t).trans hrn) (by show (Sd.stepN d.rd t).o<_;omega) HQ.out.1.hc).mono ?_;rintro r w' ⟨rfl,q⟩;have q:=q.out;rw[hf]at q;exact⟨rfl,q.1,hu.2.trans q.2⟩
   have HAE:=zH hA;clear h1 hA hp4 hp5 HI1
   go_upto_region 3 with fail
   refine a09 (fun u=>u.cell? ⟨g,i*20+14,none⟩=some (.int .i64 bg)/\u.cell? ⟨f.b,15,none⟩=some (.int .i64 d.N) )  ((0,true)::(1,true)::(2,true)::(3,true)::(4,true)::(5,true)::(6,true)::(7,true)::(8,true)::(9,true)::[])  Md.Cv.follows13 (by kernel_rfl) (fun _ _ _ _ _ h=>h)  ⟨c14,k15⟩ ?_
   (repeat ((first | (refine a02 (v:=?_) rfl (by rfl) (fun wq hSq=>?_) ?_;rotate_left;(focus ((try dsimp only at hSq);go_simp;try with_reducible rfl))) | refine a03 rfl (by rfl) ?_);simp only[Act.put,zA,zB,zC]))
   refine a13 ?_;obtain⟨u1,hu1⟩:∃ u1,u1=wc.drew:=⟨_,rfl⟩
   rw[<- hu1];have HU1:Hid (Bl wc u1):=by rw[hu1];exact(Same.drew wc).below _
   clear hu1 c14 k15 k12 lb
   go_upto_region 4 with fail
   refine a09 (fun u=>u.cell? ⟨g,i*20,none⟩=some (txV y (v.tb t))/\u.cell? ⟨f.b,11,none⟩=some (.pointer (some ⟨f.mb,0,none⟩))/\u.cell? ⟨f.b,5,none⟩=some (.int .i64 0)/\u.cell? ⟨f.b,6,none⟩=some (.int .i64 1)/\u.cell? ⟨f.b,7,none⟩=some (.int .i64 2)/\u.cell? ⟨f.b,8,none⟩=some (.int .i64 3)/\u.cell? ⟨f.b,9,none⟩=some (.int .i64 p4)/\u.cell? ⟨f.b,10,none⟩=some (.int .i64 p5) )  ((0,true)::(1,true)::(2,true)::(3,true)::(4,true)::(5,true)::(6,true)::(7,true)::(8,true)::(9,true)::(10,true)::(11,true)::(12,true)::(13,false)::(14,true)::(15,true)::(16,true)::(17,false)::[])  Md.Cv.follows13 (by kernel_rfl) (fun _ _ _ _ _ h=>h)  (HS.out _ (HU1.out.trans ((Same.drew u1).below _))).1 ?_
   (repeat ((first | (refine a02 (v:=?_) rfl (by rfl) (fun wq hSq=>?_) ?_;rotate_left;(focus ((try dsimp only at hSq);go_simp;try with_reducible rfl))) | refine a03 rfl (by rfl) ?_);simp only[Act.put,zA,zB,zC]))
   (refine a05 rfl (by rfl) (fun KK hK=>?_);go_simp)
   refine(HAH.out _ (HU1.out.trans ((Same.drew u1).below _))).mono ?_;rintro r u2 ⟨rfl,q⟩;have HU2:Hid (Bl wc u2):=(HU1.out.trans ((Same.drew u1).below _)).trans (q.mono HU1.out.size);clear q;obtain⟨sa,s17,f17,lg2⟩:=HS.out _ HU2.out;refine hK.out _ _ sa ?_;clear sa
   (clear hK KK;try simp only[Act.put,zA,zB,zC])
   (repeat ((first | (refine a02 (v:=?_) rfl (by rfl) (fun wq hSq=>?_) ?_;rotate_left;(focus ((try dsimp only at hSq);go_simp;try with_reducible rfl))) | refine a03 rfl (by rfl) ?_);simp only[Act.put,zA,zB,zC]))
   (refine a05 rfl (by rfl) (fun KK hK=>?_);go_simp)
   have HE:=zH (HP.out _ HU2.out);have sb:(u2.setCell ⟨g,i*20+1+16,none⟩ (.int .i64 A)).cell? ⟨g,i*20,none⟩=some (txV y (v.tb t)):=by
    rw[World.cell?_setCell_other _ _ _ _ (by intro e;injection e with _ e _;omega)];exact(HS.out _ HU2.out).1.1
   have sc:∀ j,(u2.setCell ⟨g,i*20+1+16,none⟩ (.int .i64 A)).cell? ⟨f.b,j,none⟩=u2.cell? ⟨f.b,j,none⟩:=fun j=>World.cell?_setCell_other _ _ _ _ (by intro e;injection e with e _ _;exact HQ.out.1.at_.apart 0 4 (by omega) f.b (by simp[own]) (by simp[own,HQ.out.1.pt,fpR,e]))
   obtain⟨_,s11,s5,s6,s7,s8,s9,s10⟩:=(HS.out _ HU2.out).1;refine hK.out _ _ ⟨sb,(sc _).trans s11,(sc _).trans s5,(sc _).trans s6,(sc _).trans s7,(sc _).trans s8,(sc _).trans s9,(sc _).trans s10⟩ ?_;clear sb sc s11 s5 s6 s7 s8 s9 s10
   (clear hK KK;try simp only[Act.put])
   refine a13 ?_;obtain⟨u3,hu3⟩:∃ u3,u3=u2.setCell ⟨g,i*20+1+16,none⟩ (.int .i64 A):=⟨_,rfl⟩
   rw[<- hu3]at HE ⊢;clear hu3 s17 f17 lg2 HS HAH HP;have k12:=(HE.out.1.cell 12).trans (rfl:_=some (Value.pointer (some ⟨f.rb,0,none⟩)));have lb:=HE.out.1.ltB
   go_wp2_with (first
    | (go_at_call 32;refine(HN.out _ H3.out).mono ?_;rintro r w4 ⟨rfl,q⟩;have H4:=zH q.out;clear q HN)
    | (go_at_call 70;refine(HR.out _ HE.out).mono ?_;rintro r w3 ⟨rfl,q⟩;have H3:=zH q.out;clear q HR k12 lb;have lb:=H3.out.1.ltB))
   go_end0
   refine⟨rfl,v1,HV1.out,?_,H4.out.2⟩;rw[HAE.out];exact H4.out.1
end
section
variable {w w':World} {f:Ex} {v:Ev} {s:Su} {d:Ed} {t i g nc qc:Nat} {qa:Option Addr} {bgn:Int} {y:Ty} {th no pr bg ah fr N:Int}
theorem bg8 (h:Way w f v s d t i g nc qc qa bgn y th no pr bg ah fr) (hs:SuIn s) (hI:TIn s t N y) (ho:a38 y=false) (hw:okW d.ws) (hl:(d.ws.length:Int)=3+s.b+3*s.a) (hN:N<9223372036854775807) (hdn:d.dn<=512) (hrn:d.rd.n=s.n) (hro:d.rd.o<9223372036854775806) (hov:a38 (goS y d.ws)=true) (hne:(bg == d.N)=false) {rd':Sd.Rd} (hrd:(if finI bgn (-1) nc then Sd.finN (Sd.stepN d.rd t) t else Sd.stepN d.rd t)=rd'):Calls Tryz.prog 45 #[.pointer (some ⟨f.b,0,none⟩),.int .i64 (t:Int)] w fun r w'=>r=.returned (.tuple #[])/\Hid (∃ v' D,v'.tb=v.tb/\EnAt w' f v' s { goD d t y with T:=upT d.T t none,cr:=updA d.cr t #[.slice qa nc qc,.int .i64 bgn,.int .i64 (-1)],rd:=rd',tr:=updA d.tr i (trO (goS y d.ws) D th no pr bg d.N ah fr rd'.o),L:=fun j=>if j=i then some (D,ag3 (goS y d.ws),macT (goS y d.ws)) else d.L j }/\Ext f v v' w w'):=by
 have h8:(s.n:Int)<=8:=by have:=hs.nb;have:=hs.b8;omega
 have hti:(t:Int)<(s.n:Int):=by have:=h.ht;omega
 have hii:(i:Int)<(d.dn:Int):=by have:=h.hi;omega
 have hdi:(d.dn:Int)<=512:=by omega
 have HRD:=zH hrd;clear hrd;have HH:=zH h;have HST:=zH (fun u (k:Bl w u)=>(h.on k).step hI ho hw hl hN);rw[hov]at HST;have HI1:=zH (hI.goes ho hw).1;obtain⟨c0,c1,c2,lc⟩:=h.at_.course h.ht h.hc;have k13:=(h.at_.cell 13).trans (rfl:_=some (Value.slice (some ⟨f.gc,0,none⟩) s.n s.n));have k14:=(h.at_.cell 14).trans (rfl:_=some (Value.slice v.pt d.dn v.ct));rw[h.pt]at k14;have lb:=h.at_.ltB;clear h hI ho hw hl hN;go_enter Tryz.func45,Tryz.ntmps45
 go_upto_region 1 with fail
 go_cut [5] (fun v5 wc=>v5=.pointer (some ⟨g,i*20,none⟩)/\Hid (wc=w.drew))
 case first =>
  refine a09 (fun u=>u.cell? ⟨f.b,14,none⟩=some (.slice (some ⟨g,0,none⟩) d.dn v.ct)/\u.cell? ⟨f.gc,t*3+2,none⟩=some (.int .i64 (i:Int)) )  ((0,true)::(1,true)::(2,true)::(3,true)::(4,true)::(5,true)::(6,true)::(7,true)::(8,true)::(9,true)::[])  Md.Cv.follows13 (by kernel_rfl) (fun _ _ _ _ _ h=>h)  ⟨k14,c2⟩ ?_
  (repeat ((first | (refine a02 (v:=?_) rfl (by rfl) (fun wq hSq=>?_) ?_;rotate_left;(focus ((try dsimp only at hSq);go_simp;try with_reducible rfl))) | refine a03 rfl (by rfl) ?_);simp only[Act.put,zA,zB,zC]))
  refine a13 ?_;go_wp2_with fail
  go_meet
  exact⟨rfl,rfl⟩
 case rest =>
  obtain⟨rfl,HW⟩:=hcut;have H1:Hid (Way wc f v s d t i g nc qc qa bgn y th no pr bg ah fr/\Ext f v v w wc/\Bl w wc):=by
   rw[HW.out];exact⟨HH.out.on ((Same.drew w).below _),Ext.of_below ((Same.drew w).below _),(Same.drew w).below _⟩
  clear HW HH c0 c1 c2 lc k13 k14 lb
  go_upto_region 2 with fail
  go_cut [6,7] (fun v6 v7 wd=>v6=.bool true/\v7=.int .i64 0/\Hid (∃ L,Way wd f { v with G:=updG v.G t L } s (goD d t y) t i g nc qc qa bgn (goS y d.ws) th no pr bg ah fr/\Ext f v { v with G:=updG v.G t L } w wd))
  case first =>
   have HS:Hid (∀ u L (d':Ed) y',Way u f { v with G:=L } s d' t i g nc qc qa bgn y' th no pr bg ah fr->txV y' (v.tb t)=txV y (v.tb t)->(u.cell? ⟨g,i*20,none⟩=some (txV y (v.tb t))/\u.cell? ⟨f.b,11,none⟩=some (.pointer (some ⟨f.mb,0,none⟩)))/\g<u.heap.size/\f.b<u.heap.size):=fun u L d' y' q e=>⟨⟨by rw[<- e];exact q.up.c0,(q.at_.cell 11).trans rfl⟩,q.up.lt,q.at_.ltB⟩
   obtain⟨⟨e0,e11⟩,lg,lb⟩:=HS.out wc v.G d y H1.out.1 rfl;have HST2:=zH (HST.out wc.drew (H1.out.2.2.trans ((Same.drew wc).below _)));clear HST
   rcases y with⟨m,x⟩ | ⟨m,x⟩
   ·refine a09 (fun u=>u.cell? ⟨g,i*20,none⟩=some (.iface 147 (.pointer (some ⟨v.tb t,0,none⟩)))/\u.cell? ⟨f.b,11,none⟩=some (.pointer (some ⟨f.mb,0,none⟩)) )  ((0,true)::(1,true)::(2,true)::(3,true)::(4,true)::(5,true)::(6,true)::(7,true)::(8,true)::(9,true)::(10,false)::(11,true)::(12,true)::(13,true)::(14,true)::(15,true)::[])  Md.Cv.follows13 (by kernel_rfl) (fun _ _ _ _ _ h=>h)  ⟨e0,e11⟩ ?_
    (repeat ((first | (refine a02 (v:=?_) rfl (by rfl) (fun wq hSq=>?_) ?_;rotate_left;(focus ((try dsimp only at hSq);go_simp;try with_reducible rfl))) | refine a03 rfl (by rfl) ?_);simp only[Act.put,zA,zB,zC]))
    (refine a05 rfl (by rfl) (fun KK hK=>?_);go_simp)
    go_invoke
    go_simp
    refine HST2.out.mono ?_;rintro r wd ⟨rfl,q⟩;obtain⟨L,q1,q2⟩:=q.out;have HQ:=zH (And.intro q1 q2);clear q q1 q2;refine hK.out _ _ (HS.out _ _ _ _ HQ.out.1 (ah8 _ _ _)).1 ?_
    (clear hK KK;try simp only[Act.put,zA,zB,zC])
    (repeat ((first | (refine a02 (v:=?_) rfl (by rfl) (fun wq hSq=>?_) ?_;rotate_left;(focus ((try dsimp only at hSq);go_simp;try with_reducible rfl))) | refine a03 rfl (by rfl) ?_);simp only[Act.put,zA,zB,zC]))
    refine a13 ?_;go_wp2_with fail
    go_meet
    exact⟨rfl,rfl,L,HQ.out.1,(H1.out.2.1.trans (Ext.of_below ((Same.drew wc).below _))).trans HQ.out.2⟩
   ·refine a09 (fun u=>u.cell? ⟨g,i*20,none⟩=some (.iface 145 (.pointer (some ⟨v.tb t,0,none⟩)))/\u.cell? ⟨f.b,11,none⟩=some (.pointer (some ⟨f.mb,0,none⟩)) )  ((0,true)::(1,true)::(2,true)::(3,true)::(4,true)::(5,true)::(6,true)::(7,true)::(8,true)::(9,true)::(10,false)::(11,true)::(12,true)::(13,true)::(14,true)::(15,true)::[])  Md.Cv.follows13 (by kernel_rfl) (fun _ _ _ _ _ h=>h)  ⟨e0,e11⟩ ?_
    (repeat ((first | (refine a02 (v:=?_) rfl (by rfl) (fun wq hSq=>?_) ?_;rotate_left;(focus ((try dsimp only at hSq);go_simp;try with_reducible rfl))) | refine a03 rfl (by rfl) ?_);simp only[Act.put,zA,zB,zC]))
    (refine a05 rfl (by rfl) (fun KK hK=>?_);go_simp)
    go_invoke
    go_simp
    refine HST2.out.mono ?_;rintro r wd ⟨rfl,q⟩;obtain⟨L,q1,q2⟩:=q.out;have HQ:=zH (And.intro q1 q2);clear q q1 q2;refine hK.out _ _ (HS.out _ _ _ _ HQ.out.1 (ah8 _ _ _)).1 ?_
    (clear hK KK;try simp only[Act.put,zA,zB,zC])
    (repeat ((first | (refine a02 (v:=?_) rfl (by rfl) (fun wq hSq=>?_) ?_;rotate_left;(focus ((try dsimp only at hSq);go_simp;try with_reducible rfl))) | refine a03 rfl (by rfl) ?_);simp only[Act.put,zA,zB,zC]))
    refine a13 ?_;go_wp2_with fail
    go_meet
    exact⟨rfl,rfl,L,HQ.out.1,(H1.out.2.1.trans (Ext.of_below ((Same.drew wc).below _))).trans HQ.out.2⟩
  case rest =>
   obtain⟨rfl,rfl,HW⟩:=hcut;obtain⟨L,q1,q2⟩:=HW.out;have HQ:=zH (And.intro q1 q2);obtain⟨v1,hv1⟩:∃ v1,v1={ v with G:=updG v.G t L }:=⟨_,rfl⟩
   have HV1:Hid (v1.tb=v.tb):=by rw[hv1];trivial
   rw[<- hv1]at HQ q1;have c14:=q1.up.c14;have k15:=(q1.at_.cell 15).trans (rfl:_=some (Value.int .i64 d.N));have k12:=(q1.at_.cell 12).trans (rfl:_=some (Value.pointer (some ⟨f.rb,0,none⟩)));have lb:=q1.at_.ltB;have lg:=q1.up.lt;clear q1 q2 HW hv1 H1 HST;have ht:=HQ.out.1.ht;have o2:=aQ8 d.rd t;have o3:=bI7 (Sd.stepN d.rd t) t;have HP:Hid (∀ u,Bl wc u->EnAt (u.setCell ⟨f.gc,t*3+2,none⟩ (.int .i64 (-1))) f v1 s { goD d t y with cr:=updA d.cr t #[.slice qa nc qc,.int .i64 bgn,.int .i64 (-1)] }/\Ext f v v1 w (u.setCell ⟨f.gc,t*3+2,none⟩ (.int .i64 (-1)))):=fun u hu=>by
    have z:=(HQ.out.1.on hu).rest;exact⟨z.1,(HQ.out.2.trans (Ext.of_below hu)).trans z.2⟩
   have HR:Hid (∀ u,EnAt u f v1 s { goD d t y with cr:=updA d.cr t #[.slice qa nc qc,.int .i64 bgn,.int .i64 (-1)] }/\Ext f v v1 w u->Calls Tryz.prog 70 #[.pointer (some ⟨f.rb,0,none⟩),.int .i64 (t:Int)] u fun e w'=>e=.returned (.int .i64 0)/\Hid (EnAt w' f v1 s { goD d t y with cr:=updA d.cr t #[.slice qa nc qc,.int .i64 bgn,.int .i64 (-1)],rd:=Sd.stepN d.rd t }/\Ext f v v1 w w')):=fun u hu=>by
    refine(Sd.step_in hu.1.rds t (by show t<d.rd.n;omega) (by show d.rd.n<=8;omega) (by show d.rd.o<_;omega)).mono ?_;rintro e w' ⟨rfl,r1,r2⟩;obtain⟨h2,x2⟩:=hu.1.setR r2 r1;exact⟨rfl,h2,hu.2.trans x2⟩
   have HN:Hid (∀ u,EnAt u f v1 s { goD d t y with cr:=updA d.cr t #[.slice qa nc qc,.int .i64 bgn,.int .i64 (-1)],rd:=Sd.stepN d.rd t }/\Ext f v v1 w u->Calls Tryz.prog 32 #[.pointer (some ⟨f.b,0,none⟩),.int .i64 (t:Int)] u fun r w'=>r=.returned (.tuple #[])/\Hid (EnAt w' f v1 s { goD d t y with cr:=updA d.cr t #[.slice qa nc qc,.int .i64 bgn,.int .i64 (-1)],rd:=rd' }/\Ext f v v1 w w')):=fun u hu=>by
    refine(av3 hu.1 hs ht ((aQ7 d.rd t).trans hrn) (by show (Sd.stepN d.rd t).o<_;omega) (qa:=qa) (nc:=nc) (qc:=qc) (bgn:=bgn) (go:=-1) (a22 _ _ _)).mono ?_;rintro r w' ⟨rfl,q⟩;have q:=q.out;dsimp only at q;rw[HRD.out]at q;exact⟨rfl,q.1,hu.2.trans q.2⟩
   have HO:Hid (∀ u,EnAt u f v1 s { goD d t y with cr:=updA d.cr t #[.slice qa nc qc,.int .i64 bgn,.int .i64 (-1)],rd:=rd' }/\Ext f v v1 w u->Calls Tryz.prog 36 #[.pointer (some ⟨f.rb,0,none⟩)] u fun e w'=>e=.returned (.int .i64 (rd'.o:Int))/\w'=u):=fun u hu=>Sd.over_any hu.1.rds
   have HCL:Hid (∀ u,EnAt u f v1 s { goD d t y with cr:=updA d.cr t #[.slice qa nc qc,.int .i64 bgn,.int .i64 (-1)],rd:=rd' }/\Ext f v v1 w u->Calls Tryz.prog 71 #[.pointer (some ⟨g,i*20,none⟩),.int .i64 d.N,.int .i64 (rd'.o:Int)] u fun r w'=>r=.returned (.tuple #[])/\Hid (∃ v' D,v'.tb=v.tb/\EnAt w' f v' s { goD d t y with T:=upT d.T t none,cr:=updA d.cr t #[.slice qa nc qc,.int .i64 bgn,.int .i64 (-1)],rd:=rd',tr:=updA d.tr i (trO (goS y d.ws) D th no pr bg d.N ah fr rd'.o),L:=fun j=>if j=i then some (D,ag3 (goS y d.ws),macT (goS y d.ws)) else d.L j }/\Ext f v v' w w')):=fun u hu=>by
    refine(b44 hu.1 HQ.out.1.hi HQ.out.1.pt HQ.out.1.hT HQ.out.1.tr HI1.out).mono ?_;rintro r w' ⟨rfl,q⟩;obtain⟨v2,D,e1,e2,e3,k1,k2⟩:=q.out;obtain⟨k3,k4⟩:=k1.died t;refine⟨rfl,{ v2 with G:=updG v2.G t [] },D,e2.trans HV1.out,?_,(hu.2.trans k2).trans k4⟩;have eT:upT (upT d.T t (some (goS y d.ws))) t none=upT d.T t none:=by
     funext u
     by_cases q:u=t
     ·subst q;rw[a10,a10]
     ·rw[a21 _ _ q,a21 _ _ q,a21 _ _ q]
    have k5:=k3;dsimp only[goD]at k5;rw[eT]at k5;exact k5
   have HC:Hid (∀ u,EnAt u f v1 s { goD d t y with cr:=updA d.cr t #[.slice qa nc qc,.int .i64 bgn,.int .i64 (-1)],rd:=rd' }/\Ext f v v1 w u->u.cell? ⟨f.b,15,none⟩=some (.int .i64 d.N)/\u.cell? ⟨f.b,12,none⟩=some (.pointer (some ⟨f.rb,0,none⟩))/\f.b<u.heap.size):=fun u hu=>⟨(hu.1.cell 15).trans rfl,(hu.1.cell 12).trans rfl,hu.1.ltB⟩
   have sc:=(HQ.out.1.at_.course ht HQ.out.1.hc).2.2.1;have lc:=(HQ.out.1.at_.course ht HQ.out.1.hc).2.2.2;have fc:=HQ.out.1.at_.crs.free (t*3+2);clear o2 o3 HI1
   go_upto_region 3 with fail
   refine a09 (fun u=>u.cell? ⟨g,i*20+14,none⟩=some (.int .i64 bg)/\u.cell? ⟨f.b,15,none⟩=some (.int .i64 d.N) )  ((0,true)::(1,true)::(2,true)::(3,true)::(4,true)::(5,true)::(6,true)::(7,true)::(8,true)::(9,true)::[])  Md.Cv.follows13 (by kernel_rfl) (fun _ _ _ _ _ h=>h)  ⟨c14,k15⟩ ?_
   (repeat ((first | (refine a02 (v:=?_) rfl (by rfl) (fun wq hSq=>?_) ?_;rotate_left;(focus ((try dsimp only at hSq);go_simp;try with_reducible rfl))) | refine a03 rfl (by rfl) ?_);simp only[Act.put,zA,zB,zC]))
   refine a13 ?_;obtain⟨u1,hu1⟩:∃ u1,u1=wc.drew:=⟨_,rfl⟩
   rw[<- hu1];have HU1:Hid (Bl wc u1):=by rw[hu1];exact(Same.drew wc).below _
   have sc1:u1.cell? ⟨f.gc,t*3+2,none⟩=some (.int .i64 (i:Int)):=by rw[hu1];exact sc
   have fc1:u1.frozen? ⟨f.gc,t*3+2,none⟩=false:=by rw[hu1];exact fc
   have lc1:f.gc<u1.heap.size:=zL lc HU1.out.size;clear hu1 c14 k15 k12 lb sc fc lc
   go_upto_region 7 with fail
   have HE:=zH (HP.out _ HU1.out);obtain⟨u2,hu2⟩:∃ u2,u2=u1.setCell ⟨f.gc,t*3+2,none⟩ (.int .i64 (-1)):=⟨_,rfl⟩
   rw[<- hu2]at HE ⊢;clear hu2 HP sc1 fc1 lc1;have k12:=(HE.out.1.cell 12).trans (rfl:_=some (Value.pointer (some ⟨f.rb,0,none⟩)));have lb:=HE.out.1.ltB
   go_upto_region 10 with(first
    | (go_at_call 32;refine(HN.out _ H3.out).mono ?_;rintro r w4 ⟨rfl,q⟩;have H4:=zH q.out;clear q HN)
    | (go_at_call 70;refine(HR.out _ HE.out).mono ?_;rintro r w3 ⟨rfl,q⟩;have H3:=zH q.out;clear q HR k12 lb;have lb:=H3.out.1.ltB))
   clear lb;obtain⟨k15,k12,lb⟩:=HC.out _ H4.out;have H5:Hid (EnAt w4.drew f v1 s { goD d t y with cr:=updA d.cr t #[.slice qa nc qc,.int .i64 bgn,.int .i64 (-1)],rd:=rd' }/\Ext f v v1 w w4.drew):=⟨H4.out.1.same (Same.drew w4),H4.out.2.trans (Ext.of_below ((Same.drew w4).below _))⟩;refine a45 (fun u=>u.cell? ⟨f.b,15,none⟩=some (.int .i64 d.N)/\u.cell? ⟨f.b,12,none⟩=some (.pointer (some ⟨f.rb,0,none⟩)) )  ((0,true)::(1,true)::(2,true)::(3,true)::(4,true)::(5,true)::(6,true)::(7,true)::(8,true)::(9,false)::(10,false)::[])  Md.Cv.follows13 (by kernel_rfl) (fun _ _ _ _ _ h=>h)  ⟨k15,k12⟩ ?_
   (repeat (refine a31 (v:=?_) rfl (by rfl) (fun wq hSq=>?_) ?_;rotate_left;(focus ((try dsimp only at hSq);go_simp;try with_reducible rfl));simp only[Act.put,zA,zB,zC]))
   (refine a27 rfl (by rfl) (fun KK hK=>?_);go_simp)
   refine(HO.out _ H5.out).mono ?_;rintro r w5 ⟨rfl,hw5⟩;subst w5;refine hK.out _ _ (fun _=>⟨k15,k12⟩) ?_
   (clear hK KK;try simp only[Act.put,zA,zB,zC])
   (refine a27 rfl (by rfl) (fun KK hK=>?_);go_simp)
   refine(HCL.out _ H5.out).mono ?_;rintro r w6 ⟨rfl,q⟩;have H6:=zH q.out;clear q;refine hK.out _ _ (fun hn=>absurd rfl hn) ?_
   (clear hK KK;try simp only[Act.put,zA,zB,zC])
   refine a84 ?_;go_wp2_with fail
   go_end0
   obtain⟨v',D,z1,z2,z3⟩:=H6.out;exact⟨rfl,v',z1,⟨D,z2⟩,z3⟩
end
theorem aT3 (s:Su) (t:Nat) (x:Int × List Nat) (ws:List Int):a38 (goS (newT s t x) ws)=false/\∀ m z,goS (newT s t x) ws=.inr (m,z)->z.part≠1:=by
 unfold newT
 by_cases q:(s.prog x.1).1=2
 ·rw[if_pos q]
  refine⟨rfl,fun m z e=>?_⟩;have e:z=(a06 (newY s.a s.b s.c s.e (s.prog x.1).1 (s.prog x.1).2 x.2 t) ws).1:=by
   injection e with e;injection e with _ e;exact e.symm
  rw[e]
  show (2:Nat)≠1
  omega
 ·rw[if_neg q]
  exact⟨rfl,fun m z e=>by cases e⟩
section
variable {s:Su} {v v':Ev} {d:Ed} {Z:Es} {t:Nat}
theorem ao1 {X:Rs} (h:X.H.E.T t=none):goI X t=-1:=if_pos (by rw[h];rfl)
theorem ae3 {X:Rs} {y:Ty} (h:X.H.E.T t=some y):goI X t=(X.H.at_ t:Int):=if_neg (by rw[h];exact Bool.false_ne_true)
theorem aE3 {X X':Rs} {u:Nat} (h:X'.H.E.T u=X.H.E.T u) (k:X'.H.at_ u=X.H.at_ u):goI X' u=goI X u:=by
 cases e:X.H.E.T u with
 | none=>rw[ao1 e,ao1 (h.trans e)]
 | some y=>rw[ae3 e,ae3 (h.trans e),k]
structure Came (X X':Rs) (t:Nat) (y:Ty) (T:Nat->Tx) (B at_:Nat->Nat) (D:Nat->Dd) (dn i:Nat):Prop where
 N:X'.H.N=X.H.N+1
 ws:X'.H.E.ws=goW y X.H.E.ws
 cnt:X'.H.E.cnt=if goA y X.H.E.ws then up X.H.E.cnt else X.H.E.cnt
 T:X'.H.E.T=upT T t (if a38 (goS y X.H.E.ws) then none else some (goS y X.H.E.ws))
 B:X'.H.E.B=B
 dn:X'.H.dn=dn
 at_:X'.H.at_=at_
 D:X'.H.D=updD D i { D i with tx:=goS y X.H.E.ws,en:=if a38 (goS y X.H.E.ws) then X.H.N+1 else 0 }
theorem au4 (h:WI s Z.X) (hT:Z.X.H.E.T t=none) {y:Ty} (hy:newT s t (s.call t (Z.X.H.E.B t))=y):Came Z.X (stepR Z.X t) t y (upT Z.X.H.E.T t (some y)) (updN Z.X.H.E.B t (Z.X.H.E.B t+1)) (updN Z.X.H.at_ t Z.X.H.dn) (updD Z.X.H.D Z.X.H.dn ⟨t,Z.X.H.E.B t,Z.X.H.N+1,0,y⟩) (Z.X.H.dn+1) Z.X.H.dn:=by
 have e1:=au3 h hT;rw[hy]at e1;have e2:=aE2 (t:=t) (H:=begH Z.X.H t) (y:=y) (by rw[e1];exact a10 _ _ _);have e:=(show (stepR Z.X t).H=goH (begH Z.X.H t) t from rfl).trans e2;refine⟨?_,?_,?_,?_,?_,?_,?_,?_⟩
 ·rw[e,e1]
 ·rw[e,e1]
 ·rw[e,e1]
 ·rw[e,e1]
 ·rw[e,e1]
 ·rw[e,e1]
 ·rw[e,e1]
 ·rw[e,e1]
  dsimp only;rw[a24]
theorem an0 {y:Ty} (hT:Z.X.H.E.T t=some y):Came Z.X (stepR Z.X t) t y Z.X.H.E.T Z.X.H.E.B Z.X.H.at_ Z.X.H.D Z.X.H.dn (Z.X.H.at_ t):=by
 have e1:=aD1 (X:=Z.X) hT;have e2:=aE2 (t:=t) (H:=begH Z.X.H t) (y:=y) (by rw[e1];exact hT);have e:=(show (stepR Z.X t).H=goH (begH Z.X.H t) t from rfl).trans e2;refine⟨?_,?_,?_,?_,?_,?_,?_,?_⟩ <;> rw[e,e1]
theorem bj6 (h:Fits s v d Z) (wi:WI s Z.X) (hT:Z.X.H.E.T t=none) {bx:Nat} (hv:v'.tb=updN v.tb t bx) {qa:Option Addr} {qc:Nat}
  {y:Ty} (hy:newT s t (s.call t (Z.X.H.E.B t))=y) {d':Ed} (hd:d'={ N:=d.N+1,ws:=goW y d.ws,cnt:=(if goA y d.ws then up d.cnt else d.cnt),rd:=rdZ s (stepR Z.X t),cr:=updA d.cr t #[.slice qa (s.cs t).length qc,.int .i64 ((Z.X.H.E.B t+1:Nat):Int),.int .i64 (d.dn:Int)],dn:=d.dn+1,tr:=updA (updA d.tr d.dn (trU (txV y bx) t (Z.X.H.E.B t) (s.call t (Z.X.H.E.B t)).1 (d.N+1) 0 d.rd.o)) d.dn (trU (txV y bx) t (Z.X.H.E.B t) (s.call t (Z.X.H.E.B t)).1 (d.N+1) (al3 (goW y d.ws) (goS y d.ws)) d.rd.o),T:=upT (upT d.T t (some y)) t (some (goS y d.ws)),L:=d.L }):Fits s v' d' (aa0 s Z t):=by
 subst hd;have C:=au4 wi hT hy;have fg:=(aT3 s t (s.call t (Z.X.H.E.B t)) Z.X.H.E.ws).1;rw[hy]at fg;have hA:(aa0 s Z t).A=updI Z.A Z.X.H.dn (al3 (goW y Z.X.H.E.ws) (goS y Z.X.H.E.ws)):=by
  rw[<- hy];exact if_pos (by rw[hT];rfl)
 have hfr:(aa0 s Z t).X.fr=updN Z.X.fr Z.X.H.dn Z.X.R:=if_pos (by rw[hT];rfl);have eT:(stepR Z.X t).H.E.T=upT (upT Z.X.H.E.T t (some y)) t (some (goS y Z.X.H.E.ws)):=by rw[C.T,fg];rfl
 have hto:(aa0 s Z t).X.to_=Z.X.to_:=if_neg (by
  show ¬ ((stepR Z.X t).H.E.T t).isNone=true
  rw[eT,a10];exact Bool.false_ne_true)
 have eD:(aa0 s Z t).X.H.D=updD (updD Z.X.H.D Z.X.H.dn ⟨t,Z.X.H.E.B t,Z.X.H.N+1,0,y⟩) Z.X.H.dn ⟨t,Z.X.H.E.B t,Z.X.H.N+1,0,goS y Z.X.H.E.ws⟩:=by
  show (stepR Z.X t).H.D=_
  rw[C.D,fg,a11]
  rfl
 have hro:(d.rd.o:Int)=(Z.X.R:Int):=by rw[h.rd];rfl
 have en:∀ i,i<Z.X.H.dn->(Z.X.H.D i).en=0->(Z.X.H.D i).th≠t:=fun i hi e0 q=>by
  have:=(wi.un i hi e0).1;rw[q,hT]at this
  cases this
 refine⟨?_,?_,?_,rfl,?_,?_,fun u hu=>?_,fun i hi e0=>?_,fun i hi e0=>?_⟩
 ·show d.N+1=((stepR Z.X t).H.N:Int);rw[C.N,h.N];rfl
 ·show goW y d.ws=(stepR Z.X t).H.E.ws;rw[C.ws,h.ws]
 ·show (if goA y d.ws then up d.cnt else d.cnt)=(stepR Z.X t).H.E.cnt;rw[C.cnt,h.ws,h.cnt]
 ·show upT (upT d.T t (some y)) t (some (goS y d.ws))=(stepR Z.X t).H.E.T;rw[eT,h.T,h.ws]
 ·show d.dn+1=(stepR Z.X t).H.dn;rw[C.dn,h.dn]
 ·show ∃ qa qc,updA d.cr t _ u=#[_,.int .i64 ((stepR Z.X t).H.E.B u:Int),.int .i64 (goI (stepR Z.X t) u)]
  rw[C.B]
  by_cases q:u=t
  ·subst q
   refine⟨qa,qc,?_⟩;rw[a22,a24,ae3 (X:=stepR Z.X u) (y:=goS y Z.X.H.E.ws) (by rw[eT];exact a10 _ _ _),C.at_,a24,h.dn]
  ·obtain⟨qa',qc',k⟩:=h.cr u hu
   refine⟨qa',qc',?_⟩;rw[a34 _ _ q,k,a51 _ _ q,aE3 (X:=Z.X) (X':=stepR Z.X t) (by rw[eT,a21 _ _ q,a21 _ _ q]) (by rw[C.at_,a51 _ _ q])]
 ·have hi:i<(stepR Z.X t).H.dn:=hi
  rw[C.dn]at hi;rw[eD]at e0 ⊢;rw[hA,hfr];dsimp only
  rcases Nat.lt_or_eq_of_le (Nat.le_of_lt_succ hi) with c | c
  ·rw[a32 _ _ (by omega),a32 _ _ (by omega)]at e0 ⊢
   rw[aR8 _ _ (by omega),a51 _ _ (by omega),hv,a51 _ _ (en i c e0),a34 _ _ (by rw[h.dn];omega),a34 _ _ (by rw[h.dn];omega)];exact h.up i c e0
  ·subst c
   rw[a11,az4,a24,hv,<- h.dn,a22];dsimp only;rw[a24,ah8,hro,h.ws,h.N]
   rfl
 ·have hi:i<(stepR Z.X t).H.dn:=hi
  rw[C.dn]at hi;rw[eD]at e0 ⊢;rw[hA,hfr,hto];dsimp only
  rcases Nat.lt_or_eq_of_le (Nat.le_of_lt_succ hi) with c | c
  ·rw[a32 _ _ (by omega),a32 _ _ (by omega)]at e0 ⊢
   rw[aR8 _ _ (by omega),a51 _ _ (by omega),a34 _ _ (by rw[h.dn];omega),a34 _ _ (by rw[h.dn];omega)];exact h.ov i c e0
  ·subst c
   rw[a11]at e0;exact absurd rfl e0
theorem bj5 (h:Fits s v d Z) (wi:WI s Z.X) (ht:t<s.n) {y:Ty} (hT:Z.X.H.E.T t=some y) (ho:a38 (goS y Z.X.H.E.ws)=false) (hv:v'.tb=v.tb)
  {d':Ed} (hd:d'={ d with N:=d.N+1,ws:=goW y d.ws,cnt:=(if goA y d.ws then up d.cnt else d.cnt),rd:=rdZ s (stepR Z.X t),T:=upT d.T t (some (goS y d.ws)) }):Fits s v' d' (aa0 s Z t):=by
 subst hd;have C:=an0 hT;obtain⟨u1,u2,u3,u4⟩:=wi.up t y ht hT;have hA:(aa0 s Z t).A=Z.A:=if_neg (by rw[hT];exact Bool.false_ne_true);have hfr:(aa0 s Z t).X.fr=Z.X.fr:=if_neg (by rw[hT];exact Bool.false_ne_true);have eT:(stepR Z.X t).H.E.T=upT Z.X.H.E.T t (some (goS y Z.X.H.E.ws)):=by rw[C.T,ho];rfl
 have hto:(aa0 s Z t).X.to_=Z.X.to_:=if_neg (by
  show ¬ ((stepR Z.X t).H.E.T t).isNone=true
  rw[eT,a10];exact Bool.false_ne_true)
 have eD:(aa0 s Z t).X.H.D=updD Z.X.H.D (Z.X.H.at_ t) { Z.X.H.D (Z.X.H.at_ t) with tx:=goS y Z.X.H.E.ws,en:=0 }:=by
  show (stepR Z.X t).H.D=_
  rw[C.D,ho]
  rfl
 refine⟨?_,?_,?_,rfl,?_,?_,fun u hu=>?_,fun i hi e0=>?_,fun i hi e0=>?_⟩
 ·show d.N+1=((stepR Z.X t).H.N:Int);rw[C.N,h.N];rfl
 ·show goW y d.ws=(stepR Z.X t).H.E.ws;rw[C.ws,h.ws]
 ·show (if goA y d.ws then up d.cnt else d.cnt)=(stepR Z.X t).H.E.cnt;rw[C.cnt,h.ws,h.cnt]
 ·show upT d.T t (some (goS y d.ws))=(stepR Z.X t).H.E.T;rw[eT,h.T,h.ws]
 ·show d.dn=(stepR Z.X t).H.dn;rw[C.dn,h.dn]
 ·show ∃ qa qc,d.cr u=#[_,.int .i64 ((stepR Z.X t).H.E.B u:Int),.int .i64 (goI (stepR Z.X t) u)]
  rw[C.B];obtain⟨qa',qc',k⟩:=h.cr u hu;refine⟨qa',qc',?_⟩;rw[k]
  by_cases q:u=t
  ·subst q
   rw[ae3 (X:=stepR Z.X u) (y:=goS y Z.X.H.E.ws) (by rw[eT];exact a10 _ _ _),C.at_,ae3 hT]
  ·rw[aE3 (X:=Z.X) (X':=stepR Z.X t) (by rw[eT,a21 _ _ q]) (by rw[C.at_])]
 ·have hi:i<(stepR Z.X t).H.dn:=hi
  rw[C.dn]at hi;rw[eD]at e0 ⊢;rw[hA,hfr,hv]
  by_cases c:i=Z.X.H.at_ t
  ·rw[c,a11]
   dsimp only;rw[ah8,<- u4];exact h.up _ u1 u3
  ·rw[a32 _ _ c]at e0 ⊢
   exact h.up i hi e0
 ·have hi:i<(stepR Z.X t).H.dn:=hi
  rw[C.dn]at hi;rw[eD]at e0 ⊢;rw[hA,hfr,hto]
  by_cases c:i=Z.X.H.at_ t
  ·rw[c,a11]at e0
   exact absurd rfl e0
  ·rw[a32 _ _ c]at e0 ⊢
   exact h.ov i hi e0
theorem b65 (h:Fits s v d Z) (wi:WI s Z.X) (ht:t<s.n) {y:Ty} (hT:Z.X.H.E.T t=some y) (ho:a38 (goS y Z.X.H.E.ws)=true) (hv:v'.tb=v.tb) {qa:Option Addr} {qc:Nat} {D:Rr.Dd}
  {d':Ed} (hd:d'={ d with N:=d.N+1,ws:=goW y d.ws,cnt:=(if goA y d.ws then up d.cnt else d.cnt),rd:=rdZ s (stepR Z.X t),T:=upT d.T t none,cr:=updA d.cr t #[.slice qa (s.cs t).length qc,.int .i64 (Z.X.H.E.B t:Int),.int .i64 (-1)],tr:=updA d.tr (Z.X.H.at_ t) (trO (goS y d.ws) D t (Z.X.H.D (Z.X.H.at_ t)).no (s.call t (Z.X.H.D (Z.X.H.at_ t)).no).1 (Z.X.H.D (Z.X.H.at_ t)).bg (d.N+1) (Z.A (Z.X.H.at_ t)) (Z.X.fr (Z.X.H.at_ t)) ((stepR Z.X t).R:Int)),L:=fun j=>if j=Z.X.H.at_ t then some (D,ag3 (goS y d.ws),macT (goS y d.ws)) else d.L j }):Fits s v' d' (aa0 s Z t):=by
 subst hd;have C:=an0 hT;obtain⟨u1,u2,u3,u4⟩:=wi.up t y ht hT;have hA:(aa0 s Z t).A=Z.A:=if_neg (by rw[hT];exact Bool.false_ne_true);have hfr:(aa0 s Z t).X.fr=Z.X.fr:=if_neg (by rw[hT];exact Bool.false_ne_true);have eT:(stepR Z.X t).H.E.T=upT Z.X.H.E.T t none:=by rw[C.T,ho];rfl
 have hto:(aa0 s Z t).X.to_=updN Z.X.to_ (Z.X.H.at_ t) (stepR Z.X t).R:=by
  have e:(aa0 s Z t).X.to_=updN Z.X.to_ ((stepR Z.X t).H.at_ t) (stepR Z.X t).R:=if_pos (by
   show ((stepR Z.X t).H.E.T t).isNone=true
   rw[eT,a10]
   rfl)
  rw[e,C.at_]
 have eD:(aa0 s Z t).X.H.D=updD Z.X.H.D (Z.X.H.at_ t) { Z.X.H.D (Z.X.H.at_ t) with tx:=goS y Z.X.H.E.ws,en:=Z.X.H.N+1 }:=by
  show (stepR Z.X t).H.D=_
  rw[C.D,ho]
  rfl
 refine⟨?_,?_,?_,rfl,?_,?_,fun u hu=>?_,fun i hi e0=>?_,fun i hi e0=>?_⟩
 ·show d.N+1=((stepR Z.X t).H.N:Int);rw[C.N,h.N];rfl
 ·show goW y d.ws=(stepR Z.X t).H.E.ws;rw[C.ws,h.ws]
 ·show (if goA y d.ws then up d.cnt else d.cnt)=(stepR Z.X t).H.E.cnt;rw[C.cnt,h.ws,h.cnt]
 ·show upT d.T t none=(stepR Z.X t).H.E.T;rw[eT,h.T]
 ·show d.dn=(stepR Z.X t).H.dn;rw[C.dn,h.dn]
 ·show ∃ qa qc,updA d.cr t _ u=#[_,.int .i64 ((stepR Z.X t).H.E.B u:Int),.int .i64 (goI (stepR Z.X t) u)]
  rw[C.B]
  by_cases q:u=t
  ·subst q
   refine⟨qa,qc,?_⟩;rw[a22,ao1 (X:=stepR Z.X u) (by rw[eT];exact a10 _ _ _)]
  ·obtain⟨qa',qc',k⟩:=h.cr u hu
   refine⟨qa',qc',?_⟩;rw[a34 _ _ q,k,aE3 (X:=Z.X) (X':=stepR Z.X t) (by rw[eT,a21 _ _ q]) (by rw[C.at_])]
 ·have hi:i<(stepR Z.X t).H.dn:=hi
  rw[C.dn]at hi;rw[eD]at e0 ⊢;rw[hA,hfr,hv]
  by_cases c:i=Z.X.H.at_ t
  ·rw[c,a11]at e0
   dsimp only at e0;omega
  ·rw[a32 _ _ c]at e0 ⊢
   dsimp only;rw[a34 _ _ c];exact h.up i hi e0
 ·have hi:i<(stepR Z.X t).H.dn:=hi
  rw[C.dn]at hi;rw[eD]at e0 ⊢;rw[hA,hfr,hto]
  by_cases c:i=Z.X.H.at_ t
  ·rw[c,a11,a24]
   dsimp only;rw[if_pos rfl,a22,u2,h.ws,h.N];exact⟨D,rfl,rfl⟩
  ·rw[a32 _ _ c,a51 _ _ c]at *
   dsimp only;rw[if_neg c,a34 _ _ c];exact h.ov i hi e0
end
section
variable {w w':World} {f:Ex} {v v':Ev} {s:Su} {d:Ed} {Z:Es} {t:Nat}
theorem bt5 (X:Rs) (t:Nat):(stepR X t).R<=X.R+1:=by
 show (if aA1 (ae8 X.H t).E _ (ae8 X.H t).E.n then X.R+1 else X.R)<=X.R+1
 split <;> omega
theorem aJ1 {E:Eg} {y:Ty} (h:E.T t=some y):finB E t=false:=zU fun q=>by rw[q.1]at h;cases h
theorem aJ0 {E:Eg} (h:E.T t=none):finB E t=decide (E.B t=E.nc t):=decide_eq_decide.2 ⟨fun q=>q.2,fun q=>⟨h,q⟩⟩
theorem EnAt.reRd (h:EnAt w f v s d) {r:Sd.Rd} (a:Alk d.rd r):EnAt w f v s { d with rd:=r }:=(h.setR (Turn.refl _ _) (a.at_ h.rds)).1
theorem WI.n8 (h:WI s Z.X) (hs:SuIn s):Z.X.H.E.n=s.n/\s.n<=8:=⟨h.n,by have:=hs.nb;have:=hs.b8;omega⟩
theorem bv8 (fi:Fits s v d Z) (wi:WI s Z.X) (rn:Z.X.R<=Z.X.H.N) (hs:SuIn s) (ht:t<s.n) (hT:Z.X.H.E.T t=none) (hB:Z.X.H.E.B t<(s.cs t).length) (hN:Z.X.H.N<4611686018427387904) {bx:Nat} (hv:v'.tb=updN v.tb t bx) {qa:Option Addr} {qc:Nat} {y:Ty} (hy:newT s t (s.call t (Z.X.H.E.B t))=y)
  (h:EnAt w f v' s { d with N:=d.N+1,T:=upT d.T t (some y),dn:=d.dn+1,tr:=updA d.tr d.dn (trU (txV y bx) t (Z.X.H.E.B t) (s.call t (Z.X.H.E.B t)).1 (d.N+1) 0 d.rd.o),cr:=updA d.cr t #[.slice qa (s.cs t).length qc,.int .i64 ((Z.X.H.E.B t+1:Nat):Int),.int .i64 (d.dn:Int)] }) :
  Calls Tryz.prog 45 #[.pointer (some ⟨f.b,0,none⟩),.int .i64 (t:Int)] w fun r w'=>r=.returned (.tuple #[])/\Hid (∃ v'',Eng w' f v'' s (aa0 s Z t)/\Ext f v' v'' w w'):=by
 obtain⟨n1,n8⟩:=wi.n8 hs;have hf:¬ finE Z.X.H.E t:=fun q=>by have:=q.2;rw[wi.nc]at this;dsimp only at this;omega
 obtain⟨g,hp,_,_⟩:=h.arr (by show 0<d.dn+1;omega);obtain⟨i1,i2⟩:=bm9 hs ht hB;have fg:=aT3 s t (s.call t (Z.X.H.E.B t)) d.ws;rw[hy]at i1 i2 fg;have few:=(wi.begins hs ht hf).1.few hs;have e1:(begR Z.X t).H.dn=Z.X.H.dn+1:=by
  show (begH Z.X.H t).dn=_
  rw[au3 wi hT]
 rw[e1,<- fi.dn]at few;have W:Way w f v' s { d with N:=d.N+1,T:=upT d.T t (some y),dn:=d.dn+1,tr:=updA d.tr d.dn (trU (txV y bx) t (Z.X.H.E.B t) (s.call t (Z.X.H.E.B t)).1 (d.N+1) 0 d.rd.o),cr:=updA d.cr t #[.slice qa (s.cs t).length qc,.int .i64 ((Z.X.H.E.B t+1:Nat):Int),.int .i64 (d.dn:Int)] } t d.dn g (s.cs t).length qc qa ((Z.X.H.E.B t+1:Nat):Int) y t (Z.X.H.E.B t) (s.call t (Z.X.H.E.B t)).1 (d.N+1) 0 d.rd.o:=⟨h,ht,a10 _ _ _,Nat.lt_succ_self _,a22 _ _ _,by dsimp only;rw[a22,hv,a24],hp⟩;refine(b24 W hs i1 i2 (by show okW d.ws;rw[fi.ws];exact wi.ok) (by show ((d.ws.length:Nat):Int)=_;rw[fi.ws];exact wi.len) (by omega) (by show d.dn+1<=512;omega) (by show d.rd.n=s.n;rw[fi.rd];rfl) (by show d.rd.o<_;rw[fi.rd];show Z.X.R<_;omega) fg.1 (by simp) fg.2).mono ?_;rintro r w' ⟨rfl,q⟩;obtain⟨v'',e2,k1,k2⟩:=q.out;have C:=au4 wi hT hy;have fb:finB (stepR Z.X t).H.E t=false:=aJ1 (y:=goS y Z.X.H.E.ws) (by rw[C.T];rw[<- fi.ws,fg.1];exact a10 _ _ _);have al:=bc3 (s:=s) (X:=Z.X) n1 n8 ht (zU hf);rw[fb,if_neg Bool.false_ne_true,<- fi.rd]at al;refine⟨rfl,v'',⟨⟨_,k1.reRd al,bj6 fi wi hT (bx:=bx) (qa:=qa) (qc:=qc) (e2.trans hv) hy ?_⟩,wi.step hs ht hf,?_⟩,k2⟩
 ·dsimp only[goD]
  rw[hv,a24]
 ·have:=bt5 Z.X t
  show (stepR Z.X t).R<=(stepR Z.X t).H.N
  rw[C.N];omega
theorem bv9 (fi:Fits s v d Z) (wi:WI s Z.X) (rn:Z.X.R<=Z.X.H.N) (hs:SuIn s) (ht:t<s.n) {y:Ty} (hT:Z.X.H.E.T t=some y) (hN:Z.X.H.N<4611686018427387904) (h:EnAt w f v s { d with N:=d.N+1 }) :
  Calls Tryz.prog 45 #[.pointer (some ⟨f.b,0,none⟩),.int .i64 (t:Int)] w fun r w'=>r=.returned (.tuple #[])/\Hid (∃ v'',Eng w' f v'' s (aa0 s Z t)/\Ext f v v'' w w'):=by
 obtain⟨n1,n8⟩:=wi.n8 hs;have hf:¬ finE Z.X.H.E t:=fun q=>by rw[q.1]at hT;cases hT
 obtain⟨u1,u2,u3,u4⟩:=wi.up t y ht hT;obtain⟨i1,i2⟩:=wi.T t y ht hT;obtain⟨g,hp,_,_⟩:=h.arr (by show 0<d.dn;rw[fi.dn];omega);obtain⟨qa,qc,hc⟩:=fi.cr t ht;rw[ae3 hT]at hc;obtain⟨_,_,_,b4,_⟩:=wi.D _ u1;have hup:=fi.up _ u1 u3;rw[u2,u4]at hup;have few:=wi.few hs;have C:=an0 hT;have W:Way w f v s { d with N:=d.N+1 } t (Z.X.H.at_ t) g (s.cs t).length qc qa (Z.X.H.E.B t) y t (Z.X.H.D (Z.X.H.at_ t)).no (s.call t (Z.X.H.D (Z.X.H.at_ t)).no).1 (Z.X.H.D (Z.X.H.at_ t)).bg (Z.A (Z.X.H.at_ t)) (Z.X.fr (Z.X.H.at_ t)):=⟨h,ht,by show d.T t=_;rw[fi.T];exact hT,by show _<d.dn;rw[fi.dn];exact u1,hc,hup,hp⟩;have hne:(((Z.X.H.D (Z.X.H.at_ t)).bg:Int) == d.N+1)=false:=by
  rw[fi.N]
  simp
  omega
 have p1:okW d.ws:=by rw[fi.ws];exact wi.ok
 have p2:((d.ws.length:Nat):Int)=3+s.b+3*s.a:=by rw[fi.ws];exact wi.len
 have p3:d.dn<=512:=by rw[fi.dn];exact few
 have p4:d.rd.n=s.n:=by rw[fi.rd];rfl
 have p5:d.rd.o<9223372036854775806:=by rw[fi.rd];show Z.X.R<_;omega
 have rn':(stepR Z.X t).R<=(stepR Z.X t).H.N:=by
  have:=bt5 Z.X t;rw[C.N];omega
 have al:=bc3 (s:=s) (X:=Z.X) n1 n8 ht (zU hf)
 cases ho:a38 (goS y Z.X.H.E.ws) with
 | false =>
  refine(bv7 W hs i1 i2 p1 p2 (by omega) p3 p4 p5 (by show a38 (goS y d.ws)=false;rw[fi.ws];exact ho) hne).mono ?_;rintro r w' ⟨rfl,q⟩;obtain⟨v'',e2,k1,k2⟩:=q.out;have fb:finB (stepR Z.X t).H.E t=false:=aJ1 (y:=goS y Z.X.H.E.ws) (by rw[C.T,ho];exact a10 _ _ _);rw[fb,if_neg Bool.false_ne_true,<- fi.rd]at al;exact⟨rfl,v'',⟨⟨_,k1.reRd al,bj5 fi wi ht hT ho e2 rfl⟩,wi.step hs ht hf,rn'⟩,k2⟩
 | true =>
  have fb:finB (stepR Z.X t).H.E t=finI (Z.X.H.E.B t) (-1) (s.cs t).length:=by
   rw[aJ0 (by rw[C.T,ho];exact a10 _ _ _),C.B];have e:(stepR Z.X t).H.E.nc=fun t=>(s.cs t).length:=(wi.step hs ht hf).nc
   rw[e];unfold finI;rw[zT rfl,Bool.true_and]
   show decide (Z.X.H.E.B t=(s.cs t).length)=decide ((Z.X.H.E.B t:Int)=((s.cs t).length:Int))
   exact decide_eq_decide.2 ⟨fun q=>by omega,fun q=>by omega⟩
  rw[fb,<- fi.rd]at al;refine(bg8 W hs i1 i2 p1 p2 (by omega) p3 p4 p5 (by show a38 (goS y d.ws)=true;rw[fi.ws];exact ho) hne rfl).mono ?_;rintro r w' ⟨rfl,q⟩;obtain⟨v'',D,e2,k1,k2⟩:=q.out;refine⟨rfl,v'',⟨⟨_,k1.reRd al,b65 fi wi ht hT ho e2 (qa:=qa) (qc:=qc) (D:=D) ?_⟩,wi.step hs ht hf,rn'⟩,k2⟩;dsimp only[goD];rw[al.o]
  rfl
theorem br7 (h:Eng w f v s Z) (hs:SuIn s) (ht:t<s.n) (hf:finE Z.X.H.E t):Calls Tryz.prog 21 #[.pointer (some ⟨f.b,0,none⟩),.int .i64 (t:Int)] w fun r w'=>r=.returned (.tuple #[.bool false,.int .i64 0])/\Same w w':=by
 have wi:=h.wi;obtain⟨d,h,fi⟩:=h.at_;have HA:=zH (aa5 h hs (t:Int));rw[show (decide (0<=(t:Int)) && decide ((t:Int)<(s.n:Int)))=true by simp;omega]at HA;obtain⟨qa,qc,hc⟩:=fi.cr t ht;obtain⟨c0,c1,c2,lc⟩:=h.course ht hc;have HF:=zH (ai7 c0 c1 c2);rw[show finI (Z.X.H.E.B t:Int) (goI Z.X t) (s.cs t).length=true by
  have e:=hf.2;rw[wi.nc]at e;rw[ao1 hf.1];unfold finI;rw[zT rfl,Bool.true_and];exact zT (by dsimp only at e;omega)]at HF
 have k13:=(h.cell 13).trans (rfl:_=some (Value.slice (some ⟨f.gc,0,none⟩) s.n s.n));have lb:=h.ltB;have hti:(t:Int)<(s.n:Int):=by omega
 have h8:(s.n:Int)<=8:=by have:=(wi.n8 hs).2;omega
 clear h c0 c1 c2 fi wi hf hs hc;go_enter Tryz.func21,Tryz.ntmps21
 go_wp2_with (first
  | (go_at_call 39;refine HF.out.mono ?_;rintro r w2 ⟨rfl,q⟩;have H2:=zH q;clear q)
  | (go_at_call 43;refine HA.out.mono ?_;rintro r w1 ⟨rfl,hw⟩;subst w1))
 go_ret2;exact⟨rfl,H2.out⟩
theorem br8 (h:Eng w f v s Z) (hs:SuIn s) (ht:t<s.n) (hf:¬ finE Z.X.H.E t) (hN:Z.X.H.N<4611686018427387904):Calls Tryz.prog 21 #[.pointer (some ⟨f.b,0,none⟩),.int .i64 (t:Int)] w fun r w'=>r=.returned (.tuple #[.bool true,.int .i64 0])/\Hid (∃ v',Eng w' f v' s (aa0 s Z t)/\Ext f v v' w w'):=by
 have wi:=h.wi;have rn:=h.rn;obtain⟨d,h,fi⟩:=h.at_;have HA:=zH (aa5 h hs (t:Int));rw[show (decide (0<=(t:Int)) && decide ((t:Int)<(s.n:Int)))=true by simp;omega]at HA;obtain⟨qa,qc,hc⟩:=fi.cr t ht;obtain⟨c0,c1,c2,lc⟩:=h.course ht hc;have HF:=zH (ai7 c0 c1 c2);rw[show finI (Z.X.H.E.B t:Int) (goI Z.X t) (s.cs t).length=false by
  unfold finI;rw[Bool.and_eq_false_iff]
  cases e:Z.X.H.E.T t with
  | none =>
   refine .inr (zU fun q=>hf ⟨e,?_⟩);rw[wi.nc];dsimp only;omega
  | some y =>
   refine .inl (zU fun q=>?_);rw[ae3 e]at q;omega]at HF
 have k13:=(h.cell 13).trans (rfl:_=some (Value.slice (some ⟨f.gc,0,none⟩) s.n s.n));have lb:=h.ltB;have hti:(t:Int)<(s.n:Int):=by omega
 have h8:(s.n:Int)<=8:=by have:=(wi.n8 hs).2;omega
 have n0:0<=d.N:=by rw[fi.N];omega
 have n1:d.N<4611686018427387904:=by rw[fi.N];omega
 have HS:Hid (∀ u,Same w u->(u.cell? ⟨f.b,15,none⟩=some (.int .i64 d.N)/\u.frozen? ⟨f.b,15,none⟩=false/\u.cell? ⟨f.gc,t*3+2,none⟩=some (.int .i64 (goI Z.X t))/\f.b<u.heap.size/\f.gc<u.heap.size/\¬ f.gc=f.b)/\EnAt (u.setCell ⟨f.b,15,none⟩ (.int .i64 (d.N+1))) f v s { d with N:=d.N+1 }/\Ext f v v w (u.setCell ⟨f.b,15,none⟩ (.int .i64 (d.N+1)))):=fun u hu=>by
  have h1:=h.same hu;obtain⟨k1,k2⟩:=h1.setN (d.N+1);exact⟨⟨(h1.cell 15).trans rfl,h1.free 15,(h1.course ht hc).2.2.1,h1.ltB,h1.crs.lt,fun e=>h1.apart 3 0 (by omega) f.gc (by simp[own]) (by simp[own,e])⟩,k1,(Ext.of_below (hu.below _)).trans k2⟩
 cases hT:Z.X.H.E.T t with
 | none =>
  have hB:=wi.less ht hf hT;rw[ao1 hT]at HS hc;obtain⟨y,hy⟩:∃ y,newT s t (s.call t (Z.X.H.E.B t))=y:=⟨_,rfl⟩
  have HBG:Hid (∀ u,EnAt u f v s { d with N:=d.N+1 }/\Ext f v v w u->Calls Tryz.prog 44 #[.pointer (some ⟨f.b,0,none⟩),.int .i64 (t:Int)] u fun r w'=>r=.returned (.tuple #[])/\Hid (∃ v' bx,v'.tb=updN v.tb t bx/\EnAt w' f v' s { d with N:=d.N+1,T:=upT d.T t (some y),dn:=d.dn+1,tr:=updA d.tr d.dn (trU (txV y bx) t (Z.X.H.E.B t) (s.call t (Z.X.H.E.B t)).1 (d.N+1) 0 d.rd.o),cr:=updA d.cr t #[.slice qa (s.cs t).length qc,.int .i64 ((Z.X.H.E.B t+1:Nat):Int),.int .i64 (d.dn:Int)] }/\Ext f v v' w w')):=fun u hu=>by
   refine(b33 hu.1 hs ht hB hc (by show d.T t=none;rw[fi.T];exact hT) (by show d.dn<=512;rw[fi.dn];exact wi.few hs)).mono ?_;rintro r w' ⟨rfl,q⟩;obtain⟨v',bx,k1,k2,k3⟩:=q.out;rw[hy]at k2;exact⟨rfl,v',bx,k1,k2,hu.2.trans k3⟩
  have HAD:Hid (∀ u,(∃ v' bx,v'.tb=updN v.tb t bx/\EnAt u f v' s { d with N:=d.N+1,T:=upT d.T t (some y),dn:=d.dn+1,tr:=updA d.tr d.dn (trU (txV y bx) t (Z.X.H.E.B t) (s.call t (Z.X.H.E.B t)).1 (d.N+1) 0 d.rd.o),cr:=updA d.cr t #[.slice qa (s.cs t).length qc,.int .i64 ((Z.X.H.E.B t+1:Nat):Int),.int .i64 (d.dn:Int)] }/\Ext f v v' w u)->Calls Tryz.prog 45 #[.pointer (some ⟨f.b,0,none⟩),.int .i64 (t:Int)] u fun r w'=>r=.returned (.tuple #[])/\Hid (∃ v',Eng w' f v' s (aa0 s Z t)/\Ext f v v' w w')):=fun u hu=>by
   obtain⟨v',bx,k1,k2,k3⟩:=hu;refine(bv8 fi wi rn hs ht hT hB hN k1 hy k2).mono ?_;rintro r w' ⟨rfl,q⟩;obtain⟨v'',j1,j2⟩:=q.out;exact⟨rfl,v'',j1,k3.trans j2⟩
  clear h c0 c1 c2 fi wi hf hs hc rn hy hT hB hN;go_enter Tryz.func21,Tryz.ntmps21
  go_wp2_with (first
   | (go_at_call 45;refine(HAD.out _ H4.out).mono ?_;rintro r w5 ⟨rfl,q⟩;have H5:=zH q.out;clear q)
   | (go_at_call 44;refine(HBG.out _ (HS.out _ H2.out).2).mono ?_;rintro r w4 ⟨rfl,q⟩;have H4:=zH q.out;clear q k15 f15 k2 lb lc hgb;obtain⟨v4,bx4,_,z2,_⟩:=H4.out;have lb:=z2.ltB;clear z2)
   | (go_at_call 39;refine HF.out.mono ?_;rintro r w2 ⟨rfl,q⟩;have H2:=zH q;clear k13 lb lc;obtain⟨k15,f15,k2,lb,lc,hgb⟩:=(HS.out _ q).1;clear q)
   | (go_at_call 43;refine HA.out.mono ?_;rintro r w1 ⟨rfl,hw⟩;subst w1))
  go_ret2;exact⟨rfl,H5.out⟩
 | some y =>
  have HAD:Hid (∀ u,EnAt u f v s { d with N:=d.N+1 }/\Ext f v v w u->Calls Tryz.prog 45 #[.pointer (some ⟨f.b,0,none⟩),.int .i64 (t:Int)] u fun r w'=>r=.returned (.tuple #[])/\Hid (∃ v',Eng w' f v' s (aa0 s Z t)/\Ext f v v' w w')):=fun u hu=>by
   refine(bv9 fi wi rn hs ht hT hN hu.1).mono ?_;rintro r w' ⟨rfl,q⟩;obtain⟨v'',j1,j2⟩:=q.out;exact⟨rfl,v'',j1,hu.2.trans j2⟩
  rw[ae3 hT]at HS;obtain⟨i,hi⟩:∃ i,Z.X.H.at_ t=i:=⟨_,rfl⟩
  rw[hi]at HS;have hib:((i:Int) == -1)=false:=by simp
  clear h c0 c1 c2 fi wi hf hs hc rn hT hN hi;go_enter Tryz.func21,Tryz.ntmps21
  go_wp2_with (first
   | (go_at_call 45;refine(HAD.out _ (HS.out _ H2.out).2).mono ?_;rintro r w5 ⟨rfl,q⟩;have H5:=zH q.out;clear q)
   | (go_at_call 39;refine HF.out.mono ?_;rintro r w2 ⟨rfl,q⟩;have H2:=zH q;clear k13 lb lc;obtain⟨k15,f15,k2,lb,lc,hgb⟩:=(HS.out _ q).1;clear q)
   | (go_at_call 43;refine HA.out.mono ?_;rintro r w1 ⟨rfl,hw⟩;subst w1))
  go_ret2;exact⟨rfl,H5.out⟩
end
end Go.Proofs.YtkihgongjedheaaGreatDoor.En
namespace Go.Proofs.YtkihgongjedheaaGreatDoor.Sd
open Go.ChangeShapes Go.WideShapes Go.ChangeAt Go.RowKit
theorem b80:(Tryz.prog.info? 3).map (fun i=>(i.zero,i.size,i.bytes))=some (some (.int .i64 0),1,8):=by kernel_rfl
def IntsAt (w:World) (p:Option Addr) (n:Nat) (x:Nat->Int):Prop :=
 ∀ i,i<n->∃ g o,p=some ⟨g,o,none⟩/\g<w.heap.size/\w.cell? ⟨g,o+i,none⟩=some (.int .i64 (x i))
theorem bO9 (n:Nat) (hn:n<=65536) (w:World):(Instr.makeSlice 29 (.int .i64 (n:Int)) (.int .i64 (n:Int))).run Tryz.prog w=.ok (.slice (some ⟨w.heap.size,0,none⟩) n n) (w.alloc (.cells (i64s (List.replicate n 0)).toArray 3)):=by
 obtain⟨i,hi,hz0,hz1,hz2⟩:=info_parts b80;rw[run_make w 29 3 i (.int .i64 0) Tryz.underlying29 hi hz0 .i64 .i64 n n (by omega) (zW _) (by rw[hz2];omega) (by omega)];have e:(madeCells (.int .i64 0:Value).cells (((n:Int)).toNat*i.size))=(i64s (List.replicate n 0)).toArray:=by
  rw[hz1,Nat.mul_one,Int.toNat_natCast]
  apply Array.toList_inj.1
  rw[show (.int .i64 0:Value).cells=#[.int .i64 0] from rfl,toList_madeCells_one]
  simp[i64s]
 rw[e,Int.toNat_natCast]
theorem aG4 {E:TypeId} {w:World} {g c:Nat} {xs:List Value} (h:RowAt E w (some ⟨g,0,none⟩) c xs) (i:Nat) (z:Value):RowAt E (w.setCell ⟨g,i,none⟩ z) (some ⟨g,0,none⟩) c (xs.set i z)/\Turn [g] [g] w (w.setCell ⟨g,i,none⟩ z):=by
 obtain⟨hs,_⟩:=h.own.stored i z;refine⟨⟨?_⟩,a23 w g i z⟩;rw[List.length_set];exact hs
theorem row_get {E:TypeId} {w:World} {g c:Nat} {xs:List Value} (h:RowAt E w (some ⟨g,0,none⟩) c xs) {j:Nat} {v:Value} (hv:xs[j]?=some v):w.cell? ⟨g,j,none⟩=some v/\w.frozen? ⟨g,j,none⟩=false/\g<w.heap.size:=by
 rcases h.own.2 with⟨q,_⟩ | ⟨g',cap,cur,hq,_,hg,_⟩
 ·cases q
 ·cases hq
  refine⟨?_,zZ w g j _ _ hg,lt_of_block hg⟩;have:=World.ownsRow.cells h.own (g:=g) rfl j v hv;rwa[show (⟨g,0,none⟩:Addr).add j=⟨g,j,none⟩ by unfold Addr.add;split <;> simp_all]at this
theorem aC0 (n t:Int) (h1:1<=t):-t<n.tmod t/\n.tmod t<t:=by
 refine⟨?_,Int.tmod_lt_of_pos n (by omega)⟩;have h:=Int.tmod_lt_of_pos (-n) (b:=t) (by omega);rw[Int.neg_tmod]at h;omega
theorem b10 (n t:Int):n.tmod t % t=n % t:=by
 have h:=Int.mul_tdiv_add_tmod n t
 conv=>rhs;rw[<- h]
 rw[Int.mul_add_emod_self_left]
theorem bk1 (n t:Int) (h1:1<=t):(n.tmod t+t).tmod t=n % t:=by
 have r:=aC0 n t h1;have e:(n.tmod t+t) % t=n.tmod t % t:=by simp
 rw[Int.tmod_eq_emod_of_nonneg (by omega),e,b10]
theorem bk0 (n t:Int) (h1:1<=t) (h8:t<=8) (w:World):Calls Tryz.prog 61 #[.int .i64 n,.int .i64 t] w fun e w'=>e=.returned (.int .i64 (n % t))/\w'=w:=by
 have r:=aC0 n t h1;have e:(wrap64 (n.tmod t+t)).tmod t=n % t:=by
  rw[Go.IntWalk.wrap64_in _ ⟨by omega,by omega⟩];exact bk1 n t h1
 have HE:=zH e;clear e r;go_enter Tryz.func61,Tryz.ntmps61
 go_wp2
 go_ret;exact⟨by rw[HE.out];rfl,rfl⟩
def mix (y:Nat->Int) (n i:Nat):List Int:=(List.range n).map fun k=>if k<i then y k else 0
theorem ba1 (y:Nat->Int) (n i:Nat):(mix y n i).length=n:=by simp[mix]
theorem bm0 (y:Nat->Int) (n:Nat):List.replicate n 0=mix y n 0:=by
 apply List.ext_getElem
 ·simp[mix]
 ·intro k h1 h2
  simp[mix]
theorem bA4 (y:Nat->Int) (n i:Nat):(mix y n i).set i (y i)=mix y n (i+1):=by
 apply List.ext_getElem
 ·simp[mix]
 ·intro k h1 h2
  rw[List.getElem_set]
  by_cases h:i=k
  ·subst h
   simp[mix]
  ·have e:(k<i+1)=(k<i):=by simp;omega
   simp[mix,h,e]
theorem bk5 (l:List Int) (i:Nat) (x:Int):(i64s l).set i (.int .i64 x)=i64s (l.set i x):=by simp[i64s,List.map_set]
theorem aq0 (w:World) (n:Nat) (hn:n<=65536) (y:Nat->Int):RowAt 3 (w.alloc (.cells (i64s (List.replicate n 0)).toArray 3)) (some ⟨w.heap.size,0,none⟩) n (i64s (mix y n 0)):=by
 rw[bm0 y n];refine⟨?_⟩;rw[a36,ba1];exact World.ownsRow_lit w _ n (zV _) (by unfold maxLen;omega) (by rw[List.size_toArray,a36,ba1,Nat.mul_one])
section
variable {w:World} {p:Option Addr} {n c:Nat} {x:Nat->Int} {t:Int}
theorem Fold_yes (h1:1<=t) (h8:t<=8) (hn:n<=65536) (hx:IntsAt w p n x):Calls Tryz.prog 34 #[.slice p n c,.int .i64 t] w fun e w'=>∃ g,e=.returned (.tuple #[.slice (some ⟨g,0,none⟩) n n,.int .i64 0])/\g=w.heap.size/\RowAt 3 w' (some ⟨g,0,none⟩) n (i64s (mix (fun i=>x i % t) n n))/\Bl w w':=by
 have H1:=zH (a95 t);have ht:mayT t=true:=zT ⟨h1,h8⟩;rw[ht]at H1;clear ht;have hn':¬ (65536:Int)<(n:Int):=by omega
 have HX:=zH hx;have hmk:=bO9 n hn w;have HR:=zH (aq0 w n hn (fun i=>x i % t));have HB:=zH ((zF w.heap.size w).alloc (zE _) (.cells (i64s (List.replicate n 0)).toArray 3));have HF:=zH (fun a w=>bk0 a t h1 h8 w);clear hx
 generalize hWW:w.alloc (.cells (i64s (List.replicate n 0)).toArray 3)=w0 at hmk HR HB
 clear hWW;obtain⟨g,hg⟩:∃ g,g=w.heap.size:=⟨_,rfl⟩
 rw[<- hg]at hmk HR;have HG:=zH hg;clear hg;go_enter Tryz.func34,Tryz.ntmps34
 go_wp2_with (go_at_call 56;refine(H1.out _).mono ?_;rintro e w1 ⟨rfl,hw⟩;subst w1)
 go_loopw [20] (fun vi wr=>∃ i:Nat,vi=.int .i64 i/\i<=n/\Hid (RowAt 3 wr (some ⟨g,0,none⟩) n (i64s (mix (fun i=>x i % t) n i))/\Bl w wr)) (fun vi _=>n - (intOf vi).toNat)
 case atStart=>exact⟨0,rfl,zV _,HR.out,HB.out⟩
 case round =>
  obtain⟨i,rfl,hi,HQ⟩:=hrel
  by_cases hlt:i<n
  ·have hlt':(i:Int)<(n:Int):=by omega
   obtain⟨ga,oa,hpa,ga1,hca⟩:=HX.out i hlt;subst hpa;rw[<- HQ.out.2.cell (p:=⟨ga,oa+i,none⟩) ga1]at hca;have ga2:=zL ga1 HQ.out.2.size;obtain⟨j1,j2,j3⟩:=row_get HQ.out.1 (j:=i) (v:=.int .i64 0) (by simp[i64s,mix,hlt]);have HN:Hid (RowAt 3 (wr.setCell ⟨g,i,none⟩ (.int .i64 (x i % t))) (some ⟨g,0,none⟩) n (i64s (mix (fun i=>x i % t) n (i+1)))/\Bl w (wr.setCell ⟨g,i,none⟩ (.int .i64 (x i % t)))):=by
    obtain⟨q1,q2⟩:=aG4 HQ.out.1 i (.int .i64 (x i % t));rw[bk5,bA4 (fun i=>x i % t)]at q1;exact⟨q1,HQ.out.2.trans (q2.below (fun k hk=>by simp at hk;have:=HG.out;omega) HQ.out.2.size)⟩
   clear HQ HR HB hmk HX ga1
   generalize x i=y at hca HN
   go_wp2_with (go_at_call 61;refine(HF.out _ _).mono ?_;rintro e w1 ⟨rfl,hw⟩;subst w1)
   exact⟨⟨i+1,by first | rfl | (congr 1),by omega,HN⟩,by simp[intOf];omega⟩
  ·have hlt':¬ (i:Int)<(n:Int):=by omega
   obtain rfl:i=n:=by omega
   clear hmk
   go_wp2
   go_ret2;exact⟨_,rfl,HG.out,HQ.out.1,HQ.out.2⟩
end
end Go.Proofs.YtkihgongjedheaaGreatDoor.Sd
namespace Go.Proofs.YtkihgongjedheaaGreatDoor.En
open Go.ChangeShapes Go.WideShapes Go.ChangeAt Go.RowKit Num Ww
open Rr (Rx a16 InX okW u64B Alike step_in newX a44)
def oneZ (s:Su) (Z:Es) (t:Nat):Es:=if finB Z.X.H.E t then Z else aa0 s Z t
def runZ (s:Su) (Z:Es) (y:Nat->Nat):Nat->Es
 | 0=>Z
 | k+1=>oneZ s (runZ s Z y k) (y k)
def didZ (s:Su) (Z:Es) (y:Nat->Nat):Nat->Nat
 | 0=>0
 | k+1=>didZ s Z y k+(!finB (runZ s Z y k).X.H.E (y k)).toNat
theorem b56 (s:Su) (Z:Es) (y:Nat->Nat):∀ k,didZ s Z y k<=k
 | 0=>zE _
 | k+1=>by
  have:=b56 s Z y k
  show didZ s Z y k+(!finB (runZ s Z y k).X.H.E (y k)).toNat<=k+1
  cases finB (runZ s Z y k).X.H.E (y k) <;> simp <;> omega
section
variable {w w':World} {f:Ex} {v v':Ev} {s:Su} {Z:Es} {t:Nat}
theorem Eng.on (h:Eng w f v s Z) (k:Bl w w'):Eng w' f v s Z:=by
 obtain⟨⟨d,h1,h2⟩,h3,h4⟩:=h;exact⟨⟨d,h1.on k,h2⟩,h3,h4⟩
theorem Eng.same (h:Eng w f v s Z) (k:Same w w'):Eng w' f v s Z:=h.on (k.below _)
theorem bK0 (s:Su) (Z:Es) (t:Nat) (wi:WI s Z.X):(oneZ s Z t).X.H.N<=Z.X.H.N+1:=by
 unfold oneZ
 cases hf:finB Z.X.H.E t with
 | true=>exact Nat.le_succ _
 | false =>
  show (stepR Z.X t).H.N<=_
  cases hT:Z.X.H.E.T t with
  | none=>rw[(au4 wi hT rfl).N];exact zE _
  | some y=>rw[(an0 hT).N];exact zE _
theorem step_any (h:Eng w f v s Z) (hs:SuIn s) (ht:t<s.n) (hN:Z.X.H.N<4611686018427387904):Calls Tryz.prog 21 #[.pointer (some ⟨f.b,0,none⟩),.int .i64 (t:Int)] w fun r w'=>r=.returned (.tuple #[.bool (!finB Z.X.H.E t),.int .i64 0])/\Hid (∃ v',Eng w' f v' s (oneZ s Z t)/\Ext f v v' w w'):=by
 unfold oneZ
 cases hf:finB Z.X.H.E t with
 | true =>
  refine(br7 h hs ht (zP hf)).mono ?_;rintro r w' ⟨rfl,k⟩;exact⟨rfl,v,h.same k,Ext.of_below (k.below _)⟩
 | false=>exact br8 h hs ht (zM hf) hN
theorem aG5 (hs:SuIn s) (wi:WI s Z.X) {y:Nat->Nat}:∀ k,(∀ i,i<k->y i<s.n)->WI s (runZ s Z y k).X/\(runZ s Z y k).X.H.N<=Z.X.H.N+k
 | 0,_=>⟨wi,zE _⟩
 | k+1,hy=>by
  obtain⟨h1,h2⟩:=aG5 hs wi k (fun i hi=>hy i (by omega));have hk:=hy k (by omega);have:=bK0 s _ (y k) h1;refine⟨?_,by show (oneZ s (runZ s Z y k) (y k)).X.H.N<=_;omega⟩
  show WI s (oneZ s (runZ s Z y k) (y k)).X
  unfold oneZ
  cases hf:finB (runZ s Z y k).X.H.E (y k) with
  | true=>exact h1
  | false=>exact h1.step hs hk (zM hf)
theorem bc9 {g c:Nat} {xs:List Value} (h:RowAt 3 w (some ⟨g,0,none⟩) c xs) (e:Ext f v v' w w') (hn:g∉fF f v):RowAt 3 w' (some ⟨g,0,none⟩) c xs:=h.keep ⟨e.turn.size,fun i hi=>by
 have:i=g:=by simpa[fpR]using hi
 subst this;exact e.turn.block i (h.blw i hi) hn⟩
theorem bD3 (h:Eng w f v s Z) (hs:SuIn s) {p:Option Addr} {n c:Nat} {x:Nat->Int} (hx:Sd.IntsAt w p n x) (hn:n<=65536) (hN:Z.X.H.N+65536<4611686018427387904) {y:Nat->Nat} (hy:∀ i,i<n->x i % s.b=(y i:Int)/\y i<s.n) :
  Calls Tryz.prog 12 #[.pointer (some ⟨f.b,0,none⟩),.slice p n c] w fun r w'=>r=.returned (.tuple #[.int .i64 (didZ s Z y n:Int),.int .i64 0])/\Hid (∃ v',Eng w' f v' s (runZ s Z y n)/\Ext f v v' w w'):=by
 have b8:=hs.b8;have hnb:=hs.nb;obtain⟨d,h0,fi⟩:=h.at_;have wi:=h.wi;have HF:=zH (Sd.Fold_yes (c:=c) b8.1 b8.2 hn hx);rw[<- hnb]at HF;have k13:=(h0.cell 13).trans (rfl:_=some (Value.slice (some ⟨f.gc,0,none⟩) s.n s.n));have lb:=h0.ltB;have hn1:(s.n:Int)<=8:=by omega
 have HG:Hid (w.heap.size∉fF f v):=fun q=>by
  obtain⟨j,_,_,q⟩:=aJ6.1 q;exact h0.new (zE _) j q
 have HE:=zH h;have HST:Hid (∀ (k:Nat) (wr:World) v',k<n->Eng wr f v' s (runZ s Z y k)->Calls Tryz.prog 21 #[.pointer (some ⟨f.b,0,none⟩),.int .i64 (y k:Int)] wr fun r w'=>r=.returned (.tuple #[.bool (!finB (runZ s Z y k).X.H.E (y k)),.int .i64 0])/\Hid (∃ v'',Eng w' f v'' s (runZ s Z y (k+1))/\Ext f v' v'' wr w')):=fun k wr v' hk e=>by
  have:=(aG5 hs wi k (fun i hi=>(hy i (by omega)).2)).2;exact step_any e hs (hy k hk).2 (by omega)
 have HY:Hid (∀ i,i<n->x i % (s.n:Int)=(y i:Int)):=fun i hi=>by rw[hnb];exact(hy i hi).1
 have HD:=zH (b56 s Z y);clear h h0 fi wi b8 hnb hx hy hs hN;go_enter Tryz.func12,Tryz.ntmps12
 go_wp2_with (go_at_call 34;refine HF.out.mono ?_;rintro r w1 ⟨g,rfl,hg,q1,q2⟩;have H1:=zH (And.intro q1 (And.intro q2 hg));clear q1 q2 hg HF k13)
 have H0:Hid (∃ v',Eng w1 f v' s (runZ s Z y 0)/\Ext f v v' w w1/\RowAt 3 w1 (some ⟨g,0,none⟩) n (i64s (Sd.mix (fun i=>x i % (s.n:Int)) n n))/\g∉fF f v'):=⟨v,HE.out.on H1.out.2.1,Ext.of_below H1.out.2.1,H1.out.1,by rw[H1.out.2.2];exact HG.out⟩;clear lb H1 HE HG
 go_loopw [8,28] (fun v8 v28 wr=>∃ k:Nat,v28=.int .i64 (k:Int)/\v8=.int .i64 (didZ s Z y k:Int)/\k<=n/\Hid (∃ v',Eng wr f v' s (runZ s Z y k)/\Ext f v v' w wr/\RowAt 3 wr (some ⟨g,0,none⟩) n (i64s (Sd.mix (fun i=>x i % (s.n:Int)) n n))/\g∉fF f v')) (fun v8 v28 _=>n - (intOf v28).toNat)
 case atStart=>exact⟨0,rfl,rfl,zV _,H0.out⟩
 case round =>
  obtain⟨k,rfl,rfl,hk,HR⟩:=hrel;clear H0
  by_cases hlt:k<n
  ·have hlt':(k:Int)<(n:Int):=by omega
   obtain⟨v',z1,z2,z3,z4⟩:=HR.out;have hcell:(i64s (Sd.mix (fun i=>x i % (s.n:Int)) n n))[k]?=some (.int .i64 (y k:Int)):=by
    unfold i64s Sd.mix
    simp[hlt]
    exact HY.out k hlt
   obtain⟨ck,_,lg⟩:=Sd.row_get z3 hcell;have HQ:=zH (And.intro z1 (And.intro z2 (And.intro z3 z4)));have HS1:=zH (HST.out k wr v' hlt z1);have HB:Hid (didZ s Z y (k+1)=didZ s Z y k+(!finB (runZ s Z y k).X.H.E (y k)).toNat):=rfl;have hd:=HD.out k;clear z1 z2 z3 z4 hcell HR HST HY
   generalize finB (runZ s Z y k).X.H.E (y k)=fb at *
   cases fb with
   | true =>
    go_wp2_with (go_at_call 21;refine HS1.out.mono ?_;rintro r w2 ⟨rfl,q⟩;have H2:=zH q.out;clear q HS1)
    obtain⟨v'',j1,j2⟩:=H2.out;refine⟨⟨k+1,by first | rfl | (congr 1),by rw[HB.out];rfl,by omega,v'',j1,HQ.out.2.1.trans j2,bc9 HQ.out.2.2.1 j2 HQ.out.2.2.2,fun q=>?_⟩,by simp[intOf];omega⟩
    rcases j2.turn.own g q with q | q
    ·exact HQ.out.2.2.2 q
    ·omega
   | false =>
    go_wp2_with (go_at_call 21;refine HS1.out.mono ?_;rintro r w2 ⟨rfl,q⟩;have H2:=zH q.out;clear q HS1)
    obtain⟨v'',j1,j2⟩:=H2.out;refine⟨⟨k+1,by first | rfl | (congr 1),by rw[HB.out];first | rfl | (congr 1),by omega,v'',j1,HQ.out.2.1.trans j2,bc9 HQ.out.2.2.1 j2 HQ.out.2.2.2,fun q=>?_⟩,by simp[intOf];omega⟩
    rcases j2.turn.own g q with q | q
    ·exact HQ.out.2.2.2 q
    ·omega
  ·obtain rfl:k=n:=by omega
   have hlt':¬ (k:Int)<(k:Int):=by omega
   clear HST HY;go_wp2_with fail;go_ret2;obtain⟨v',z1,z2,_,_⟩:=HR.out;exact⟨rfl,v',z1,z2⟩
end
section
variable {w w':World} {f:Ex} {v v':Ev} {s:Su} {Z:Es} {t:Nat}
theorem Eng.cells (h:Eng w f v s Z):(w.cell? ⟨f.b,11,none⟩=some (.pointer (some ⟨f.mb,0,none⟩))/\w.cell? ⟨f.b,12,none⟩=some (.pointer (some ⟨f.rb,0,none⟩))/\w.cell? ⟨f.b,13,none⟩=some (.slice (some ⟨f.gc,0,none⟩) s.n s.n)/\w.cell? ⟨f.b,15,none⟩=some (.int .i64 (Z.X.H.N:Int))/\f.b<w.heap.size)/\(∃ o,MemAt 105 w f.mb f.mg Z.X.H.E.ws o Z.X.H.E.cnt)/\Sd.RdAt w f.rb (rdZ s Z.X):=by
 obtain⟨d,h,fi⟩:=h.at_;have hm:=h.mem;have hr:=h.rds;rw[fi.ws,fi.cnt]at hm;rw[fi.rd]at hr;exact⟨⟨(h.cell 11).trans rfl,(h.cell 12).trans rfl,(h.cell 13).trans rfl,by rw[<- fi.N];exact(h.cell 15).trans rfl,h.ltB⟩,hm,hr⟩
end
theorem TIn.sizes {s:Su} {t:Nat} {N:Int} {y:Ty} (h:TIn s t N y):(ag3 y).length<=8/\(macT y).reads.length<=1024/\(macT y).buf.length<=1024/\(macT y).out.length<=1024:=by
 have K:∀ m:Mac,Inv m->m.reads.length<=1024/\m.buf.length<=1024/\m.out.length<=1024:=fun m i=>by
  have h1:=i.fuel;have h2:=i.used;have h3:=i.out;have h4:=i.reads;have h5:=i.few;have h6:=i.wmax;refine⟨?_,by omega,by omega⟩
  split at h4 <;> omega
 rcases y with⟨_,x⟩ | ⟨_,x⟩
 ·exact⟨h.1.few,K _ h.1.inv⟩
 ·exact⟨h.1.few,K _ h.1.rest.inv⟩
section
variable {w:World} {g o:Nat} {y:Ty} {D:Rr.Dd} {th no pr bg en ah fr tt to_:Int}
theorem bE6 (hc:∀ u,Bl w u->u.cell? ⟨g,o,none⟩=some .nilIface/\(∀ j,j<19->u.cell? ⟨g,o+1+j,none⟩=(dTx y D th no pr bg en ah fr tt)[j]?)/\g<u.heap.size) (hD:Rr.DdAt w 0 D (ag3 y) (macT y)) (b0:(ag3 y).length<=8) (b1:(macT y).reads.length<=1024) (b2:(macT y).buf.length<=1024) (b3:(macT y).out.length<=1024) :
  Calls Tryz.prog 35 #[.pointer (some ⟨g,o,none⟩),.int .i64 to_] w fun e w'=>∃ D',e=.returned (.agg (dTx y D' th no pr bg en ah fr tt))/\Hid (Rr.DdAt w' w.heap.size D' (ag3 y) (macT y)/\Bl w w'):=by
 have HB:=zH (below_alloc w Rr.dZ);obtain⟨c0,cj,lg⟩:=hc _ HB.out;have HC:=zH cj;have HO:Hid (Calls Tryz.prog 62 #[.agg (dTx y D th no pr bg en ah fr tt)] (w.alloc Rr.dZ) fun e w'=>∃ D',e=.returned (.agg (dTx y D' th no pr bg en ah fr tt))/\Hid (Rr.DdAt w' (w.alloc Rr.dZ).heap.size D' (ag3 y) (macT y)/\Below (w.alloc Rr.dZ).heap.size (w.alloc Rr.dZ) w')):=aP9 ⟨hD.a.on HB.out,hD.r.on HB.out,hD.wr.on HB.out,hD.o.on HB.out,hD.xa,hD.xr,hD.xw,hD.xo⟩ rfl (by omega) b1 b2 b3;clear hc hD cj b0 b1 b2 b3;go_enter Tryz.func35,Tryz.ntmps35
 go_wp2_with (first
  | (refine ae9 rfl 46 _ rfl g (o+1) rfl (dTx y D th no pr bg en ah fr tt) _ (fun j hj=>HC.out j hj) Tryz.underlying46 rfl Rr.deedInfo ?_;simp only[Act.put,zA,zB,zC])
  | (refine wpList_store_row rfl 46 _ _ rfl w.heap.size (dTx y D' th no pr bg en ah fr tt) rfl rfl _ _ HZ.out Rr.deedInfo rfl (ac2 ..) ?_)
  | (go_at_call 62;refine HO.out.mono ?_;rintro r w1 ⟨D',rfl,q⟩;have H1:=zH q.out;have HZ:Hid (w1.heap[w.heap.size]?=some Rr.dZ):=(q.out.2.block _ (by simp)).trans (zN _ _);clear q HO c0 lg))
 refine au5 (D:=D') rfl w.heap.size rfl (setRow_heap _ _ _ _ _ _ HZ.out) rfl ⟨D',rfl,?_⟩;have hl:w.heap.size<(w.alloc Rr.dZ).heap.size:=by simp
 exact⟨(H1.out.1.keep (fun i hi _=>setRow_other _ _ _ _ (by omega)) (by simp)).mono (by omega),Md.Ce.bl_setRow (HB.out.trans (H1.out.2.mono HB.out.size)) (zE _) _⟩
end
theorem b47 (x:Value) (a:Array Value):(#[x] ++ a)[0]?=some x:=by
 rw[Array.getElem?_append_left (by simp)]
 rfl
theorem b46 (x:Value) (a:Array Value) (j:Nat):(#[x] ++ a)[1+j]?=a[j]?:=by
 rw[Array.getElem?_append_right (by simp)]
 simp
def ar4 (s:Su) (Z:Es) (i:Nat) (D:Rr.Dd) (to_:Int):Array Value:=dTx (Z.X.H.D i).tx D (Z.X.H.D i).th (Z.X.H.D i).no (s.call (Z.X.H.D i).th (Z.X.H.D i).no).1 (Z.X.H.D i).bg (Z.X.H.D i).en (Z.A i) (Z.X.fr i) (if (Z.X.H.D i).en=0 then to_ else (Z.X.to_ i:Int))
section
variable {w w':World} {f:Ex} {v v':Ev} {s:Su} {Z:Es} {i g:Nat}
theorem Eng.told (h:Eng w f v s Z) (hi:i<Z.X.H.dn) (hp:v.pt=some ⟨g,0,none⟩) (to_:Int):Calls Tryz.prog 35 #[.pointer (some ⟨g,i*20,none⟩),.int .i64 to_] w fun e w'=>∃ D,e=.returned (.agg (ar4 s Z i D to_))/\Hid (Rr.DdAt w' w.heap.size D (ag3 (Z.X.H.D i).tx) (macT (Z.X.H.D i).tx)/\Bl w w'):=by
 have wi:=h.wi;obtain⟨d,h,fi⟩:=h.at_;obtain⟨D1,D2,_⟩:=wi.D i hi;have hid:i<d.dn:=by rw[fi.dn];exact hi
 unfold ar4
 by_cases e0:(Z.X.H.D i).en=0
 ·obtain⟨q1,q2⟩:=wi.un i hi e0
  have hT:d.T (Z.X.H.D i).th=some (Z.X.H.D i).tx:=by rw[fi.T];exact q1
  obtain⟨_,K,tx,_⟩:=h.tx _ _ hT;rw[if_pos e0,e0];exact bf0 tx D2 fun u hu=>(h.on hu).upC hid hp (fi.up i hi e0)
 ·obtain⟨D,l1,l2⟩:=fi.ov i hi e0
  have hd:=(h.dl i _ _ _ l1).1;obtain⟨b0,b1,b2,b3⟩:=D2.sizes;rw[if_neg e0];refine bE6 (fun u hu=>?_) hd b0 b1 b2 b3;have hu1:=h.on hu;obtain⟨g',e',_,A⟩:=hu1.arr (by omega);obtain rfl:g'=g:=by
   have:=e'.symm.trans hp;injection this with this;injection this
  have C:∀ j,j<20->u.cell? ⟨g',i*20+j,none⟩=(d.tr i)[j]?:=fun j hj=>A.cell hid hj
  rw[l2]at C;unfold trO at C;refine⟨(C 0 (by omega)).trans (b47 _ _),fun j hj=>?_,A.lt⟩;rw[show i*20+1+j=i*20+(1+j) by omega,C (1+j) (by omega)];exact b46 _ _ _
theorem bN1:(Tryz.prog.info? 46).map (fun i=>(i.zero,i.size,i.bytes))=some (some (.agg #[.int .i64 0,.int .i64 0,.int .i64 0,.int .i64 0,.slice none 0 0,.int .i64 0,.int .i64 0,.slice none 0 0,.slice none 0 0,.slice none 0 0,.int .i64 0,.int .i64 0,.int .i64 0,.int .i64 0,.int .i64 0,.int .i64 0,.int .i64 0,.int .i64 0,.int .i64 0]),19,216):=by kernel_rfl
theorem bN2 (n:Nat) (hn:n<=512):∃ arr:Array Value,arr.size=n*19/\∀ w:World,(Instr.makeSlice 38 (.int .i64 (n:Int)) (.int .i64 (n:Int))).run Tryz.prog w=.ok (.slice (some ⟨w.heap.size,0,none⟩) n n) (w.alloc (.cells arr 46)):=by
 obtain⟨i,hi,hz0,hz1,hz2⟩:=info_parts bN1;refine⟨madeCells (Value.agg #[.int .i64 0,.int .i64 0,.int .i64 0,.int .i64 0,.slice none 0 0,.int .i64 0,.int .i64 0,.slice none 0 0,.slice none 0 0,.slice none 0 0,.int .i64 0,.int .i64 0,.int .i64 0,.int .i64 0,.int .i64 0,.int .i64 0,.int .i64 0,.int .i64 0,.int .i64 0]).cells (n*i.size),by rw[size_madeCells,hz1],fun w=>?_⟩;rw[run_make w 38 46 i _ Tryz.underlying38 hi hz0 .i64 .i64 n n (by omega) (zW _) (by rw[hz2];omega) (by omega)];rw[Int.toNat_natCast]
theorem Arr.next {T:TypeId} {sz m n:Nat} {F:Nat->Array Value} (h:Arr w g T sz m n F) (hn:n<m) {cs:Array Value} (hc:cs.size=sz):∃ arr,w.heap[g]?=some (.cells arr T (0,0))/\n*sz+cs.size<=arr.size/\Arr (w.setRow g (ae7 arr (n*sz) cs.toList)) g T sz m (n+1) (updA F n cs):=by
 obtain⟨arr,h1,h2,h3⟩:=h.blk;have hl:n*sz+sz<=m*sz:=by
  have:(n+1)*sz<=m*sz:=Nat.mul_le_mul_right _ hn;rwa[Nat.add_mul,Nat.one_mul]at this
 refine⟨arr,h1,by omega,⟨⟨_,setRow_heap w g _ _ _ _ h1,by rw[af5];exact h2,fun i j hi hj=>?_⟩,hn,fun i hi=>?_⟩⟩
 ·rw[aj1 _ _ _ _ (by simp;omega)]
  simp only[Array.length_toList]
  by_cases e:i=n
  ·subst e
   rw[a22,if_pos (by omega),show i*sz+j - i*sz=j by omega]
   simp
  ·rw[a34 _ _ e,if_neg]
   ·exact h3 i j (by omega) hj
   ·have:(i+1)*sz<=n*sz:=Nat.mul_le_mul_right _ (by omega)
    rw[Nat.add_mul,Nat.one_mul]at this;omega
 ·by_cases e:i=n
  ·rw[e,a22,hc]
  ·rw[a34 _ _ e]
   exact h.sz i (by omega)
structure DdsAt (w:World) (B g m n:Nat) (s:Su) (Z:Es) (D:Nat->Rr.Dd):Prop where
 row:Arr w g 46 19 m n (fun i=>ar4 s Z i (D i) (Z.X.R:Int))
 dd:∀ i,i<n->Rr.DdAt w (g+1) (D i) (ag3 (Z.X.H.D i).tx) (macT (Z.X.H.D i).tx)
 lo:B<=g
theorem DdsAt.on {B m n:Nat} {D:Nat->Rr.Dd} (h:DdsAt w B g m n s Z D) (k:Bl w w'):DdsAt w' B g m n s Z D:=⟨h.row.on k,fun i hi=>(h.dd i hi).on k,h.lo⟩
end
section
variable {w w':World} {f:Ex} {v v':Ev} {s:Su} {Z:Es} {g:Nat}
theorem DdsAt.next {B m n:Nat} {D:Nat->Rr.Dd} (h:DdsAt w B g m n s Z D) (hn:n<m) {u:World} (k:Bl w u) {Dk:Rr.Dd} (hD:Rr.DdAt u w.heap.size Dk (ag3 (Z.X.H.D n).tx) (macT (Z.X.H.D n).tx)):∃ arr,u.heap[g]?=some (.cells arr 46 (0,0))/\n*19+(ar4 s Z n Dk (Z.X.R:Int)).size<=arr.size/\∃ D',DdsAt (u.setRow g (ae7 arr (n*19) (ar4 s Z n Dk (Z.X.R:Int)).toList)) B g m (n+1) s Z D':=by
 have hu:=h.on k;have hg:=h.row.lt;obtain⟨arr,a1,a2,a3⟩:=hu.row.next hn (cs:=ar4 s Z n Dk (Z.X.R:Int)) (aT2 ..);refine⟨arr,a1,a2,fun i=>if i=n then Dk else D i,?_,fun i hi=>?_,h.lo⟩
 ·have e:updA (fun i=>ar4 s Z i (D i) (Z.X.R:Int)) n (ar4 s Z n Dk (Z.X.R:Int))=fun i=>ar4 s Z i (if i=n then Dk else D i) (Z.X.R:Int):=by
   funext i
   by_cases q:i=n
   ·subst q;rw[a22,if_pos rfl]
   ·rw[a34 _ _ q,if_neg q]
  rw[<- e];exact a3
 ·by_cases q:i=n
  ·subst q
   rw[if_pos rfl];exact(hD.mono (by omega)).keep (fun j hj _=>setRow_other _ _ _ _ (by omega)) (by simp)
  ·rw[if_neg q]
   exact(hu.dd i (by omega)).keep (fun j hj _=>setRow_other _ _ _ _ (by omega)) (by simp)
theorem b55 (h:Eng w f v s Z) (hs:SuIn s):Calls Tryz.prog 13 #[.pointer (some ⟨f.b,0,none⟩)] w fun r w'=>∃ g,r=.returned (.slice (some ⟨g,0,none⟩) Z.X.H.dn Z.X.H.dn)/\Hid (∃ D,DdsAt w' w.heap.size g Z.X.H.dn Z.X.H.dn s Z D/\Bl w w'):=by
 obtain⟨n,hn⟩:∃ n,Z.X.H.dn=n:=⟨_,rfl⟩
 have few:=h.wi.few hs;rw[hn]at few;have fewi:(n:Int)<=512:=by omega
 obtain⟨arr0,hsz,hmk⟩:=bN2 n few;obtain⟨pt,hpt⟩:∃ pt,v.pt=pt:=⟨_,rfl⟩
 obtain⟨gt,hgt⟩:∃ gt,0<n->pt=some ⟨gt,0,none⟩:=by
  obtain⟨d,h0,fi⟩:=h.at_
  by_cases q:0<n
  ·obtain⟨gt,e,_⟩:=h0.arr (by rw[fi.dn,hn];exact q)
   exact⟨gt,fun _=>hpt.symm.trans e⟩
  ·exact⟨0,fun z=>absurd z q⟩
 have HC:Hid (∀ u,Bl w u->(u.cell? ⟨f.b,14,none⟩=some (.slice pt n v.ct)/\u.cell? ⟨f.b,12,none⟩=some (.pointer (some ⟨f.rb,0,none⟩)))/\f.b<u.heap.size):=fun u hu=>by
  obtain⟨d,h0,fi⟩:=(h.on hu).at_;refine⟨⟨(h0.cell 14).trans ?_,(h0.cell 12).trans rfl⟩,h0.ltB⟩;rw[<- hpt,<- hn,<- fi.dn]
  rfl
 have HO:Hid (∀ u,Bl w u->Calls Tryz.prog 36 #[.pointer (some ⟨f.rb,0,none⟩)] u fun e w'=>e=.returned (.int .i64 (Z.X.R:Int))/\w'=u):=fun u hu=>Sd.over_any ((h.on hu).cells).2.2
 have HT:Hid (∀ u k,Bl w u->k<n->Calls Tryz.prog 35 #[.pointer (some ⟨gt,k*20,none⟩),.int .i64 (Z.X.R:Int)] u fun e w'=>∃ D,e=.returned (.agg (ar4 s Z k D (Z.X.R:Int)))/\Hid (Rr.DdAt w' u.heap.size D (ag3 (Z.X.H.D k).tx) (macT (Z.X.H.D k).tx)/\Bl u w')):=fun u k hu hk=>(h.on hu).told (by omega) (hpt.trans (hgt (by omega))) _
 rw[hn];have HGT:=zH hgt;obtain⟨⟨c14,c12⟩,lb⟩:=HC.out w (zF _ _);clear h hs hpt hn hgt;go_enter Tryz.func13,Tryz.ntmps13;have HC0:=HC.out _ (below_alloc w (.cells arr0 46));obtain⟨⟨e14,e12⟩,lb0⟩:=HC0;go_wp2_with fail;obtain⟨g,hg⟩:∃ g,w.heap.size=g:=⟨_,rfl⟩
 rw[hg];have H0:Hid (∃ D,DdsAt (w.alloc (.cells arr0 46)) w.heap.size g n 0 s Z D/\Bl w (w.alloc (.cells arr0 46))):=⟨fun _=>⟨none,0,none,0,none,0,none,0⟩,⟨⟨⟨arr0,by rw[<- hg];exact zN _ _,hsz,fun i j hi=>absurd hi (zI _)⟩,zV _,fun i hi=>absurd hi (zI _)⟩,fun i hi=>absurd hi (zI _),Nat.le_of_eq hg⟩,below_alloc _ _⟩;clear hmk hsz hg c14 c12 lb e14 e12 lb0
 go_loopw [16] (fun v16 wr=>∃ k:Nat,v16=.int .i64 (k:Int)/\k<=n/\Hid (∃ D,DdsAt wr w.heap.size g n k s Z D/\Bl w wr)) (fun v16 _=>n - (intOf v16).toNat)
 case atStart=>exact⟨0,rfl,zV _,H0.out⟩
 case round =>
  obtain⟨k,rfl,hk,HR⟩:=hrel;clear H0
  by_cases hlt:k<n
  ·have hlt':(k:Int)<(n:Int):=by omega
   obtain⟨D,z1,z2⟩:=HR.out;have HQ:=zH (And.intro z1 z2);have ept:=HGT.out (by omega);subst ept;obtain⟨⟨c14,c12⟩,lb⟩:=HC.out wr z2;have lg:=z1.row.lt;have HCC:=zH (fun u (hu:Bl wr u)=>HC.out u (HQ.out.2.trans (hu.mono HQ.out.2.size)));have HOO:=zH (HO.out wr.drew (z2.trans ((Same.drew wr).below _)));have HTT:=zH (HT.out wr.drew k (z2.trans ((Same.drew wr).below _)) hlt);clear z1 z2 HC HO HT HR
   go_upto_region 5 with fail
   refine a45 (fun u=>u.cell? ⟨f.b,14,none⟩=some (.slice (some ⟨gt,0,none⟩) n v.ct)/\u.cell? ⟨f.b,12,none⟩=some (.pointer (some ⟨f.rb,0,none⟩)) )  ((0,true)::(1,true)::(2,true)::(3,true)::(4,true)::(5,true)::(6,true)::(7,true)::(8,true)::(9,true)::(10,true)::(11,true)::(12,false)::(13,false)::(14,true)::(15,false)::[])  Md.Cv.follows13 (by kernel_rfl) (fun _ _ _ _ _ h=>h)  ⟨c14,c12⟩ ?_
   (repeat (refine a31 (v:=?_) rfl (by rfl) (fun wq hSq=>?_) ?_;rotate_left;(focus ((try dsimp only at hSq);go_simp;try with_reducible rfl));simp only[Act.put,zA,zB,zC]))
   (refine a27 rfl (by rfl) (fun KK hK=>?_);go_simp)
   refine HOO.out.mono ?_;rintro r u1 ⟨rfl,hu1⟩;subst u1;refine hK.out _ _ (fun _=>⟨c14,c12⟩) ?_
   (clear hK KK;try simp only[Act.put,zA,zB,zC])
   (refine a27 rfl (by rfl) (fun KK hK=>?_);go_simp)
   refine HTT.out.mono ?_;rintro r u2 ⟨Dk,rfl,q⟩;have B2:Hid (Bl wr u2):=((Same.drew wr).below _).trans q.out.2;obtain⟨arr,a1,a2,D',a3⟩:=HQ.out.1.next hlt B2.out q.out.1;have HZ:=zH a3;obtain⟨⟨s14,s12⟩,lb2⟩:=HCC.out _ B2.out;refine hK.out _ _ (fun _=>⟨s14,s12⟩) ?_;clear q a3
   (clear hK KK;try simp only[Act.put,zA,zB,zC])
   (repeat (refine a31 (v:=?_) rfl (by rfl) (fun wq hSq=>?_) ?_;rotate_left;(focus ((try dsimp only at hSq);go_simp;try with_reducible rfl));simp only[Act.put,zA,zB,zC]))
   refine a27 rfl (by rfl) (fun KK hK=>?_);refine ah6 46 _ _ rfl g (k*19) (ar4 s Z k Dk (Z.X.R:Int)) rfl rfl _ arr a1 aU7 a2 (ac2 ..) ?_;refine hK.out _ _ (fun hn=>absurd rfl hn) ?_
   (clear hK KK;try simp only[Act.put])
   refine a84 ?_;go_wp2_with fail;exact⟨⟨k+1,by first | rfl | (congr 1),by omega,D',HZ.out,Md.Ce.bl_setRow (HQ.out.2.trans (B2.out.mono HQ.out.2.size)) HQ.out.1.lo _⟩,by simp[intOf];omega⟩
  ·obtain rfl:k=n:=by omega
   have hlt':¬ (k:Int)<(k:Int):=by omega
   clear HC HO HT;go_wp2_with fail;go_ret;obtain⟨D,z1,z2⟩:=HR.out;exact⟨g,rfl,⟨D,z1⟩,z2⟩
end
end Go.Proofs.YtkihgongjedheaaGreatDoor.En
