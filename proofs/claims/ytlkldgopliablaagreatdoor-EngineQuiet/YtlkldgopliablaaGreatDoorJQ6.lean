import Derived.Test.YtlkldgopliablaaGreatDoorJQ5
import Derived.Test.YtlkldgopliablaaGreatDoorJQ2
import Derived.Test.YtlkldgopliablaaGreatDoorJQ3
import Derived.Test.YtlkldgopliablaaGreatDoorJQ4
set_option maxRecDepth 100000
set_option maxHeartbeats 8000000
namespace Go.Proofs.YtlkldgopliablaaGreatDoor.En
open Go.ChangeShapes Go.WideShapes Go.ChangeAt Go.RowKit Num Ww
open Rr (Rx a18 InX okW u64B Alike step_in newX a29)
theorem TIn.sizes {s:Su} {t:Nat} {N:Int} {y:Ty} (h:TIn s t N y):(ah4 y).length<=8/\(macT y).reads.length<=1024/\(macT y).buf.length<=1024/\(macT y).out.length<=1024:=by
 have K:∀ m:Mac,Inv m->m.reads.length<=1024/\m.buf.length<=1024/\m.out.length<=1024:=fun m i=>by
  have h1:=i.fuel;have h2:=i.used;have h3:=i.out;have h4:=i.reads;have h5:=i.few;have h6:=i.wmax;refine⟨?_,by omega,by omega⟩
  split at h4 <;> omega
 rcases y with⟨_,x⟩ | ⟨_,x⟩
 ·exact⟨h.1.few,K _ h.1.inv⟩
 ·exact⟨h.1.few,K _ h.1.rest.inv⟩
section
variable {w:World} {g o:Nat} {y:Ty} {D:Rr.Dd} {th no pr bg en ah fr tt to_:Int}
theorem bH2 (hc:∀ u,Bl w u->u.cell? ⟨g,o,none⟩=some .nilIface/\(∀ j,j<19->u.cell? ⟨g,o+1+j,none⟩=(dTx y D th no pr bg en ah fr tt)[j]?)/\g<u.heap.size) (hD:Rr.DdAt w 0 D (ah4 y) (macT y)) (b0:(ah4 y).length<=8) (b1:(macT y).reads.length<=1024) (b2:(macT y).buf.length<=1024) (b3:(macT y).out.length<=1024) :
  Calls Tryz.prog 58 #[.pointer (some ⟨g,o,none⟩),.int .i64 to_] w fun e w'=>∃ D',e=.returned (.agg (dTx y D' th no pr bg en ah fr tt))/\Hid (Rr.DdAt w' w.heap.size D' (ah4 y) (macT y)/\Bl w w'):=by
 have HB:=zH (below_alloc w Rr.dZ);obtain⟨c0,cj,lg⟩:=hc _ HB.out;have HC:=zH cj;have HO:Hid (Calls Tryz.prog 96 #[.agg (dTx y D th no pr bg en ah fr tt)] (w.alloc Rr.dZ) fun e w'=>∃ D',e=.returned (.agg (dTx y D' th no pr bg en ah fr tt))/\Hid (Rr.DdAt w' (w.alloc Rr.dZ).heap.size D' (ah4 y) (macT y)/\Below (w.alloc Rr.dZ).heap.size (w.alloc Rr.dZ) w')):=aR0 ⟨hD.a.on HB.out,hD.r.on HB.out,hD.wr.on HB.out,hD.o.on HB.out,hD.xa,hD.xr,hD.xw,hD.xo⟩ rfl (by omega) b1 b2 b3;clear hc hD cj b0 b1 b2 b3;go_enter Tryz.func58,Tryz.ntmps58
 go_wp2_with (first
  | (refine am4 rfl 65 _ rfl g (o+1) rfl (dTx y D th no pr bg en ah fr tt) _ (fun j hj=>HC.out j hj) Tryz.underlying65 rfl Rr.deedInfo ?_;simp only[Act.put,zA,zB,zC])
  | (refine wpList_store_row rfl 65 _ _ rfl w.heap.size (dTx y D' th no pr bg en ah fr tt) rfl rfl _ _ HZ.out Rr.deedInfo rfl (ad1 ..) ?_)
  | (go_at_call 96;refine HO.out.mono ?_;rintro r w1 ⟨D',rfl,q⟩;have H1:=zH q.out;have HZ:Hid (w1.heap[w.heap.size]?=some Rr.dZ):=(q.out.2.block _ (by simp)).trans (zN _ _);clear q HO c0 lg))
 refine au8 (D:=D') rfl w.heap.size rfl (setRow_heap _ _ _ _ _ _ HZ.out) rfl ⟨D',rfl,?_⟩;have hl:w.heap.size<(w.alloc Rr.dZ).heap.size:=by simp
 exact⟨(H1.out.1.keep (fun i hi _=>setRow_other _ _ _ _ (by omega)) (by simp)).mono (by omega),Md.Ce.bl_setRow (HB.out.trans (H1.out.2.mono HB.out.size)) (zE _) _⟩
end
theorem b60 (x:Value) (a:Array Value):(#[x] ++ a)[0]?=some x:=by
 rw[Array.getElem?_append_left (by simp)]
 rfl
theorem b59 (x:Value) (a:Array Value) (j:Nat):(#[x] ++ a)[1+j]?=a[j]?:=by
 rw[Array.getElem?_append_right (by simp)]
 simp
def as2 (s:Su) (Z:Es) (i:Nat) (D:Rr.Dd) (to_:Int):Array Value:=dTx (Z.X.H.D i).tx D (Z.X.H.D i).th (Z.X.H.D i).no (s.call (Z.X.H.D i).th (Z.X.H.D i).no).1 (Z.X.H.D i).bg (Z.X.H.D i).en (Z.A i) (Z.X.fr i) (if (Z.X.H.D i).en=0 then to_ else (Z.X.to_ i:Int))
section
variable {w w':World} {f:Ex} {v v':Ev} {s:Su} {Z:Es} {i g:Nat}
theorem Eng.told (h:Eng w f v s Z) (hi:i<Z.X.H.dn) (hp:v.pt=some ⟨g,0,none⟩) (to_:Int):Calls Tryz.prog 58 #[.pointer (some ⟨g,i*20,none⟩),.int .i64 to_] w fun e w'=>∃ D,e=.returned (.agg (as2 s Z i D to_))/\Hid (Rr.DdAt w' w.heap.size D (ah4 (Z.X.H.D i).tx) (macT (Z.X.H.D i).tx)/\Bl w w'):=by
 have wi:=h.wi;obtain⟨d,h,fi⟩:=h.at_;obtain⟨D1,D2,_⟩:=wi.D i hi;have hid:i<d.dn:=by rw[fi.dn];exact hi
 unfold as2
 by_cases e0:(Z.X.H.D i).en=0
 ·obtain⟨q1,q2⟩:=wi.un i hi e0
  have hT:d.T (Z.X.H.D i).th=some (Z.X.H.D i).tx:=by rw[fi.T];exact q1
  obtain⟨_,K,tx,_⟩:=h.tx _ _ hT;rw[if_pos e0,e0];exact bf6 tx D2 fun u hu=>(h.on hu).upC hid hp (fi.up i hi e0)
 ·obtain⟨D,l1,l2⟩:=fi.ov i hi e0
  have hd:=(h.dl i _ _ _ l1).1;obtain⟨b0,b1,b2,b3⟩:=D2.sizes;rw[if_neg e0];refine bH2 (fun u hu=>?_) hd b0 b1 b2 b3;have hu1:=h.on hu;obtain⟨g',e',_,A⟩:=hu1.arr (by omega);obtain rfl:g'=g:=by
   have:=e'.symm.trans hp;injection this with this;injection this
  have C:∀ j,j<20->u.cell? ⟨g',i*20+j,none⟩=(d.tr i)[j]?:=fun j hj=>A.cell hid hj
  rw[l2]at C;unfold trO at C;refine⟨(C 0 (by omega)).trans (b60 _ _),fun j hj=>?_,A.lt⟩;rw[show i*20+1+j=i*20+(1+j) by omega,C (1+j) (by omega)];exact b59 _ _ _
theorem bQ5:(Tryz.prog.info? 65).map (fun i=>(i.zero,i.size,i.bytes))=some (some (.agg #[.int .i64 0,.int .i64 0,.int .i64 0,.int .i64 0,.slice none 0 0,.int .i64 0,.int .i64 0,.slice none 0 0,.slice none 0 0,.slice none 0 0,.int .i64 0,.int .i64 0,.int .i64 0,.int .i64 0,.int .i64 0,.int .i64 0,.int .i64 0,.int .i64 0,.int .i64 0]),19,216):=by kernel_rfl
theorem bQ6 (n:Nat) (hn:n<=512):∃ arr:Array Value,arr.size=n*19/\∀ w:World,(Instr.makeSlice 48 (.int .i64 (n:Int)) (.int .i64 (n:Int))).run Tryz.prog w=.ok (.slice (some ⟨w.heap.size,0,none⟩) n n) (w.alloc (.cells arr 65)):=by
 obtain⟨i,hi,hz0,hz1,hz2⟩:=info_parts bQ5;refine⟨madeCells (Value.agg #[.int .i64 0,.int .i64 0,.int .i64 0,.int .i64 0,.slice none 0 0,.int .i64 0,.int .i64 0,.slice none 0 0,.slice none 0 0,.slice none 0 0,.int .i64 0,.int .i64 0,.int .i64 0,.int .i64 0,.int .i64 0,.int .i64 0,.int .i64 0,.int .i64 0,.int .i64 0]).cells (n*i.size),by rw[size_madeCells,hz1],fun w=>?_⟩;rw[run_make w 48 65 i _ Tryz.underlying48 hi hz0 .i64 .i64 n n (by omega) (zW _) (by rw[hz2];omega) (by omega)];rw[Int.toNat_natCast]
theorem Arr.next {T:TypeId} {sz m n:Nat} {F:Nat->Array Value} (h:Arr w g T sz m n F) (hn:n<m) {cs:Array Value} (hc:cs.size=sz):∃ arr,w.heap[g]?=some (.cells arr T (0,0))/\n*sz+cs.size<=arr.size/\Arr (w.setRow g (ae9 arr (n*sz) cs.toList)) g T sz m (n+1) (updA F n cs):=by
 obtain⟨arr,h1,h2,h3⟩:=h.blk;have hl:n*sz+sz<=m*sz:=by
  have:(n+1)*sz<=m*sz:=Nat.mul_le_mul_right _ hn;rwa[Nat.add_mul,Nat.one_mul]at this
 refine⟨arr,h1,by omega,⟨⟨_,setRow_heap w g _ _ _ _ h1,by rw[al5];exact h2,fun i j hi hj=>?_⟩,hn,fun i hi=>?_⟩⟩
 ·rw[aj9 _ _ _ _ (by simp;omega)]
  simp only[Array.length_toList]
  by_cases e:i=n
  ·subst e
   rw[a26,if_pos (by omega),show i*sz+j - i*sz=j by omega]
   simp
  ·rw[a38 _ _ e,if_neg]
   ·exact h3 i j (by omega) hj
   ·have:(i+1)*sz<=n*sz:=Nat.mul_le_mul_right _ (by omega)
    rw[Nat.add_mul,Nat.one_mul]at this;omega
 ·by_cases e:i=n
  ·rw[e,a26,hc]
  ·rw[a38 _ _ e]
   exact h.sz i (by omega)
structure DdsAt (w:World) (B g m n:Nat) (s:Su) (Z:Es) (D:Nat->Rr.Dd):Prop where
 row:Arr w g 65 19 m n (fun i=>as2 s Z i (D i) (Z.X.R:Int))
 dd:∀ i,i<n->Rr.DdAt w (g+1) (D i) (ah4 (Z.X.H.D i).tx) (macT (Z.X.H.D i).tx)
 lo:B<=g
theorem DdsAt.on {B m n:Nat} {D:Nat->Rr.Dd} (h:DdsAt w B g m n s Z D) (k:Bl w w'):DdsAt w' B g m n s Z D:=⟨h.row.on k,fun i hi=>(h.dd i hi).on k,h.lo⟩
end
section
variable {w w':World} {f:Ex} {v v':Ev} {s:Su} {Z:Es} {g:Nat}
theorem DdsAt.next {B m n:Nat} {D:Nat->Rr.Dd} (h:DdsAt w B g m n s Z D) (hn:n<m) {u:World} (k:Bl w u) {Dk:Rr.Dd} (hD:Rr.DdAt u w.heap.size Dk (ah4 (Z.X.H.D n).tx) (macT (Z.X.H.D n).tx)):∃ arr,u.heap[g]?=some (.cells arr 65 (0,0))/\n*19+(as2 s Z n Dk (Z.X.R:Int)).size<=arr.size/\∃ D',DdsAt (u.setRow g (ae9 arr (n*19) (as2 s Z n Dk (Z.X.R:Int)).toList)) B g m (n+1) s Z D':=by
 have hu:=h.on k;have hg:=h.row.lt;obtain⟨arr,a1,a2,a3⟩:=hu.row.next hn (cs:=as2 s Z n Dk (Z.X.R:Int)) (aU3 ..);refine⟨arr,a1,a2,fun i=>if i=n then Dk else D i,?_,fun i hi=>?_,h.lo⟩
 ·have e:updA (fun i=>as2 s Z i (D i) (Z.X.R:Int)) n (as2 s Z n Dk (Z.X.R:Int))=fun i=>as2 s Z i (if i=n then Dk else D i) (Z.X.R:Int):=by
   funext i
   by_cases q:i=n
   ·subst q;rw[a26,if_pos rfl]
   ·rw[a38 _ _ q,if_neg q]
  rw[<- e];exact a3
 ·by_cases q:i=n
  ·subst q
   rw[if_pos rfl];exact(hD.mono (by omega)).keep (fun j hj _=>setRow_other _ _ _ _ (by omega)) (by simp)
  ·rw[if_neg q]
   exact(hu.dd i (by omega)).keep (fun j hj _=>setRow_other _ _ _ _ (by omega)) (by simp)
theorem aJ2 (h:Eng w f v s Z) (hs:SuIn s):Calls Tryz.prog 24 #[.pointer (some ⟨f.b,0,none⟩)] w fun r w'=>∃ g,r=.returned (.slice (some ⟨g,0,none⟩) Z.X.H.dn Z.X.H.dn)/\Hid (∃ D,DdsAt w' w.heap.size g Z.X.H.dn Z.X.H.dn s Z D/\Bl w w'):=by
 obtain⟨n,hn⟩:∃ n,Z.X.H.dn=n:=⟨_,rfl⟩
 have few:=h.wi.few hs;rw[hn]at few;have fewi:(n:Int)<=512:=by omega
 obtain⟨arr0,hsz,hmk⟩:=bQ6 n few;obtain⟨pt,hpt⟩:∃ pt,v.pt=pt:=⟨_,rfl⟩
 obtain⟨gt,hgt⟩:∃ gt,0<n->pt=some ⟨gt,0,none⟩:=by
  obtain⟨d,h0,fi⟩:=h.at_
  by_cases q:0<n
  ·obtain⟨gt,e,_⟩:=h0.arr (by rw[fi.dn,hn];exact q)
   exact⟨gt,fun _=>hpt.symm.trans e⟩
  ·exact⟨0,fun z=>absurd z q⟩
 have HC:Hid (∀ u,Bl w u->(u.cell? ⟨f.b,14,none⟩=some (.slice pt n v.ct)/\u.cell? ⟨f.b,12,none⟩=some (.pointer (some ⟨f.rb,0,none⟩)))/\f.b<u.heap.size):=fun u hu=>by
  obtain⟨d,h0,fi⟩:=(h.on hu).at_;refine⟨⟨(h0.cell 14).trans ?_,(h0.cell 12).trans rfl⟩,h0.ltB⟩;rw[<- hpt,<- hn,<- fi.dn]
  rfl
 have HO:Hid (∀ u,Bl w u->Calls Tryz.prog 51 #[.pointer (some ⟨f.rb,0,none⟩)] u fun e w'=>e=.returned (.int .i64 (Z.X.R:Int))/\w'=u):=fun u hu=>Sd.over_any ((h.on hu).cells).2.2
 have HT:Hid (∀ u k,Bl w u->k<n->Calls Tryz.prog 58 #[.pointer (some ⟨gt,k*20,none⟩),.int .i64 (Z.X.R:Int)] u fun e w'=>∃ D,e=.returned (.agg (as2 s Z k D (Z.X.R:Int)))/\Hid (Rr.DdAt w' u.heap.size D (ah4 (Z.X.H.D k).tx) (macT (Z.X.H.D k).tx)/\Bl u w')):=fun u k hu hk=>(h.on hu).told (by omega) (hpt.trans (hgt (by omega))) _
 rw[hn];have HGT:=zH hgt;obtain⟨⟨c14,c12⟩,lb⟩:=HC.out w (zF _ _);clear h hs hpt hn hgt;go_enter Tryz.func24,Tryz.ntmps24;have HC0:=HC.out _ (below_alloc w (.cells arr0 65));obtain⟨⟨e14,e12⟩,lb0⟩:=HC0;go_wp2_with fail;obtain⟨g,hg⟩:∃ g,w.heap.size=g:=⟨_,rfl⟩
 rw[hg];have H0:Hid (∃ D,DdsAt (w.alloc (.cells arr0 65)) w.heap.size g n 0 s Z D/\Bl w (w.alloc (.cells arr0 65))):=⟨fun _=>⟨none,0,none,0,none,0,none,0⟩,⟨⟨⟨arr0,by rw[<- hg];exact zN _ _,hsz,fun i j hi=>absurd hi (zI _)⟩,zV _,fun i hi=>absurd hi (zI _)⟩,fun i hi=>absurd hi (zI _),Nat.le_of_eq hg⟩,below_alloc _ _⟩;clear hmk hsz hg c14 c12 lb e14 e12 lb0
 go_loopw [16] (fun v16 wr=>∃ k:Nat,v16=.int .i64 (k:Int)/\k<=n/\Hid (∃ D,DdsAt wr w.heap.size g n k s Z D/\Bl w wr)) (fun v16 _=>n - (intOf v16).toNat)
 case atStart=>exact⟨0,rfl,zV _,H0.out⟩
 case round =>
  obtain⟨k,rfl,hk,HR⟩:=hrel;clear H0
  by_cases hlt:k<n
  ·have hlt':(k:Int)<(n:Int):=by omega
   obtain⟨D,z1,z2⟩:=HR.out;have HQ:=zH (And.intro z1 z2);have ept:=HGT.out (by omega);subst ept;obtain⟨⟨c14,c12⟩,lb⟩:=HC.out wr z2;have lg:=z1.row.lt;have HCC:=zH (fun u (hu:Bl wr u)=>HC.out u (HQ.out.2.trans (hu.mono HQ.out.2.size)));have HOO:=zH (HO.out wr.drew (z2.trans ((Same.drew wr).below _)));have HTT:=zH (HT.out wr.drew k (z2.trans ((Same.drew wr).below _)) hlt);clear z1 z2 HC HO HT HR
   go_upto_region 5 with fail
   refine a35 (fun u=>u.cell? ⟨f.b,14,none⟩=some (.slice (some ⟨gt,0,none⟩) n v.ct)/\u.cell? ⟨f.b,12,none⟩=some (.pointer (some ⟨f.rb,0,none⟩)) )  ((0,true)::(1,true)::(2,true)::(3,true)::(4,true)::(5,true)::(6,true)::(7,true)::(8,true)::(9,true)::(10,true)::(11,true)::(12,false)::(13,false)::(14,true)::(15,false)::[])  Md.Cv.follows13 (by kernel_rfl) (fun _ _ _ _ _ h=>h)  ⟨c14,c12⟩ ?_
   (repeat (refine a27 (v:=?_) rfl (by rfl) (fun wq hSq=>?_) ?_;rotate_left;(focus ((try dsimp only at hSq);go_simp;try with_reducible rfl));simp only[Act.put,zA,zB,zC]))
   (refine a25 rfl (by rfl) (fun KK hK=>?_);go_simp)
   refine HOO.out.mono ?_;rintro r u1 ⟨rfl,hu1⟩;subst u1;refine hK.out _ _ (fun _=>⟨c14,c12⟩) ?_
   (clear hK KK;try simp only[Act.put,zA,zB,zC])
   (refine a25 rfl (by rfl) (fun KK hK=>?_);go_simp)
   refine HTT.out.mono ?_;rintro r u2 ⟨Dk,rfl,q⟩;have B2:Hid (Bl wr u2):=((Same.drew wr).below _).trans q.out.2;obtain⟨arr,a1,a2,D',a3⟩:=HQ.out.1.next hlt B2.out q.out.1;have HZ:=zH a3;obtain⟨⟨s14,s12⟩,lb2⟩:=HCC.out _ B2.out;refine hK.out _ _ (fun _=>⟨s14,s12⟩) ?_;clear q a3
   (clear hK KK;try simp only[Act.put,zA,zB,zC])
   (repeat (refine a27 (v:=?_) rfl (by rfl) (fun wq hSq=>?_) ?_;rotate_left;(focus ((try dsimp only at hSq);go_simp;try with_reducible rfl));simp only[Act.put,zA,zB,zC]))
   refine a25 rfl (by rfl) (fun KK hK=>?_);refine ai8 65 _ _ rfl g (k*19) (as2 s Z k Dk (Z.X.R:Int)) rfl rfl _ arr a1 av7 a2 (ad1 ..) ?_;refine hK.out _ _ (fun hn=>absurd rfl hn) ?_
   (clear hK KK;try simp only[Act.put])
   refine a64 ?_;go_wp2_with fail;exact⟨⟨k+1,by first | rfl | (congr 1),by omega,D',HZ.out,Md.Ce.bl_setRow (HQ.out.2.trans (B2.out.mono HQ.out.2.size)) HQ.out.1.lo _⟩,by simp[intOf];omega⟩
  ·obtain rfl:k=n:=by omega
   have hlt':¬ (k:Int)<(k:Int):=by omega
   clear HC HO HT;go_wp2_with fail;go_ret;obtain⟨D,z1,z2⟩:=HR.out;exact⟨g,rfl,⟨D,z1⟩,z2⟩
end
def Pln (po:Option Addr) (n c:Nat):Prop:=(po=none/\n=0/\c=0)∨∃ g o sp,po=some ⟨g,o,sp⟩
def PrAt (w:World) (ao:Option Addr) (l:List (Int × List Ins)):Prop:=∀ i,i<l.length->∃ g o po c,ao=some ⟨g,o,none⟩/\g<w.heap.size/\w.cell? ⟨g,o+i*2,none⟩=some (.int .i64 (l.getD i (0,[])).1)/\w.cell? ⟨g,o+i*2+1,none⟩=some (.slice po (l.getD i (0,[])).2.length c)/\a36 w po (l.getD i (0,[])).2/\Pln po (l.getD i (0,[])).2.length c/\(l.getD i (0,[])).2.length<=5864062014805
def CaAt (w:World) (ao:Option Addr) (l:List (Int × List Nat)):Prop:=∀ i,i<l.length->∃ g o po c,ao=some ⟨g,o,none⟩/\g<w.heap.size/\w.cell? ⟨g,o+i*2,none⟩=some (.int .i64 (l.getD i (0,[])).1)/\w.cell? ⟨g,o+i*2+1,none⟩=some (.slice po (l.getD i (0,[])).2.length c)/\FlAt w po (l.getD i (0,[])).2/\Pln po (l.getD i (0,[])).2.length c/\(l.getD i (0,[])).2.length<=9223372036854775807
def ThAt (w:World) (ao:Option Addr) (l:List (List (Int × List Nat))):Prop:=∀ i,i<l.length->∃ g o qa c,ao=some ⟨g,o,none⟩/\g<w.heap.size/\w.cell? ⟨g,o+i,none⟩=some (.slice qa (l.getD i []).length c)/\CaAt w qa (l.getD i [])/\(l.getD i []).length<=9223372036854775807
structure Sp where
 ps:Option Addr
 cs:Nat
 pp:Option Addr
 cp:Nat
 pt:Option Addr
 ct:Nat
structure SuAt (w:World) (s:Su) (p:Sp):Prop where
 st:FlAt w p.ps s.st
 pg:PrAt w p.pp s.pg
 cl:ThAt w p.pt s.cl
 l1:s.st.length<=9223372036854775807
 l2:s.pg.length<=9223372036854775807
 l3:s.cl.length<=9223372036854775807
 ok:SuOk s
abbrev suC (s:Su) (p:Sp):Array Value:=#[.int .i64 s.a,.int .i64 s.b,.int .i64 s.c,.int .i64 s.e,.slice p.ps s.st.length p.cs,.slice p.pp s.pg.length p.cp,.slice p.pt s.cl.length p.ct]
abbrev suO (s:Su) (p:Sp):Obj:=.cells (suC s p) 28
section
variable {w w':World} {s:Su} {p:Sp}
theorem PrAt.on {ao:Option Addr} {l:List (Int × List Ins)} (h:PrAt w ao l) (k:Bl w w'):PrAt w' ao l:=fun i hi=>by
 obtain⟨g,o,po,c,e,hg,c0,c1,hc,hn⟩:=h i hi;exact⟨g,o,po,c,e,zL hg k.size,(k.cell (p:=⟨g,_,none⟩) hg).trans c0,(k.cell (p:=⟨g,_,none⟩) hg).trans c1,hc.on k,hn⟩
theorem CaAt.on {ao:Option Addr} {l:List (Int × List Nat)} (h:CaAt w ao l) (k:Bl w w'):CaAt w' ao l:=fun i hi=>by
 obtain⟨g,o,po,c,e,hg,c0,c1,hc,hn⟩:=h i hi;exact⟨g,o,po,c,e,zL hg k.size,(k.cell (p:=⟨g,_,none⟩) hg).trans c0,(k.cell (p:=⟨g,_,none⟩) hg).trans c1,hc.on k,hn⟩
theorem ThAt.on {ao:Option Addr} {l:List (List (Int × List Nat))} (h:ThAt w ao l) (k:Bl w w'):ThAt w' ao l:=fun i hi=>by
 obtain⟨g,o,qa,c,e,hg,c0,hc,hn⟩:=h i hi;exact⟨g,o,qa,c,e,zL hg k.size,(k.cell (p:=⟨g,_,none⟩) hg).trans c0,hc.on k,hn⟩
theorem SuAt.on (h:SuAt w s p) (k:Bl w w'):SuAt w' s p:=⟨h.st.on k,h.pg.on k,h.cl.on k,h.l1,h.l2,h.l3,h.ok⟩
def anyU (q:Nat->Bool):Nat->Bool
 | 0=>false
 | n+1=>anyU q n || q n
theorem af4 (q:Nat->Bool):∀ n,anyU q n=true ↔ ∃ i,i<n/\q i=true
 | 0=>⟨fun h=>(by cases h),fun ⟨_,h,_⟩=>absurd h (zI _)⟩
 | n+1=>by
  show (anyU q n || q n)=true ↔ _
  rw[Bool.or_eq_true,af4 q n]
  constructor
  ·rintro(⟨i,h1,h2⟩ | h)
   ·exact⟨i,by omega,h2⟩
   ·exact⟨n,by omega,h⟩
  ·rintro⟨i,h1,h2⟩
   by_cases e:i=n
   ·exact .inr (e ▸ h2)
   ·exact .inl ⟨i,by omega,h2⟩
theorem b39 {α:Type} (l:List α) (d:α) (q:α->Bool):l.any q=anyU (fun i=>q (l.getD i d)) l.length:=by
 rw[Bool.eq_iff_iff,af4,List.any_eq_true]
 constructor
 ·rintro⟨x,hx,h⟩
  obtain⟨i,hi,rfl⟩:=List.mem_iff_getElem.1 hx;exact⟨i,hi,by rw[zG,List.getElem?_eq_getElem hi];exact h⟩
 ·rintro⟨i,hi,h⟩
  rw[zG,List.getElem?_eq_getElem hi]at h;exact⟨l[i],List.getElem_mem _,h⟩
theorem bv0 {α:Type} (l:List α) (d:α) (q:α->Bool):l.all q=!anyU (fun i=>!q (l.getD i d)) l.length:=by
 rw[<- b39 l d (fun x=>!q x)]
 simp[List.all_eq_not_any_not]
theorem aa0 (k:Int) (po:Option Addr) (n c np:Nat) (l:List Nat) (hl:l.length=n):Calls Tryz.prog 102 #[.agg #[.int .i64 k,.slice po n c],.int .i64 (np:Int)] w fun r w'=>r=.returned (.bool (a68 np (k,l)))/\Bl w w':=by
 have HB:=zH (below_alloc w (.cells #[.int .i64 k,.slice po n c] 138));have HE:Hid (a68 np (k,l)=(decide (0<=k) && decide (k<(np:Int)) && decide ((n:Int)<=8))):=by
  unfold a68;dsimp only;rw[hl]
  congr 1
  exact decide_eq_decide.2 ⟨fun q=>by omega,fun q=>by omega⟩
 by_cases q1:0<=k
 ·by_cases q2:k<(np:Int)
  ·go_enter Tryz.func102,Tryz.ntmps102
   go_wp2_with fail;go_ret;exact⟨by rw[HE.out];simp[q1,q2],HB.out⟩
  ·go_enter Tryz.func102,Tryz.ntmps102
   go_wp2_with fail;go_ret;exact⟨by rw[HE.out];simp;omega,HB.out⟩
 ·go_enter Tryz.func102,Tryz.ntmps102
  go_wp2_with fail;go_ret;exact⟨by rw[HE.out];simp;omega,HB.out⟩
def aA5 (s:Su):Bool:=decide (64<s.pg.length) || decide (s.b<(s.cl.length:Int)) || s.cl.any (fun l=>decide (64<l.length))
theorem at2 (w:World) (s:Su) (p:Sp):Bl w (w.alloc (suO s p))/\(w.alloc (suO s p)).heap[w.heap.size]?=some (suO s p):=⟨below_alloc _ _,zN _ _⟩
theorem a43 {u:World} {x:Nat} (h:u.heap[x]?=some (suO s p)):u.cell? ⟨x,0,none⟩=some (.int .i64 s.a)/\u.cell? ⟨x,1,none⟩=some (.int .i64 s.b)/\u.cell? ⟨x,2,none⟩=some (.int .i64 s.c)/\u.cell? ⟨x,3,none⟩=some (.int .i64 s.e)/\u.cell? ⟨x,4,none⟩=some (.slice p.ps s.st.length p.cs)/\u.cell? ⟨x,5,none⟩=some (.slice p.pp s.pg.length p.cp)/\u.cell? ⟨x,6,none⟩=some (.slice p.pt s.cl.length p.ct)/\x<u.heap.size :=
 ⟨(zR u x 0 _ _ _ h).trans rfl,(zR u x 1 _ _ _ h).trans rfl,(zR u x 2 _ _ _ h).trans rfl,(zR u x 3 _ _ _ h).trans rfl,(zR u x 4 _ _ _ h).trans rfl,(zR u x 5 _ _ _ h).trans rfl,(zR u x 6 _ _ _ h).trans rfl,lt_of_block h⟩
theorem aS6 (h:SuAt w s p):Calls Tryz.prog 101 #[.agg (suC s p)] w fun r w'=>r=.returned (.bool (aA5 s))/\Bl w w':=by
 have HB:=zH (at2 w s p);have HT:=zH (h.on HB.out.1).cl;have l2:=h.l2;have l3:=h.l3;have HE:Hid (aA5 s=(decide (64<s.pg.length) || decide (s.b<(s.cl.length:Int)) || anyU (fun i=>decide (64<(s.cl.getD i []).length)) s.cl.length)):=by unfold aA5;rw[b39 s.cl []];trivial
 clear h
 by_cases q1:64<s.pg.length
 ·have q1':(64:Int)<(s.pg.length:Int):=by omega
  go_enter Tryz.func101,Tryz.ntmps101;go_wp2_with fail;go_ret;exact⟨by rw[HE.out,zT q1,Bool.true_or,Bool.true_or];rfl,HB.out.1⟩
 ·have q1':¬ (64:Int)<(s.pg.length:Int):=by omega
  by_cases q2:s.b<(s.cl.length:Int)
  ·go_enter Tryz.func101,Tryz.ntmps101
   go_wp2_with fail;go_ret;exact⟨by rw[HE.out,zT q2,Bool.or_true,Bool.true_or];rfl,HB.out.1⟩
  ·have HE2:Hid (aA5 s=anyU (fun i=>decide (64<(s.cl.getD i []).length)) s.cl.length):=by rw[HE.out,zU q1,zU q2,Bool.false_or,Bool.false_or];trivial
   clear HE;go_enter Tryz.func101,Tryz.ntmps101;go_wp2_with fail;obtain⟨w1,hw1⟩:∃ w1,w1=w.alloc (suO s p):=⟨_,rfl⟩
   rw[show w.alloc (.cells (suC s p) 28)=w1 from hw1.symm];rw[<- hw1]at HB HT;clear hw1
   go_loopw [2,21] (fun v2 v21 wr=>∃ k:Nat,v21=.int .i64 (k:Int)/\v2=.bool false/\k<=s.cl.length/\Hid (wr=w1/\anyU (fun i=>decide (64<(s.cl.getD i []).length)) k=false)) (fun v2 v21 _=>s.cl.length - (intOf v21).toNat)
   case atStart=>exact⟨0,rfl,rfl,zV _,rfl,rfl⟩
   case round =>
    obtain⟨k,rfl,rfl,hk,HR⟩:=hrel;have hw:=HR.out.1;subst hw
    by_cases hlt:k<s.cl.length
    ·have hlt':(k:Int)<(s.cl.length:Int):=by omega
     obtain⟨g,o,qa,c,e,hg,c0,_,ln⟩:=HT.out k hlt;obtain⟨m,hm⟩:∃ m,(s.cl.getD k []).length=m:=⟨_,rfl⟩
     rw[hm]at c0 ln
     by_cases q:64<m
     ·have q':(64:Int)<(m:Int):=by omega
      have HY:Hid (anyU (fun i=>decide (64<(s.cl.getD i []).length)) s.cl.length=true):=(af4 _ _).2 ⟨k,hlt,zT (by omega)⟩;clear hm;rw[e];go_wp2_with fail;go_ret;exact⟨by rw[HE2.out,HY.out];rfl,HB.out.1⟩
     ·have q':¬ (64:Int)<(m:Int):=by omega
      have HY:Hid (anyU (fun i=>decide (64<(s.cl.getD i []).length)) (k+1)=false):=by
       show (anyU _ k || decide _)=false
       rw[HR.out.2,zU (by omega)]
       rfl
      clear hm;rw[e];go_wp2_with fail;exact⟨⟨k+1,by first | rfl | (congr 1),rfl,by omega,by first | trivial | rfl,HY.out⟩,by simp[intOf];omega⟩
    ·have hk':k=s.cl.length:=by omega
     have hlt':¬ (k:Int)<(s.cl.length:Int):=by omega
     go_wp2_with fail;go_ret;exact⟨by rw[HE2.out,<- hk',HR.out.2];rfl,HB.out.1⟩
def badC (s:Su) (l:List (Int × List Nat)) (n:Nat):Bool:=anyU (fun j=>!a68 s.pg.length (l.getD j (0,[]))) n
def badT (s:Su) (n:Nat):Bool:=anyU (fun i=>badC s (s.cl.getD i []) (s.cl.getD i []).length) n
theorem b69 (s:Su):errS s=if Md.cfgB s.a s.b s.c s.e && decide ((s.st.length:Int)<=s.a) then (if aA5 s then 160 else if badT s s.cl.length then 1 else 0) else 1:=by
 unfold errS badT;have e:s.cl.all (fun l=>l.all (a68 s.pg.length))=!anyU (fun i=>badC s (s.cl.getD i []) (s.cl.getD i []).length) s.cl.length:=by
  rw[bv0 s.cl []]
  congr 2
  funext i
  unfold badC;rw[bv0 _ (0,[]),Bool.not_not]
 rw[e];unfold aA5
 cases anyU (fun i=>badC s (s.cl.getD i []) (s.cl.getD i []).length) s.cl.length <;> rfl
theorem aJ7 (h:SuAt w s p):Calls Tryz.prog 63 #[.agg (suC s p)] w fun r w'=>r=.returned (.int .i64 (errS s))/\Bl w w':=by
 have HB:=zH (at2 w s p);have HX:Hid (∀ u,Below (w.alloc (suO s p)).heap.size (w.alloc (suO s p)) u->SuAt u s p/\u.heap[w.heap.size]?=some (suO s p)/\Bl w u):=fun u hu=>⟨(h.on HB.out.1).on hu,(hu.block _ (lt_of_block HB.out.2)).trans HB.out.2,HB.out.1.trans (hu.mono HB.out.1.size)⟩
 have HP:=zH (fun u=>Md.place_any s.a s.b s.c s.e u);have l1:=h.l1;have l2:=h.l2;have l3:=h.l3;have HE:=zH (b69 s);have HM:Hid (∀ u,Below (w.alloc (suO s p)).heap.size (w.alloc (suO s p)) u->Calls Tryz.prog 101 #[.agg (suC s p)] u fun r w'=>r=.returned (.bool (aA5 s))/\Bl u w'):=fun u hu=>aS6 (HX.out u hu).1
 clear h
 cases hc:Md.cfgB s.a s.b s.c s.e with
 | false =>
  simp only[hc]at HP;have HE2:Hid (errS s=1):=by rw[HE.out,hc];trivial
  clear HE HM;go_enter Tryz.func63,Tryz.ntmps63
  go_wp2_with (go_at_call 64;refine(HP.out _).mono ?_;rintro r u1 ⟨rfl,q⟩;have H1:=zH q;clear q HP)
  go_ret;have:=(HX.out _ H1.out).2.2;exact⟨by rw[HE2.out];rfl,this.alloc this.size _⟩
 | true =>
  simp only[hc]at HP
  by_cases q1:(s.st.length:Int)<=s.a
  ·have q1':¬ s.a<(s.st.length:Int):=by omega
   cases hm:aA5 s with
   | true =>
    rw[hm]at HM;have HE2:Hid (errS s=160):=by rw[HE.out,hc,hm,zT q1];trivial
    clear HE;go_enter Tryz.func63,Tryz.ntmps63
    go_wp2_with (first
     | (go_at_call 101;refine(HM.out _ (H1.out.alloc H1.out.size _)).mono ?_;rintro r u2 ⟨rfl,q⟩;have H2:=zH (a07 (H1.out.alloc H1.out.size _) q);clear q HM)
     | (go_at_call 64;refine(HP.out _).mono ?_;rintro r u1 ⟨rfl,q⟩;have H1:=zH q;obtain⟨s0,s1,s2,s3,s4,s5,s6,s7⟩:=a43 (HX.out _ q).2.1;clear q HP))
    go_ret;exact⟨by rw[HE2.out];rfl,(HX.out _ H2.out).2.2⟩
   | false =>
    rw[hm]at HM;have HE2:Hid (errS s=if badT s s.cl.length then 1 else 0):=by rw[HE.out,hc,hm,zT q1];trivial
    clear HE;go_enter Tryz.func63,Tryz.ntmps63
    go_wp2_with (first
     | (go_at_call 101;refine(HM.out _ (H1.out.alloc H1.out.size _)).mono ?_;rintro r u2 ⟨rfl,q⟩;have H2:=zH (a07 (H1.out.alloc H1.out.size _) q);clear s0 s1 s2 s3 s4 s5 s6 s7;obtain⟨s0,s1,s2,s3,s4,s5,s6,s7⟩:=a43 (HX.out _ H2.out).2.1;clear q HM)
     | (go_at_call 64;refine(HP.out _).mono ?_;rintro r u1 ⟨rfl,q⟩;have H1:=zH q;obtain⟨s0,s1,s2,s3,s4,s5,s6,s7⟩:=a43 (HX.out _ q).2.1;clear q HP))
    clear s0 s1 s2 s3 s4 s5 s6 s7 H1
    go_loopw [2,31] (fun v2 v31 wr=>∃ k:Nat,v31=.int .i64 (k:Int)/\v2=.int .i64 0/\k<=s.cl.length/\Hid (Below (w.alloc (suO s p)).heap.size (w.alloc (suO s p)) wr/\badT s k=false)) (fun v2 v31 _=>s.cl.length - (intOf v31).toNat)
    case atStart=>exact⟨0,rfl,rfl,zV _,H2.out,rfl⟩
    case round =>
     obtain⟨k,rfl,rfl,hk,HR⟩:=hrel;clear H2
     by_cases hlt:k<s.cl.length
     ·have hlt':(k:Int)<(s.cl.length:Int):=by omega
      obtain⟨g,o,qa,c,e,hg,c0,ca,ln⟩:=(HX.out _ HR.out.1).1.cl k hlt;have HY:Hid ((badC s (s.cl.getD k []) (s.cl.getD k []).length=true->errS s=1)/\(badC s (s.cl.getD k []) (s.cl.getD k []).length=false->badT s (k+1)=false)):=by
       refine⟨fun q=>?_,fun q=>?_⟩
       ·rw[HE2.out,show badT s s.cl.length=true from(af4 _ _).2 ⟨k,hlt,q⟩]
        rfl
       ·show (anyU _ k || badC s (s.cl.getD k []) (s.cl.getD k []).length)=false
        rw[q,Bool.or_false];exact HR.out.2
      obtain⟨l,hl⟩:∃ l,s.cl.getD k []=l:=⟨_,rfl⟩
      rw[hl]at c0 ca ln HY;obtain⟨m,hm⟩:∃ m,l.length=m:=⟨_,rfl⟩
      rw[hm]at c0 ln HY;have HCA:=zH ca;have HM:=zH hm;obtain⟨wo,hwo⟩:∃ wo,wo=wr:=⟨_,rfl⟩
      rw[<- hwo]at HR c0 hg HCA ⊢;clear hl hm ca hwo;rw[e];go_wp2_with fail
      go_loopw [2,37] (fun v2 v37 wi=>∃ j:Nat,v37=.int .i64 (j:Int)/\v2=.int .i64 0/\j<=m/\Hid (Bl wo wi/\badC s l j=false)) (fun v2 v37 _=>m - (intOf v37).toNat)
      case atStart=>exact⟨0,rfl,rfl,zV _,zF _ _,rfl⟩
      case round =>
       obtain⟨j,rfl,rfl,hj,HI⟩:=hrel;have HBW:=zH (HR.out.1.trans (HI.out.1.mono HR.out.1.size))
       by_cases hjt:j<m
       ·have hjt':(j:Int)<(m:Int):=by omega
        obtain⟨g2,o2,po,cc,e2,hg2,d0,d1,_,_⟩:=(HCA.out.on HI.out.1) j (by rw[HM.out];exact hjt);obtain⟨x,hx⟩:∃ x,l.getD j (0,[])=x:=⟨_,rfl⟩
        have HZ:Hid ((a68 s.pg.length x=true->badC s l (j+1)=false)/\(a68 s.pg.length x=false->errS s=1)):=by
         refine⟨fun q=>?_,fun q=>HY.out.1 ((af4 _ _).2 ⟨j,hjt,by rw[hx,q];rfl⟩)⟩
         show (anyU _ j || !a68 s.pg.length (l.getD j (0,[])))=false
         rw[hx,q,Bool.not_true,Bool.or_false];exact HI.out.2
        rw[hx]at d0 d1;have HMB:=zH (fun u:World=>aa0 (w:=u) x.1 po x.2.length cc s.pg.length x.2 rfl);rw[show (x.1,x.2)=x from rfl]at HMB;obtain⟨n2,hn2⟩:∃ n2,x.2.length=n2:=⟨_,rfl⟩
        obtain⟨x1,hx1⟩:∃ x1,x.1=x1:=⟨_,rfl⟩
        rw[hn2]at HMB d1;rw[hx1]at HMB d0;clear hx hn2 hx1;have HAL:Hid (∀ ob,Below (w.alloc (suO s p)).heap.size (w.alloc (suO s p)) (wr.alloc ob)/\Bl wo (wr.alloc ob)):=fun ob=>⟨HBW.out.alloc HBW.out.size ob,HI.out.1.alloc HI.out.1.size ob⟩
        obtain⟨s0,s1,s2,s3,s4,s5,s6,s7⟩:=a43 (HX.out _ (HAL.out (.cells #[.int .i64 x1,.slice po n2 cc] 138)).1).2.1;clear s0 s1 s2 s3 s4 s6;subst e2
        cases hb:a68 s.pg.length x with
        | true =>
         rw[hb]at HMB
         go_wp2_with (go_at_call 102;refine(HMB.out _).mono ?_;rintro r u4 ⟨rfl,q⟩;have H4:=zH q;clear q HMB)
         exact⟨⟨j+1,by first | rfl | (congr 1),rfl,by omega,(HAL.out _).2.trans (H4.out.mono (HAL.out _).2.size),HZ.out.1 hb⟩,by simp[intOf];omega⟩
        | false =>
         rw[hb]at HMB
         go_wp2_with (go_at_call 102;refine(HMB.out _).mono ?_;rintro r u4 ⟨rfl,q⟩;have H4:=zH q;clear q HMB)
         go_ret;have z:=(HX.out _ (HAL.out (.cells #[.int .i64 x1,.slice po n2 cc] 138)).1).2.2;exact⟨by rw[HZ.out.2 hb];rfl,z.trans (H4.out.mono z.size)⟩
       ·have hjm:j=m:=by omega
        have hjt':¬ (j:Int)<(m:Int):=by omega
        go_wp2_with fail;exact⟨⟨k+1,by first | rfl | (congr 1),rfl,by omega,HBW.out,HY.out.2 (by rw[<- hjm];exact HI.out.2)⟩,by simp[intOf];omega⟩
     ·have hk':k=s.cl.length:=by omega
      have hlt':¬ (k:Int)<(s.cl.length:Int):=by omega
      go_wp2_with fail;go_ret;exact⟨by rw[HE2.out,<- hk',HR.out.2];rfl,(HX.out _ HR.out.1).2.2⟩
  ·have q1':s.a<(s.st.length:Int):=by omega
   have HE2:Hid (errS s=1):=by rw[HE.out,zU q1,Bool.and_false];trivial
   clear HE HM;go_enter Tryz.func63,Tryz.ntmps63
   go_wp2_with (go_at_call 64;refine(HP.out _).mono ?_;rintro r u1 ⟨rfl,q⟩;have H1:=zH q;obtain⟨s0,s1,s2,s3,s4,s5,s6,s7⟩:=a43 (HX.out _ q).2.1;clear q HP)
   go_ret;have:=(HX.out _ H1.out).2.2;exact⟨by rw[HE2.out];rfl,this.alloc this.size _⟩
end
theorem aB3 {w:World} {g o c n:Nat} {sp:Option Nat} {xs:List Value} (hn:xs.length=n*3) (hx:∀ j u,xs[j]?=some u->w.cell? ((⟨g,o,sp⟩:Addr).add j)=some u) (h1:∀ u∈xs,u.oneCell'=true) (hz:n<=5864062014805):Calls Tryz.prog 107 #[.slice (some ⟨g,o,sp⟩) n c] w fun e w'=>∃ p' c',e=.returned (.slice p' n c')/\w'.ownsRow w.heap.size 133 3 (.slice p' n c') n xs/\Bl w w':=by
 have hq:=fun w c=>Lib.run_eql_slice_nil (P:=Tryz.prog) w 134 133 (some ⟨g,o,sp⟩) n c 0 0 Tryz.underlying134
 have HX:Hid (∀ j u,xs[j]?=some u->(w.alloc (.cells #[] 133)).cell? ((⟨g,o,sp⟩:Addr).add j)=some u):=fun j u hj=>((below_alloc w _).cell (zK w _ (hx j u hj))).trans (hx j u hj)
 have H1:=zH (And.intro h1 (And.intro hn hz));have HO:Hid ((w.alloc (.cells #[] 133)).ownsRow w.heap.size 133 3 (.slice (some ⟨w.heap.size,0,none⟩) 0 0) 0 []):=⟨rfl,.inr ⟨w.heap.size,0,#[],rfl,zE _,zN _ _,zE _,zV _,by simp,by simp⟩⟩;obtain⟨i0,hi,hz0,hz1,hz2⟩:=info_parts aQ1;have HZI:=zH (And.intro hi (And.intro hz0 (And.intro hz1 hz2)));clear hi hz0 hz1 hz2 hx h1 hz hn;go_enter Tryz.func107,Tryz.ntmps107
 go_wp2_with (at_builtin;refine wpList_append_own_at _ rfl _ _ 134 rfl w.heap.size 133 i0 _ 3 24 Tryz.underlying134 HZI.out.1 HZI.out.2.1 HZI.out.2.2.1 HZI.out.2.2.2 rfl (by decide) _ 0 [] rfl HO.out ⟨g,o,sp⟩ n _ xs rfl H1.out.2.1 HX.out H1.out.1 (by have:=H1.out.2.2;unfold maxLen;omega) (by have:=H1.out.2.2;omega) (by simp) ?_;intro v w3 hown hgrow hnil hloc;have HS:=zH (And.intro hown hgrow);clear hown hgrow hnil hloc)
 have ho3:=HS.out.1;rw[List.nil_append,Nat.zero_add]at ho3;obtain⟨p',c',hv,ha⟩:=ae8 ho3;subst hv;have hb3:Bl w w3:=(below_alloc w _).grown HS.out.2 (by simp) (fun j hj=>by
  have:=hj
  simp[Act.eval,Value.ownBlock]at this
  omega)
 have HF:=zH (And.intro ho3 hb3);clear ho3 ha hb3 HS H1
 go_wp2
 go_ret;exact⟨_,_,rfl,HF.out.1,HF.out.2⟩
theorem aA1 {w:World} {ao:Option Addr} {cap n:Nat} {c:List Ins} (h:a36 w ao c) (hn:c.length=n) (h1:1<=n) (hz:n<=5864062014805):Calls Tryz.prog 107 #[.slice ao n cap] w fun e w'=>∃ p' c',e=.returned (.slice p' n c')/\a36 w' p' c/\Blw w' (fpR p')/\Abv w.heap.size (fpR p')/\Bl w w':=by
 obtain⟨g,o,e,_,_,_,_⟩:=h 0 (by omega);subst e;refine(aB3 (xs:=c.flatMap fun i=>[Value.int .i64 i.op,.int .i64 i.n,.float .f64 i.x]) (by rw[aF3,hn]) (fun j u hj=>?_) (fun u hu=>?_) hz).mono fun e w' ⟨p',c',a1,a2,a3⟩=>?_
 ·have hjl:j<c.length*3:=by
   have:=(List.getElem?_eq_some_iff.1 hj).1;rwa[aF3]at this
  rw[aK2 c j hjl]at hj;obtain⟨g',o',e',_,c0,c1,c2⟩:=h (j / 3) (by omega)
  cases e'
  rw[show (⟨g,o,none⟩:Addr).add j=⟨g,o+j,none⟩ by unfold Addr.add;split <;> simp_all,<- hj]
  by_cases h0:j % 3=0
  ·rw[if_pos h0,show o+j=o+j / 3*3 by omega]
   exact c0
  ·rw[if_neg h0]
   by_cases h1:j % 3=1
   ·rw[if_pos h1,show o+j=o+j / 3*3+1 by omega]
    exact c1
   ·rw[if_neg h1,show o+j=o+j / 3*3+2 by omega]
    exact c2
 ·obtain⟨i,_,hx⟩:=List.mem_flatMap.1 hu
  simp at hx
  rcases hx with rfl | rfl | rfl <;> rfl
 ·rw[<- hn]at a2
  obtain⟨b1,b2,b3⟩:=aU0 a2;exact⟨p',c',a1,b1,b2,b3,a3⟩
theorem aY9 {w:World} {ao:Option Addr} {cap:Nat} {c:List Ins} (h:a36 w ao c) (hp:Pln ao c.length cap) (hz:c.length<=5864062014805):Calls Tryz.prog 107 #[.slice ao c.length cap] w fun e w'=>∃ p' c',e=.returned (.slice p' c.length c')/\a36 w' p' c/\Blw w' (fpR p')/\Abv w.heap.size (fpR p')/\Bl w w':=by
 by_cases h1:1<=c.length
 ·exact aA1 h rfl h1 hz
 ·have h0:c.length=0:=by omega
  have hC:∀ (w:World) (p:Option Addr),a36 w p c:=fun w p k hk=>by omega
  rcases hp with⟨rfl,_,rfl⟩ | ⟨g,o,sp,rfl⟩
  ·rw[h0]
   exact(aY5 w).mono fun e w' ⟨a1,a2⟩=>⟨none,0,a1,hC _ _,fun k hk=>by simp[fpR]at hk,fun k hk=>by simp[fpR]at hk,a2 ▸ zF _ _⟩
  ·refine(aB3 (xs:=[]) (by rw[h0];rfl) (fun j u hj=>by cases hj) (fun u hu=>by cases hu) (by omega)).mono fun e w' ⟨p',c',a1,a2,a3⟩=>⟨p',c',a1,hC _ _,fun k hk=>(a2.lt k (a42.1 hk)).2,fun k hk=>(a2.lt k (a42.1 hk)).1,a3⟩
theorem aY7 {w:World} {po:Option Addr} {cap:Nat} {l:List Nat} (h:FlAt w po l) (hp:Pln po l.length cap) (hz:l.length<=1024):Calls Tryz.prog 108 #[.slice po l.length cap] w fun e w'=>∃ p' c',e=.returned (.slice p' l.length c')/\RowAt 71 w' p' c' (fls l)/\Abv w.heap.size (fpR p')/\Bl w w':=by
 rcases hp with⟨rfl,h0,rfl⟩ | ⟨g,o,sp,rfl⟩
 ·obtain rfl:l=[]:=List.length_eq_zero_iff.1 h0
  exact(aB2 w).mono fun e w' ⟨a1,a2⟩=>⟨none,0,a1,⟨World.ownsRow_nil _ _ _ _⟩,fun k hk=>by simp[fpR]at hk,a2 ▸ zF _ _⟩
 ·refine(aw3 (xs:=fls l) (by rw[a33,Nat.mul_one]) (fun j u hj=>?_) (aP6 l) hz).mono fun e w' ⟨p',c',a1,a2,a3⟩=>?_
  ·have hjl:j<l.length:=by
    have:=(List.getElem?_eq_some_iff.1 hj).1;rwa[a33]at this
   obtain⟨g',o',e',_,c0⟩:=h j hjl
   cases e'
   rw[add_plain,c0,<- hj];unfold fls;rw[List.getElem?_map,zG,List.getElem?_eq_getElem hjl]
   rfl
  ·obtain⟨p2,c2,e2,r1,r2⟩:=aG5 a2
   have e2:Value.slice p' l.length c'=.slice p2 l.length c2:=by rw[e2,a33]
   injection e2 with e3 _ e4;subst e3 e4;exact⟨_,_,a1,r1,r2,a3⟩
theorem aT7:(Tryz.prog.info? 138).map (fun i=>(i.zero,i.size,i.bytes))=some (some (.agg #[.int .i64 0,.slice none 0 0]),2,32):=by kernel_rfl
theorem aW2:(Tryz.prog.info? 136).map (fun i=>(i.zero,i.size,i.bytes))=some (some (.agg #[.int .i64 0,.slice none 0 0]),2,32):=by kernel_rfl
theorem bQ4 (n:Nat) (hn:n<=512):∃ arr:Array Value,arr.size=n*2/\∀ w:World,(Instr.makeSlice 59 (.int .i64 (n:Int)) (.int .i64 (n:Int))).run Tryz.prog w=.ok (.slice (some ⟨w.heap.size,0,none⟩) n n) (w.alloc (.cells arr 138)):=by
 obtain⟨i,hi,hz0,hz1,hz2⟩:=info_parts aT7;refine⟨madeCells (Value.agg #[.int .i64 0,.slice none 0 0]).cells (n*i.size),by rw[size_madeCells,hz1],fun w=>?_⟩;rw[run_make w 59 138 i _ Tryz.underlying59 hi hz0 .i64 .i64 n n (by omega) (zW _) (by rw[hz2];omega) (by omega)];rw[Int.toNat_natCast]
theorem bU6 (n:Nat) (hn:n<=512):∃ arr:Array Value,arr.size=n*2/\∀ w:World,(Instr.makeSlice 25 (.int .i64 (n:Int)) (.int .i64 (n:Int))).run Tryz.prog w=.ok (.slice (some ⟨w.heap.size,0,none⟩) n n) (w.alloc (.cells arr 136)):=by
 obtain⟨i,hi,hz0,hz1,hz2⟩:=info_parts aW2;refine⟨madeCells (Value.agg #[.int .i64 0,.slice none 0 0]).cells (n*i.size),by rw[size_madeCells,hz1],fun w=>?_⟩;rw[run_make w 25 136 i _ Tryz.underlying25 hi hz0 .i64 .i64 n n (by omega) (zW _) (by rw[hz2];omega) (by omega)];rw[Int.toNat_natCast]
structure OwC (w:World) (B g n k:Nat) (l:List (Int × List Nat)) (P:Nat->Option Addr) (C:Nat->Nat):Prop where
 row:Arr w g 138 2 n k (fun j=>#[.int .i64 (l.getD j (0,[])).1,.slice (P j) (l.getD j (0,[])).2.length (C j)])
 args:∀ j,j<k->RowAt 71 w (P j) (C j) (fls (l.getD j (0,[])).2)/\Abv (g+1) (fpR (P j))
 lo:B<=g
section
variable {w w':World} {g:Nat}
theorem OwC.on {B n k:Nat} {l:List (Int × List Nat)} {P:Nat->Option Addr} {C:Nat->Nat} (h:OwC w B g n k l P C) (q:Bl w w'):OwC w' B g n k l P C:=⟨h.row.on q,fun j hj=>⟨(h.args j hj).1.on q,(h.args j hj).2⟩,h.lo⟩
theorem OwC.next {B n k:Nat} {l:List (Int × List Nat)} {P:Nat->Option Addr} {C:Nat->Nat} (h:OwC w B g n k l P C) (hk:k<n) {u:World} (q:Bl w u) {po:Option Addr} {co:Nat} (hr:RowAt 71 u po co (fls (l.getD k (0,[])).2)) (ha:Abv w.heap.size (fpR po)):∃ arr,u.heap[g]?=some (.cells arr 138 (0,0))/\k*2+2<=arr.size/\∃ P' C',OwC (u.setRow g (ae9 arr (k*2) [.int .i64 (l.getD k (0,[])).1,.slice po (l.getD k (0,[])).2.length co])) B g n (k+1) l P' C':=by
 have hu:=h.on q;have hg:=h.row.lt;obtain⟨arr,a1,a2,a3⟩:=hu.row.next hk (cs:=#[.int .i64 (l.getD k (0,[])).1,.slice po (l.getD k (0,[])).2.length co]) rfl;refine⟨arr,a1,a2,fun j=>if j=k then po else P j,fun j=>if j=k then co else C j,?_,fun j hj=>?_,h.lo⟩
 ·have e:updA (fun j=>#[.int .i64 (l.getD j (0,[])).1,.slice (P j) (l.getD j (0,[])).2.length (C j)]) k #[.int .i64 (l.getD k (0,[])).1,.slice po (l.getD k (0,[])).2.length co]=fun j=>#[Value.int .i64 (l.getD j (0,[])).1,.slice (if j=k then po else P j) (l.getD j (0,[])).2.length (if j=k then co else C j)]:=by
   funext j
   by_cases z:j=k
   ·subst z;rw[a26,if_pos rfl,if_pos rfl]
   ·rw[a38 _ _ z,if_neg z,if_neg z]
  rw[<- e];exact a3
 ·by_cases z:j=k
  ·subst z
   rw[if_pos rfl,if_pos rfl];have ha':Abv (g+1) (fpR po):=ha.mono (by omega);exact⟨hr.keep (aa5 fun y=>by have:=ha' g y;omega),ha'⟩
  ·rw[if_neg z,if_neg z]
   have:=hu.args j (by omega);exact⟨this.1.keep (aa5 fun y=>by have:=this.2 g y;omega),this.2⟩
theorem OwC.in_ {B n:Nat} {l:List (Int × List Nat)} {P:Nat->Option Addr} {C:Nat->Nat} (h:OwC w B g n n l P C):∃ R,Abv B R/\Blw w R/\∀ j,j<n->ClIn w R (some ⟨g,0,none⟩) j (l.getD j (0,[])):=by
 refine⟨g::(List.range n).flatMap (fun j=>fpR (P j)),fun k hk=>?_,fun k hk=>?_,fun j hj=>⟨g,rfl,by simp,?_,P j,C j,?_,(h.args j hj).1.fl,fun k hk=>?_⟩⟩
 ·simp only[List.mem_cons,List.mem_flatMap,List.mem_range]at hk
  rcases hk with rfl | ⟨j,hj,hk⟩
  ·exact h.lo
  ·have:=(h.args j hj).2 k hk
   have:=h.lo;omega
 ·simp only[List.mem_cons,List.mem_flatMap,List.mem_range]at hk
  rcases hk with rfl | ⟨j,hj,hk⟩
  ·exact h.row.lt
  ·exact(h.args j hj).1.blw k hk
 ·exact(h.row.cell (j:=0) hj (by omega)).trans rfl
 ·exact(h.row.cell (j:=1) hj (by omega)).trans rfl
 ·simp only[List.mem_cons,List.mem_flatMap,List.mem_range]
  exact .inr ⟨j,hj,hk⟩
theorem aL2 {ao:Option Addr} {cap:Nat} {l:List (Int × List Nat)} (h:CaAt w ao l) (hl:l.length<=64) (h8:∀ j,j<l.length->(l.getD j (0,[])).2.length<=8):Calls Tryz.prog 69 #[.slice ao l.length cap] w fun r w'=>∃ g,r=.returned (.slice (some ⟨g,0,none⟩) l.length l.length)/\Hid ((∃ P C,OwC w' w.heap.size g l.length l.length l P C)/\Bl w w'):=by
 obtain⟨n,hn⟩:∃ n,l.length=n:=⟨_,rfl⟩
 rw[hn]at hl h8;have hli:(n:Int)<=64:=by omega
 obtain⟨arr0,hsz,hmk⟩:=bQ4 n (by omega);have HC:Hid (∀ u k,Bl w u->k<n->∃ g o po c,ao=some ⟨g,o,none⟩/\g<u.heap.size/\u.cell? ⟨g,o+k*2,none⟩=some (.int .i64 (l.getD k (0,[])).1)/\u.cell? ⟨g,o+k*2+1,none⟩=some (.slice po (l.getD k (0,[])).2.length c)/\(∀ u',Bl u u'->Calls Tryz.prog 108 #[.slice po (l.getD k (0,[])).2.length c] u' fun e w'=>∃ p' c',e=.returned (.slice p' (l.getD k (0,[])).2.length c')/\RowAt 71 w' p' c' (fls (l.getD k (0,[])).2)/\Abv u'.heap.size (fpR p')/\Bl u' w')):=fun u k hu hk=>by
  obtain⟨g,o,po,c,e,hg,c0,c1,c2,c3,_⟩:=(h.on hu) k (by omega);exact⟨g,o,po,c,e,hg,c0,c1,fun u' hu'=>aY7 (c2.on hu') c3 (by have:=h8 k hk;omega)⟩
 rw[hn];clear h h8 hn;go_enter Tryz.func69,Tryz.ntmps69;go_wp2_with fail;obtain⟨g,hg⟩:∃ g,w.heap.size=g:=⟨_,rfl⟩
 rw[hg];have H0:Hid ((∃ P C,OwC (w.alloc (.cells arr0 138)) w.heap.size g n 0 l P C)/\Bl w (w.alloc (.cells arr0 138))):=⟨⟨fun _=>none,fun _=>0,⟨⟨⟨arr0,by rw[<- hg];exact zN _ _,hsz,fun i j hi=>absurd hi (zI _)⟩,zV _,fun i hi=>absurd hi (zI _)⟩,fun i hi=>absurd hi (zI _),Nat.le_of_eq hg⟩⟩,below_alloc _ _⟩;clear hmk hsz hg
 go_loopw [11] (fun v11 wr=>∃ k:Nat,v11=.int .i64 (k:Int)/\k<=n/\Hid ((∃ P C,OwC wr w.heap.size g n k l P C)/\Bl w wr)) (fun v11 _=>n - (intOf v11).toNat)
 case atStart=>exact⟨0,rfl,zV _,H0.out⟩
 case round =>
  obtain⟨k,rfl,hk,HR⟩:=hrel;clear H0
  by_cases hlt:k<n
  ·have hlt':(k:Int)<(n:Int):=by omega
   obtain⟨⟨P,C,z1⟩,z2⟩:=HR.out;have HQ:=zH (And.intro z1 z2);obtain⟨gl,o,po,c,e,hgl,c0,c1,HCL0⟩:=HC.out wr k z2 hlt;have HCL:=zH HCL0;have HN:=zH (fun u (q:Bl wr u) po co hr ha=>z1.next hlt q (po:=po) (co:=co) hr ha);have lg:=z1.row.lt;obtain⟨x1,hx1⟩:∃ x1,(l.getD k (0,[])).1=x1:=⟨_,rfl⟩
   obtain⟨x2,hx2⟩:∃ x2,(l.getD k (0,[])).2.length=x2:=⟨_,rfl⟩
   rw[hx1]at c0 HN;rw[hx2]at c1 HCL HN;clear z1 z2 HC HR HCL0 hx1 hx2;subst e
   go_upto_region 5 with fail
   obtain⟨gb,hgb⟩:∃ gb,wr.heap.size=gb:=⟨_,rfl⟩
   obtain⟨w1,hw1⟩:∃ w1,w1=wr.alloc (.cells #[.int .i64 x1,.slice po x2 c] 138):=⟨_,rfl⟩
   rw[<- hw1,hgb];have H1:Hid (Bl wr w1/\w1.heap[gb]?=some (.cells #[.int .i64 x1,.slice po x2 c] 138 (0,0))):=by
    rw[hw1,<- hgb];exact⟨below_alloc _ _,zN _ _⟩
   have t0:=(zR w1 gb 0 _ _ _ H1.out.2).trans (rfl:_=some (Value.int .i64 x1));have t1:=(zR w1 gb 1 _ _ _ H1.out.2).trans (rfl:_=some (Value.slice po x2 c));have lgb:=lt_of_block H1.out.2;clear hw1 hgb c0 c1;refine a35 (fun u=>u.cell? ⟨gb,0,none⟩=some (.int .i64 x1)/\u.cell? ⟨gb,1,none⟩=some (.slice po x2 c) )  ((0,true)::(1,true)::(2,true)::(3,true)::(4,true)::(5,true)::(6,false)::(7,true)::(8,true)::(9,false)::[])  Md.Cv.follows13 (by kernel_rfl) (fun _ _ _ _ _ h=>h)  ⟨t0,t1⟩ ?_
   (repeat (refine a27 (v:=?_) rfl (by rfl) (fun wq hSq=>?_) ?_;rotate_left;(focus ((try dsimp only at hSq);go_simp;try with_reducible rfl));simp only[Act.put,zA,zB,zC]))
   (refine a25 rfl (by rfl) (fun KK hK=>?_);go_simp)
   refine(HCL.out _ (H1.out.1.trans ((Same.drew w1).below _))).mono ?_;rintro r u2 ⟨p',c',rfl,q1,q2,q3⟩;have B2:Hid (Bl wr u2/\Bl w1 u2):=⟨(H1.out.1.trans ((Same.drew w1).below _)).trans (q3.mono H1.out.1.size),((Same.drew w1).below _).trans q3⟩;obtain⟨arr,a1,a2,P',C',a3⟩:=HN.out u2 B2.out.1 p' c' q1 (q2.mono H1.out.1.size);have HZ:=zH a3;have hb2:u2.heap[gb]?=some (.cells #[.int .i64 x1,.slice po x2 c] 138 (0,0)):=(B2.out.2.block _ lgb).trans H1.out.2;refine hK.out _ _ (fun _=>⟨(zR u2 gb 0 _ _ _ hb2).trans rfl,(zR u2 gb 1 _ _ _ hb2).trans rfl⟩) ?_;clear q1 q2 q3 a3 hb2
   (clear hK KK;try simp only[Act.put,zA,zB,zC])
   (repeat (refine a27 (v:=?_) rfl (by rfl) (fun wq hSq=>?_) ?_;rotate_left;(focus ((try dsimp only at hSq);go_simp;try with_reducible rfl));simp only[Act.put,zA,zB,zC]))
   refine a25 rfl (by rfl) (fun KK hK=>?_);refine ai8 138 _ _ rfl g (k*2) #[.int .i64 x1,.slice p' x2 c'] rfl rfl _ arr a1 (by kernel_rfl) a2 (by simp[Value.oneCell']) ?_;refine hK.out _ _ (fun hn=>absurd rfl hn) ?_
   (clear hK KK;try simp only[Act.put])
   refine a64 ?_;go_wp2_with fail;exact⟨⟨k+1,by first | rfl | (congr 1),by omega,⟨P',C',HZ.out⟩,Md.Ce.bl_setRow (HQ.out.2.trans (B2.out.1.mono HQ.out.2.size)) HQ.out.1.lo _⟩,by simp[intOf];omega⟩
  ·obtain rfl:k=n:=by omega
   have hlt':¬ (k:Int)<(k:Int):=by omega
   clear HC;go_wp2_with fail;go_ret;exact⟨g,rfl,HR.out⟩
end
structure OwP (w:World) (B g n k:Nat) (l:List (Int × List Ins)) (P:Nat->Option Addr) (C:Nat->Nat):Prop where
 row:Arr w g 136 2 n k (fun j=>#[.int .i64 (l.getD j (0,[])).1,.slice (P j) (l.getD j (0,[])).2.length (C j)])
 args:∀ j,j<k->(a36 w (P j) (l.getD j (0,[])).2/\Blw w (fpR (P j)))/\Abv (g+1) (fpR (P j))
 lo:B<=g
section
variable {w w':World} {g:Nat}
theorem OwP.on {B n k:Nat} {l:List (Int × List Ins)} {P:Nat->Option Addr} {C:Nat->Nat} (h:OwP w B g n k l P C) (q:Bl w w'):OwP w' B g n k l P C:=⟨h.row.on q,fun j hj=>⟨⟨(h.args j hj).1.1.on q,fun i hi=>zL ((h.args j hj).1.2 i hi) q.size⟩,(h.args j hj).2⟩,h.lo⟩
theorem OwP.next {B n k:Nat} {l:List (Int × List Ins)} {P:Nat->Option Addr} {C:Nat->Nat} (h:OwP w B g n k l P C) (hk:k<n) {u:World} (q:Bl w u) {po:Option Addr} {co:Nat} (hr:a36 u po (l.getD k (0,[])).2) (hb:Blw u (fpR po)) (ha:Abv w.heap.size (fpR po)):∃ arr,u.heap[g]?=some (.cells arr 136 (0,0))/\k*2+2<=arr.size/\∃ P' C',OwP (u.setRow g (ae9 arr (k*2) [.int .i64 (l.getD k (0,[])).1,.slice po (l.getD k (0,[])).2.length co])) B g n (k+1) l P' C':=by
 have hu:=h.on q;have hg:=h.row.lt;obtain⟨arr,a1,a2,a3⟩:=hu.row.next hk (cs:=#[.int .i64 (l.getD k (0,[])).1,.slice po (l.getD k (0,[])).2.length co]) rfl;refine⟨arr,a1,a2,fun j=>if j=k then po else P j,fun j=>if j=k then co else C j,?_,fun j hj=>?_,h.lo⟩
 ·have e:updA (fun j=>#[.int .i64 (l.getD j (0,[])).1,.slice (P j) (l.getD j (0,[])).2.length (C j)]) k #[.int .i64 (l.getD k (0,[])).1,.slice po (l.getD k (0,[])).2.length co]=fun j=>#[Value.int .i64 (l.getD j (0,[])).1,.slice (if j=k then po else P j) (l.getD j (0,[])).2.length (if j=k then co else C j)]:=by
   funext j
   by_cases z:j=k
   ·subst z;rw[a26,if_pos rfl,if_pos rfl]
   ·rw[a38 _ _ z,if_neg z,if_neg z]
  rw[<- e];exact a3
 ·by_cases z:j=k
  ·subst z
   rw[if_pos rfl];have ha':Abv (g+1) (fpR po):=ha.mono (by omega);exact⟨⟨ao6 hr (aa5 fun y=>by have:=ha' g y;omega),fun i hi=>by have:=hb i hi;simpa using this⟩,ha'⟩
  ·rw[if_neg z]
   have:=hu.args j (by omega);exact⟨⟨ao6 this.1.1 (aa5 fun y=>by have:=this.2 g y;omega),fun i hi=>by have:=this.1.2 i hi;simpa using this⟩,this.2⟩
theorem OwP.in_ {B n:Nat} {l:List (Int × List Ins)} {P:Nat->Option Addr} {C:Nat->Nat} (h:OwP w B g n n l P C) (hl:∀ j,j<n->(l.getD j (0,[])).2.length<=9223372036854775807):∃ R,Abv B R/\Blw w R/\g∈R/\∀ j,j<n->PgIn w R g j (l.getD j (0,[])):=by
 refine⟨g::(List.range n).flatMap (fun j=>fpR (P j)),fun k hk=>?_,fun k hk=>?_,by simp,fun j hj=>⟨by simp,?_,P j,C j,?_,(h.args j hj).1.1,fun k hk=>?_,hl j hj⟩⟩
 ·simp only[List.mem_cons,List.mem_flatMap,List.mem_range]at hk
  rcases hk with rfl | ⟨j,hj,hk⟩
  ·exact h.lo
  ·have:=(h.args j hj).2 k hk
   have:=h.lo;omega
 ·simp only[List.mem_cons,List.mem_flatMap,List.mem_range]at hk
  rcases hk with rfl | ⟨j,hj,hk⟩
  ·exact h.row.lt
  ·exact(h.args j hj).1.2 k hk
 ·exact(h.row.cell (j:=0) hj (by omega)).trans rfl
 ·exact(h.row.cell (j:=1) hj (by omega)).trans rfl
 ·simp only[List.mem_cons,List.mem_flatMap,List.mem_range]
  exact .inr ⟨j,hj,hk⟩
theorem ay7 {ao:Option Addr} {cap:Nat} {l:List (Int × List Ins)} (h:PrAt w ao l) (hl:l.length<=64):Calls Tryz.prog 68 #[.slice ao l.length cap] w fun r w'=>∃ g,r=.returned (.slice (some ⟨g,0,none⟩) l.length l.length)/\Hid ((∃ P C,OwP w' w.heap.size g l.length l.length l P C)/\Bl w w'):=by
 obtain⟨n,hn⟩:∃ n,l.length=n:=⟨_,rfl⟩
 rw[hn]at hl;have hli:(n:Int)<=64:=by omega
 obtain⟨arr0,hsz,hmk⟩:=bU6 n (by omega);have HC:Hid (∀ u k,Bl w u->k<n->∃ g o po c,ao=some ⟨g,o,none⟩/\g<u.heap.size/\u.cell? ⟨g,o+k*2,none⟩=some (.int .i64 (l.getD k (0,[])).1)/\u.cell? ⟨g,o+k*2+1,none⟩=some (.slice po (l.getD k (0,[])).2.length c)/\(∀ u',Bl u u'->Calls Tryz.prog 107 #[.slice po (l.getD k (0,[])).2.length c] u' fun e w'=>∃ p' c',e=.returned (.slice p' (l.getD k (0,[])).2.length c')/\a36 w' p' (l.getD k (0,[])).2/\Blw w' (fpR p')/\Abv u'.heap.size (fpR p')/\Bl u' w')):=fun u k hu hk=>by
  obtain⟨g,o,po,c,e,hg,c0,c1,c2,c3,c4⟩:=(h.on hu) k (by omega);exact⟨g,o,po,c,e,hg,c0,c1,fun u' hu'=>aY9 (c2.on hu') c3 c4⟩
 rw[hn];clear h hn;go_enter Tryz.func68,Tryz.ntmps68;go_wp2_with fail;obtain⟨g,hg⟩:∃ g,w.heap.size=g:=⟨_,rfl⟩
 rw[hg];have H0:Hid ((∃ P C,OwP (w.alloc (.cells arr0 136)) w.heap.size g n 0 l P C)/\Bl w (w.alloc (.cells arr0 136))):=⟨⟨fun _=>none,fun _=>0,⟨⟨⟨arr0,by rw[<- hg];exact zN _ _,hsz,fun i j hi=>absurd hi (zI _)⟩,zV _,fun i hi=>absurd hi (zI _)⟩,fun i hi=>absurd hi (zI _),Nat.le_of_eq hg⟩⟩,below_alloc _ _⟩;clear hmk hsz hg
 go_loopw [11] (fun v11 wr=>∃ k:Nat,v11=.int .i64 (k:Int)/\k<=n/\Hid ((∃ P C,OwP wr w.heap.size g n k l P C)/\Bl w wr)) (fun v11 _=>n - (intOf v11).toNat)
 case atStart=>exact⟨0,rfl,zV _,H0.out⟩
 case round =>
  obtain⟨k,rfl,hk,HR⟩:=hrel;clear H0
  by_cases hlt:k<n
  ·have hlt':(k:Int)<(n:Int):=by omega
   obtain⟨⟨P,C,z1⟩,z2⟩:=HR.out;have HQ:=zH (And.intro z1 z2);obtain⟨gl,o,po,c,e,hgl,c0,c1,HCL0⟩:=HC.out wr k z2 hlt;have HCL:=zH HCL0;have HN:=zH (fun u (q:Bl wr u) po co hr hb ha=>z1.next hlt q (po:=po) (co:=co) hr hb ha);have lg:=z1.row.lt;obtain⟨x1,hx1⟩:∃ x1,(l.getD k (0,[])).1=x1:=⟨_,rfl⟩
   obtain⟨x2,hx2⟩:∃ x2,(l.getD k (0,[])).2.length=x2:=⟨_,rfl⟩
   rw[hx1]at c0 HN;rw[hx2]at c1 HCL HN;clear z1 z2 HC HR HCL0 hx1 hx2;subst e
   go_upto_region 5 with fail
   obtain⟨gb,hgb⟩:∃ gb,wr.heap.size=gb:=⟨_,rfl⟩
   obtain⟨w1,hw1⟩:∃ w1,w1=wr.alloc (.cells #[.int .i64 x1,.slice po x2 c] 136):=⟨_,rfl⟩
   rw[<- hw1,hgb];have H1:Hid (Bl wr w1/\w1.heap[gb]?=some (.cells #[.int .i64 x1,.slice po x2 c] 136 (0,0))):=by
    rw[hw1,<- hgb];exact⟨below_alloc _ _,zN _ _⟩
   have t0:=(zR w1 gb 0 _ _ _ H1.out.2).trans (rfl:_=some (Value.int .i64 x1));have t1:=(zR w1 gb 1 _ _ _ H1.out.2).trans (rfl:_=some (Value.slice po x2 c));have lgb:=lt_of_block H1.out.2;clear hw1 hgb c0 c1;refine a35 (fun u=>u.cell? ⟨gb,0,none⟩=some (.int .i64 x1)/\u.cell? ⟨gb,1,none⟩=some (.slice po x2 c) )  ((0,true)::(1,true)::(2,true)::(3,true)::(4,true)::(5,true)::(6,false)::(7,true)::(8,true)::(9,false)::[])  Md.Cv.follows13 (by kernel_rfl) (fun _ _ _ _ _ h=>h)  ⟨t0,t1⟩ ?_
   (repeat (refine a27 (v:=?_) rfl (by rfl) (fun wq hSq=>?_) ?_;rotate_left;(focus ((try dsimp only at hSq);go_simp;try with_reducible rfl));simp only[Act.put,zA,zB,zC]))
   (refine a25 rfl (by rfl) (fun KK hK=>?_);go_simp)
   refine(HCL.out _ (H1.out.1.trans ((Same.drew w1).below _))).mono ?_;rintro r u2 ⟨p',c',rfl,q1,qb,q2,q3⟩;have B2:Hid (Bl wr u2/\Bl w1 u2):=⟨(H1.out.1.trans ((Same.drew w1).below _)).trans (q3.mono H1.out.1.size),((Same.drew w1).below _).trans q3⟩;obtain⟨arr,a1,a2,P',C',a3⟩:=HN.out u2 B2.out.1 p' c' q1 qb (q2.mono H1.out.1.size);have HZ:=zH a3;have hb2:u2.heap[gb]?=some (.cells #[.int .i64 x1,.slice po x2 c] 136 (0,0)):=(B2.out.2.block _ lgb).trans H1.out.2;refine hK.out _ _ (fun _=>⟨(zR u2 gb 0 _ _ _ hb2).trans rfl,(zR u2 gb 1 _ _ _ hb2).trans rfl⟩) ?_;clear q1 qb q2 q3 a3 hb2
   (clear hK KK;try simp only[Act.put,zA,zB,zC])
   (repeat (refine a27 (v:=?_) rfl (by rfl) (fun wq hSq=>?_) ?_;rotate_left;(focus ((try dsimp only at hSq);go_simp;try with_reducible rfl));simp only[Act.put,zA,zB,zC]))
   refine a25 rfl (by rfl) (fun KK hK=>?_);refine ai8 136 _ _ rfl g (k*2) #[.int .i64 x1,.slice p' x2 c'] rfl rfl _ arr a1 (by kernel_rfl) a2 (by simp[Value.oneCell']) ?_;refine hK.out _ _ (fun hn=>absurd rfl hn) ?_
   (clear hK KK;try simp only[Act.put])
   refine a64 ?_;go_wp2_with fail;exact⟨⟨k+1,by first | rfl | (congr 1),by omega,⟨P',C',HZ.out⟩,Md.Ce.bl_setRow (HQ.out.2.trans (B2.out.1.mono HQ.out.2.size)) HQ.out.1.lo _⟩,by simp[intOf];omega⟩
  ·obtain rfl:k=n:=by omega
   have hlt':¬ (k:Int)<(k:Int):=by omega
   clear HC;go_wp2_with fail;go_ret;exact⟨g,rfl,HR.out⟩
end
end Go.Proofs.YtlkldgopliablaaGreatDoor.En
namespace Go.Proofs.YtlkldgopliablaaGreatDoor
section
variable {P:Program} {ops:Array Oper} {Q:Exit->Act->World->Prop} {md:Region.Mode} {S:World->Prop}
def b31 (P:Program) (ops:Array Oper) (Q:Exit->Act->World->Prop) (S:World->Prop) (i:Nat) (ri:List (Nat × Bool)) (j:Nat) (rj:List (Nat × Bool)):List Nat->Act->World->Prop
 | [],a,w=>wpOp P ops Q i (fun a' w'=>S w'/\ai7 P ops Q S ri a' w') a w/\wpOp P ops Q j (fun a' w'=>S w'/\ai7 P ops Q S rj a' w') a w
 | x::rest,a,w=>∃ o v,ops[x]?=some o/\YieldsIf P ops S o v a/\b31 P ops Q S i ri j rj rest (a.put o.dst v) w
def twoB (md:Region.Mode) (ops:Array Oper) (i:Nat) (ri:List (Nat × Bool)) (j:Nat) (rj:List (Nat × Bool)):Array Bool->List Nat->Bool
 | listed,[]=>Region.ready md ops listed == [i,j] && seqB md ops (listed.setIfInBounds i true) ri && seqB md ops (listed.setIfInBounds j true) rj
 | listed,x::rest=>(Region.ready md ops listed).contains x && Region.free md ops listed x && twoB md ops i ri j rj (listed.setIfInBounds x true) rest
theorem ar4 (hs:Region.noSelect ops=true) (hQ:∀ c t t' d w,Q (.panic c) ⟨t,d⟩ w->Q (.panic c) ⟨t',d⟩ w) {i j:Nat} {ri rj:List (Nat × Bool)} (hlen:rj.length=ri.length):∀ (l:List Nat) (listed:Array Bool) (a:Act) (w:World),twoB md ops i ri j rj listed l=true->S w->b31 P ops Q S i ri j rj l a w->wpAnyH P md ops Q S (ri.length+1+l.length) listed a w
 | [],listed,a,w,hb,_,h=>by
  simp only[twoB,Bool.and_eq_true,beq_iff_eq]at hb;refine wpAnyH_all (rs:=[i,j]) hb.1.1 (by simp) fun x hx=>?_
  by_cases e:x=i
  ·subst e
   exact wpOp_mono (fun a' w' h'=>⟨h'.1,a75 hs hQ ri _ _ _ hb.1.2 h'.1 h'.2⟩) h.1
  ·have e2:x=j:=by simpa[e]using hx
   subst e2;refine wpOp_mono (fun a' w' h'=>⟨h'.1,?_⟩) h.2;have:=a75 (Q:=Q) hs hQ rj _ _ _ hb.2 h'.1 h'.2;rw[hlen]at this;exact this
 | x::rest,listed,a,w,hb,hS,h=>by
  simp only[twoB,Bool.and_eq_true]at hb;obtain⟨o,v,ho,hy,hr⟩:=h;exact wpAnyH_take ho hs hb.1.2 hb.1.1 (fun c a w h=>aq1 hQ h) hy hS (ar4 hs hQ hlen rest _ _ _ hb.2 hS hr)
theorem ar6 {id:Nat} {a:Act} {w:World} (S:World->Prop) (l:List Nat) (i:Nat) (ri:List (Nat × Bool)) (j:Nat) (rj:List (Nat × Bool)) (hm:P.follows .mixedOrders=true) (hb:(Region.noSelect ops && rj.length == ri.length && ri.length+1+l.length == ops.size && twoB .any ops i ri j rj (Array.replicate ops.size false) l)=true) (hQ:∀ c t t' d w,Q (.panic c) ⟨t,d⟩ w->Q (.panic c) ⟨t',d⟩ w) (hS:S w.drew) (h:b31 P ops Q S i ri j rj l a w.drew):(Code.region id ops true).wp P Q a w:=by
 simp only[Bool.and_eq_true,beq_iff_eq]at hb;refine wp_region_held (S:=S) hm ?_;rw[<- hb.1.2];have:=ar4 (Q:=Q) (S:=S) hb.1.1.1 hQ hb.1.1.2 l _ a w.drew hb.2 hS h;rw[<- hb.1.2]at this;exact this
theorem aC8 {x i j:Nat} {ri rj:List (Nat × Bool)} {rest:List Nat} {o:Oper} {v:Value} {a:Act} {w:World} (ho:nth ops.toList x=some o) (hw:Region.wanted o (yielded ops a.tmps)=true) (hy:∀ w,S w->(execOp a.eval o).run P w=.ok (.value v) w) (h:b31 P ops Q S i ri j rj rest (a.put o.dst v) w):b31 P ops Q S i ri j rj (x::rest) a w:=⟨o,v,aK9 ho,.inl ⟨hw,hy⟩,h⟩
theorem aO1 {i j:Nat} {ri rj:List (Nat × Bool)} {a:Act} {w:World} (h1:ai7 P ops Q S ((i,false)::ri) a w) (h2:ai7 P ops Q S ((j,false)::rj) a w):b31 P ops Q S i ri j rj [] a w:=⟨h1,h2⟩
end
end Go.Proofs.YtlkldgopliablaaGreatDoor
namespace Go.Proofs.YtlkldgopliablaaGreatDoor.En
open Go.ChangeShapes Go.WideShapes Go.ChangeAt Go.RowKit Num Ww
open Rr (Rx a18 InX okW u64B Alike step_in newX a29)
theorem aG7 {ws:List Int} {i x:Int} (h:okW ws) (hx:u64B x):okW (Md.poked ws i x)/\(Md.poked ws i x).length=ws.length:=by
 unfold Md.poked
 split
 ·refine⟨fun v hv=>?_,List.length_set ..⟩
  rcases List.mem_or_eq_of_mem_set hv with q | q
  ·exact h v q
  ·rw[q];exact hx
 ·exact⟨h,rfl⟩
theorem bk4 {x:Nat} (h:x<18446744073709551616):u64B (fixB x:Int):=by
 have:=(a91 h).2;unfold u64B;omega
theorem aN0 {ws:List Int} {p:Int} {l:List Nat} (h:okW ws) (hl:∀ x∈l,x<18446744073709551616):∀ k,okW (Md.Ce.startL ws p l k)/\(Md.Ce.startL ws p l k).length=ws.length
 | 0=>⟨h,rfl⟩
 | k+1=>by
  obtain⟨h1,h2⟩:=aN0 h hl k;have hx:u64B (fixB (l.getD k 0):Int):=bk4 (by
   rw[zG]
   cases e:l[k]? with
   | none=>decide
   | some x=>exact hl x (List.mem_of_getElem? e))
  have z:u64B 0:=by unfold u64B;omega
  have a:=aG7 (i:=Md.Ce.placeI p k 0) h1 z;have b:=aG7 (i:=Md.Ce.placeI p k 1) a.1 hx;have c:=aG7 (i:=Md.Ce.placeI p k 2) b.1 z;exact⟨c.1,c.2.trans (b.2.trans (a.2.trans h2))⟩
theorem ar2 {s:Su} (hs:SuIn s):okW (aa6 s)/\((aa6 s).length:Int)=3+s.b+3*s.a:=by
 have hz:okW (List.replicate (3+s.b+3*s.a).toNat 0):=fun v hv=>by
  rw[(List.mem_replicate.1 hv).2];unfold u64B;omega
 have:=hs.b8;have:=hs.a256;unfold aa6 Md.Ce.startW
 split
 ·obtain⟨h1,h2⟩:=aN0 (p:=3+s.b) hz hs.st s.st.length
  refine⟨h1,?_⟩;rw[h2,List.length_replicate];omega
 ·refine⟨hz,?_⟩
  rw[List.length_replicate];omega
theorem bx8:∀ n,su (fun _=>0) n=0
 | 0=>rfl
 | n+1=>by show su (fun _=>0) n+0=0;rw[bx8 n]
theorem WI0 {s:Su} (hs:SuIn s):WI s (X0 s) :=
 ⟨rfl,rfl,rfl,(ar2 hs).1,(ar2 hs).2,fun t y _ h=>(by cases h),fun t _=>zV _,(bx8 _).symm,fun t y _ h=>(by cases h),fun i hi=>absurd hi (zI _),fun i hi=>absurd hi (zI _)⟩
section
variable {w:World} {s:Su} {p:Sp}
theorem bD2 (h:SuAt w s p) (he:¬ errS s=0):Calls Tryz.prog 28 #[.agg (suC s p)] w fun r w'=>r=.returned (.tuple #[.pointer none,.int .i64 (errS s)])/\Bl w w':=by
 have HB:=zH (at2 w s p);have HF:=zH (aJ7 (h.on HB.out.1));obtain⟨e,hee⟩:∃ e,errS s=e:=⟨_,rfl⟩
 rw[hee]at HF he ⊢;have heb:(e != 0)=true:=by simpa using he
 clear h hee he;go_enter Tryz.func28,Tryz.ntmps28
 go_wp2_with (go_at_call 63;refine HF.out.mono ?_;rintro r u1 ⟨rfl,q⟩;have H1:=zH q;clear q HF)
 go_ret2;exact⟨rfl,HB.out.1.trans (H1.out.mono HB.out.1.size)⟩
theorem bC3 {z:Array Value} {sz m k j:Nat} (hz:z.size=sz) (hk:k<m) (hj:j<sz):(madeCells z (m*sz))[k*sz+j]?=z[j]?:=by
 have hi:=b43 hk hj (zE _);have hm:(k*sz+j) % sz=j:=by rw[Nat.mul_comm,Nat.mul_add_mod,Nat.mod_eq_of_lt hj]
 rw[Array.getElem?_eq_getElem (by rw[size_madeCells];exact hi),Array.getElem?_eq_getElem (by omega)];simp only[madeCells,Array.getElem_map,Array.getElem_range,hz,hm];rw[getElem!_pos z j (by omega)]
theorem bJ5 (n:Nat) (hn:n<=8):∃ arr:Array Value,arr.size=n*3/\(∀ i j,i<n->j<3->arr[i*3+j]?=(#[Value.slice none 0 0,.int .i64 0,.int .i64 0]:Array Value)[j]?)/\∀ w:World,(Instr.makeSlice 88 (.int .i64 (n:Int)) (.int .i64 (n:Int))).run Tryz.prog w=.ok (.slice (some ⟨w.heap.size,0,none⟩) n n) (w.alloc (.cells arr 94)):=by
 have info:(Tryz.prog.info? 94).map (fun i=>(i.zero,i.size,i.bytes))=some (some (.agg #[.slice none 0 0,.int .i64 0,.int .i64 0]),3,40):=by kernel_rfl
 obtain⟨i,hi,hz0,hz1,hz2⟩:=info_parts info;refine⟨madeCells (Value.agg #[.slice none 0 0,.int .i64 0,.int .i64 0]).cells (n*i.size),by rw[size_madeCells,hz1],fun k j hk hj=>?_,fun w=>?_⟩
 ·rw[hz1]
  exact bC3 (z:=#[.slice none 0 0,.int .i64 0,.int .i64 0]) rfl hk hj
 ·rw[run_make w 88 94 i _ Tryz.underlying88 hi hz0 .i64 .i64 n n (by omega) (zW _) (by rw[hz2];omega) (by omega)]
  rw[Int.toNat_natCast]
end
theorem ag6 (ws:List Int) (i x:Int):(Md.poked ws i x).length=ws.length:=by
 unfold Md.poked
 split
 ·exact List.length_set ..
 ·rfl
theorem aG6 {ws:List Int} {i:Int} (x:Int) (h0:0<=i) (h1:i<(ws.length:Int)) (j:Int) (hj:0<=j):wordAt (Md.poked ws i x) j=if j=i then x else wordAt ws j:=by
 unfold Md.poked hasB;rw[if_pos (zT ⟨h0,h1⟩)];unfold wordAt;rw[zG,List.getElem?_set]
 by_cases e:j=i
 ·subst e
  rw[if_pos rfl,if_pos (by omega),if_pos rfl]
  rfl
 ·rw[if_neg (by omega),if_neg e,zG]
theorem ab5 {p c j:Int} (h:0<=p/\p<=4096):Md.Ce.placeI p c j=p+3*c+j:=if_pos h
theorem aX0 {N:Nat} {p:Int} {l:List Nat} (hp:0<=p/\p<=4096):∀ k:Nat,p+3*(k:Int)<=(N:Int)->(Md.Ce.startL (List.replicate N 0) p l k).length=N/\∀ j:Int,0<=j->wordAt (Md.Ce.startL (List.replicate N 0) p l k) j=if p<=j/\(j - p) % 3=1/\(j - p) / 3<(k:Int) then (fixB (l.getD ((j - p) / 3).toNat 0):Int) else 0
 | 0,_=>⟨List.length_replicate,fun j hj=>by
   rw[if_neg (by omega)]
   show wordAt (List.replicate N 0) j=0
   unfold wordAt;rw[zG,List.getElem?_replicate]
   split <;> rfl⟩
 | k+1,hk=>by
  obtain⟨h1,h2⟩:=aX0 (N:=N) (l:=l) hp k (by omega);obtain⟨ws,hws⟩:∃ ws,Md.Ce.startL (List.replicate N 0) p l k=ws:=⟨_,rfl⟩
  have e:Md.Ce.startL (List.replicate N 0) p l (k+1)=Md.poked (Md.poked (Md.poked ws (p+3*(k:Int)+0) 0) (p+3*(k:Int)+1) (fixB (l.getD k 0):Int)) (p+3*(k:Int)+2) 0:=by
   show Md.Ce.laidC (Md.Ce.startL (List.replicate N 0) p l k) p k (l.getD k 0)=_
   unfold Md.Ce.laidC;rw[hws,ab5 hp,ab5 hp,ab5 hp]
  rw[hws]at h1 h2;rw[e];refine⟨by rw[ag6,ag6,ag6,h1],fun j hj=>?_⟩;rw[aG6 _ (by omega) (by rw[ag6,ag6,h1];omega) j hj,aG6 _ (by omega) (by rw[ag6,h1];omega) j hj,aG6 _ (by omega) (by rw[h1];omega) j hj,h2 j hj]
  by_cases c2:j=p+3*(k:Int)+2
  ·rw[if_pos c2,if_neg (by omega)]
  ·rw[if_neg c2]
   by_cases c1:j=p+3*(k:Int)+1
   ·rw[if_pos c1,if_pos (by omega),show ((j - p) / 3).toNat=k by omega]
   ·rw[if_neg c1]
    by_cases c0:j=p+3*(k:Int)+0
    ·rw[if_pos c0,if_neg (by omega)]
    ·rw[if_neg c0]
     by_cases q:p<=j/\(j - p) % 3=1/\(j - p) / 3<(k:Int)
     ·rw[if_pos q,if_pos (by omega)]
     ·rw[if_neg q,if_neg (by omega)]
theorem ar1 {s:Su} (hs:SuIn s) (j:Int) (hj:0<=j):wordAt (aa6 s) j=if 3+s.b<=j/\(j - (3+s.b)) % 3=1/\(j - (3+s.b)) / 3<(s.st.length:Int) then (fixB (s.st.getD ((j - (3+s.b)) / 3).toNat 0):Int) else 0:=by
 have b8:=hs.b8;have a256:=hs.a256;have sl:=hs.sl;have e0:Md.Ce.startE (List.replicate (3+s.b+3*s.a).toNat 0) (3+s.b) s.st=0:=by
  unfold Md.Ce.startE;rw[if_neg (by omega),if_pos];rw[List.all_eq_true];intro i hi;have hi:=List.mem_range.1 hi;unfold Md.Ce.okP hasB;rw[ab5 ⟨by omega,by omega⟩,ab5 ⟨by omega,by omega⟩,ab5 ⟨by omega,by omega⟩,List.length_replicate]
  simp
  omega
 unfold aa6 Md.Ce.startW;rw[if_pos e0];exact(aX0 ⟨by omega,by omega⟩ _ (by omega)).2 j hj
def S0 (s:Su):List Nat:=(List.range s.a.toNat).map fun c=>fixB (s.st.getD c 0)
theorem bG4 {s:Su} (hs:SuIn s) (c:Nat):s.st.getD c 0<18446744073709551616:=by
 rw[zG]
 cases e:s.st[c]? with
 | none=>decide
 | some x=>exact hs.st x (List.mem_of_getElem? e)
theorem EI0 {s:Su} (hs:SuIn s):EI (E0 s) (fun _=>S0 s) 0:=by
 have b8:=hs.b8;have a256:=hs.a256;have nb:=hs.nb;refine EI.fresh (fun _=>rfl) (fun _=>rfl) rfl rfl hs.nb.symm (ar2 hs).2 (ar2 hs).1 (fun p p0 p1=>?_) (fun c c0 c1=>?_) ⟨?_,fun x hx=>?_⟩ (fun c c0 c1=>?_) (fun t j ht hj=>?_) ?_
 ·have p1:p<3+s.b:=p1
  show wordAt (aa6 s) p=0
  rw[ar1 hs p p0,if_neg (by omega)]
 ·have c1:c<s.a:=c1
  show wordAt (aa6 s) (3+s.b+3*c)=0
  rw[ar1 hs _ (by omega),if_neg (by omega)]
 ·show ((S0 s).length:Int)=s.a
  simp[S0]
  omega
 ·obtain⟨c,_,rfl⟩:=List.mem_map.1 hx
  exact a91 (bG4 hs c)
 ·have c1:c<s.a:=c1
  have e:Sx.getV (S0 s) c=fixB (s.st.getD c.toNat 0):=by
   unfold Sx.getV Sx.hasN S0
   simp[show c.toNat<s.a.toNat by omega,show 0<=c from c0,show c<max s.a 0 by omega]
  show fixB (wordAt (aa6 s) (3+s.b+3*c+1)).toNat=_
  rw[ar1 hs _ (by omega),e]
  by_cases q:c<(s.st.length:Int)
  ·rw[if_pos (by omega),show ((3+s.b+3*c+1 - (3+s.b)) / 3).toNat=c.toNat by omega,Int.toNat_natCast]
   exact(a91 (bG4 hs c.toNat)).1
  ·rw[if_neg (by omega),zG,List.getElem?_eq_none (by omega)]
   rfl
 ·have hj:j<(s.cs t).length:=hj
  obtain⟨n1,_⟩:=bn9 hs ht hj
  show bh5 ⟨s.a,s.b⟩ t (some (newT s t (s.call t j)))
  revert n1
  unfold newT
  split
  ·rintro⟨k1,k2,k3,k4,_⟩
   exact .inr ⟨_,rfl,k1,k2,k3,k4,rfl,rfl,rfl⟩
  ·rintro⟨k1,k2,k3,k4⟩
   exact .inl ⟨_,rfl,k1,k2,k3,k4,rfl,rfl,rfl⟩
 ·show su (fun t=>(s.cs t).length) s.n<=1000000
  have:=aN4 (f:=fun t=>(s.cs t).length) (m:=64) s.n (fun i _=>hs.few i);omega
theorem HA0 {s:Su} (hs:SuIn s):HA (X0 s).H (fun _=>S0 s) 0 (fun _=>0) (fun _=>0):=by
 obtain⟨h1,h2,h3⟩:=HI.fresh (H:=(X0 s).H) (EI0 hs) (fun _=>rfl) (fun _=>rfl) rfl rfl;have b8:=hs.b8;have a256:=hs.a256;refine⟨h1,h2,h3,fun i m x hi=>absurd hi (zI _),fun c c0 c1=>?_,fun t j m x ht hj e=>?_⟩
 ·have c1:c<s.a:=c1
  show okN (wordAt (aa6 s) (3+s.b+3*c+1)).toNat
  rw[ar1 hs _ (by omega)]
  split
  ·rw[Int.toNat_natCast]
   exact a91 (bG4 hs _)
  ·exact⟨by decide,by decide⟩
 ·have e:some (newT s t (s.call t j))=Tx.wr m x:=e
  have e:=Option.some.inj e;unfold newT at e
  split at e
  ·cases e
   rfl
  ·cases e
def HAE (H:Hs):Prop:=∃ S k pt ld,HA H S k pt ld
theorem bM5 {s:Su} {Z:Es} {t:Nat} (wi:WI s Z.X) (h:HAE Z.X.H) (ht:t<s.n):HAE (oneZ s Z t).X.H:=by
 unfold oneZ
 cases hf:finB Z.X.H.E t with
 | true=>exact h
 | false =>
  obtain⟨S,k,pt,ld,h⟩:=h;obtain⟨S',k',pt',ld',q,_⟩:=h.step (by rw[wi.n];exact ht) (zM hf);exact⟨S',k',pt',ld',q⟩
theorem aC0 {s:Su} (hs:SuIn s) {Z:Es} (wi:WI s Z.X) (h:HAE Z.X.H) {y:Nat->Nat}:∀ k,(∀ i,i<k->y i<s.n)->HAE (runZ s Z y k).X.H
 | 0,_=>h
 | k+1,hy=>bM5 (ai3 hs wi k (fun i hi=>hy i (by omega))).1 (aC0 hs wi h k (fun i hi=>hy i (by omega))) (hy k (by omega))
theorem bM4 {s:Su} {Z:Es} {t:Nat} (wi:WI s Z.X) (h:HAE Z.X.H) (ht:t<s.n):(oneZ s Z t).X.H.E=tryE Z.X.H.E t:=by
 unfold oneZ tryE
 cases hf:finB Z.X.H.E t with
 | true=>rw[if_pos rfl,if_pos (zP hf)]
 | false =>
  rw[if_neg (by simp),if_neg (zM hf)];obtain⟨S,k,pt,ld,h⟩:=h;exact(h.hi.step h.nd (by rw[wi.n];exact ht) (zM hf)).2.2.1
theorem bd7 {s:Su} (hs:SuIn s) {Z:Es} (wi:WI s Z.X) (h:HAE Z.X.H):∀ k,k<=s.n->(runZ s Z (fun i=>i) k).X.H.E=rndE Z.X.H.E k
 | 0,_=>rfl
 | k+1,hk=>by
  show (oneZ s (runZ s Z (fun i=>i) k) k).X.H.E=tryE (rndE Z.X.H.E k) k
  rw[bM4 (ai3 hs wi k (fun i hi=>by omega)).1 (aC0 hs wi h k (fun i hi=>by omega)) (by omega),bd7 hs wi h k (by omega)]
def TgOk:Ty->Prop
 | .inl (_,x)=>x.tag≠2
 | .inr (_,x)=>x.tag=2
structure TG (s:Su) (X:Rs):Prop where
 T:∀ t y,t<s.n->X.H.E.T t=some y->TgOk y
 D:∀ i,i<X.H.dn->TgOk (X.H.D i).tx
theorem bO2 (s:Su) (t:Nat) (x:Int × List Nat):TgOk (newT s t x):=by
 unfold newT
 split
 ·next h=>exact h
 ·next h=>exact h
theorem bO1 {s:Su} {t:Nat} {N:Int} {y:Ty} {ws:List Int} (h:TIn s t N y) (ho:a54 y=false) (hw:okW ws) (g:TgOk y):TgOk (goS y ws):=by
 rcases y with⟨m,x⟩ | ⟨m,x⟩
 ·have:=(step_in h.1 (zM ho) hw).2.1.tag
  show (a18 x ws).1.tag≠2
  rw[this];exact g
 ·have:=(aa3 h.1 (zM ho) hw).2.1.tag
  show (a16 x ws).1.tag=2
  rw[this];exact g
section
variable {s:Su} {Z:Es} {t:Nat}
theorem TG.came {X':Rs} {y:Ty} {T:Nat->Tx} {B at_:Nat->Nat} {D:Nat->Dd} {dn i:Nat} (c:Came Z.X X' t y T B at_ D dn i) (hT:∀ u y',u≠t->u<s.n->T u=some y'->TgOk y') (hD:∀ k,k≠i->k<dn->TgOk (D k).tx) (hy:TgOk (goS y Z.X.H.E.ws)):TG s X':=by
 refine⟨fun u y' hu q=>?_,fun k hk=>?_⟩
 ·rw[c.T]at q
  by_cases e:u=t
  ·subst e
   rw[a13]at q
   split at q
   ·cases q
   ·cases q
    exact hy
  ·rw[a24 _ _ e]at q
   exact hT u y' e hu q
 ·rw[c.dn]at hk
  rw[c.D]
  by_cases e:k=i
  ·subst e
   rw[a20];exact hy
  ·rw[a51 _ _ e]
   exact hD k e hk
theorem TG.one (hs:SuIn s) (wi:WI s Z.X) (g:TG s Z.X) (ht:t<s.n):TG s (oneZ s Z t).X:=by
 unfold oneZ
 cases hf:finB Z.X.H.E t with
 | true=>exact g
 | false =>
  show TG s (stepR Z.X t)
  have hf:=zM hf
  cases hT:Z.X.H.E.T t with
  | none =>
   have hl:=wi.less ht hf hT;obtain⟨n1,n2⟩:=bn9 hs ht hl;refine TG.came (au7 wi hT rfl) (fun u y' c hu q=>?_) (fun k c hk=>?_) (bO1 n1 n2 wi.ok (bO2 s t _))
   ·rw[a24 _ _ c]at q
    exact g.T u y' hu q
   ·rw[a51 _ _ c]
    exact g.D k (by omega)
  | some y =>
   obtain⟨n1,n2⟩:=wi.T t y ht hT;exact TG.came (ao0 hT) (fun u y' _ hu q=>g.T u y' hu q) (fun k _ hk=>g.D k hk) (bO1 n1 n2 wi.ok (g.T t y ht hT))
theorem tg0 (s:Su):TG s (X0 s):=⟨fun t y _ h=>(by cases h),fun i hi=>absurd hi (zI _)⟩
theorem TG.run (hs:SuIn s) (wi:WI s Z.X) (g:TG s Z.X) {y:Nat->Nat}:∀ k,(∀ i,i<k->y i<s.n)->TG s (runZ s Z y k).X
 | 0,_=>g
 | k+1,hy=>TG.one hs (ai3 hs wi k (fun i hi=>hy i (by omega))).1 (TG.run hs wi g k (fun i hi=>hy i (by omega))) (hy k (by omega))
theorem bw5 (hs:SuIn s) (wi:WI s Z.X) (hc:s.c<=100):∀ t j,t<Z.X.H.E.n->j<Z.X.H.E.nc t->ltT (Z.X.H.E.nx t j)<=510:=fun t j ht hj=>by
 rw[wi.n]at ht;rw[wi.nc]at hj;have hj:j<(s.cs t).length:=hj;have e:=(EI0 hs).new t j ht hj;have c3:=(Md.cfgB_iff.1 hs.cfg).2.2.1;have:=bo0 (f:=s.c) e ⟨fun m x q=>?_,fun m x q=>?_⟩ (by omega)
 ·rw[wi.nx]
  have e2:ltT ((E0 s).nx t j)=ltT (some (newT s t (s.call t j))):=rfl;rw[e2]at this
  show ltT (some (newT s t (s.call t j)))<=510
  omega
 ·have q:some (newT s t (s.call t j))=Tx.rd m x:=q
  have q:=Option.some.inj q;unfold newT at q
  split at q
  ·cases q
  ·cases q
   exact zW _
 ·have q:some (newT s t (s.call t j))=Tx.wr m x:=q
  have q:=Option.some.inj q;unfold newT at q
  split at q
  ·cases q
   exact zW _
  ·cases q
theorem bo7 (hs:SuIn s) (wi:WI s Z.X) (h:HAE Z.X.H) (hc:s.c<=100) (ht:t<s.n):leE 510 (oneZ s Z t).X.H.E<=leE 510 Z.X.H.E:=by
 rw[bM4 wi h ht];obtain⟨S,k,pt,ld,h⟩:=h;exact(h.hi.ei.try_less (bw5 hs wi hc) (by rw[wi.n];exact ht)).1
theorem aH1 (hs:SuIn s) (wi:WI s Z.X) (h:HAE Z.X.H) (hc:s.c<=100) {y:Nat->Nat}:∀ k,(∀ i,i<k->y i<s.n)->leE 510 (runZ s Z y k).X.H.E<=leE 510 Z.X.H.E
 | 0,_=>zE _
 | k+1,hy=>zQ (bo7 hs (ai3 hs wi k (fun i hi=>hy i (by omega))).1 (aC0 hs wi h k (fun i hi=>hy i (by omega))) hc (hy k (by omega))) (aH1 hs wi h hc k (fun i hi=>hy i (by omega)))
theorem b11 (hs:SuIn s) (wi:WI s Z.X) (h:HAE Z.X.H) (hc:s.c<=100) (hn:∃ t,t<s.n/\¬ finE Z.X.H.E t):leE 510 (runZ s Z (fun i=>i) s.n).X.H.E<leE 510 Z.X.H.E:=by
 rw[bd7 hs wi h s.n (zE _)];obtain⟨S,k,pt,ld,h⟩:=h;have:=h.hi.ei.round_less (bw5 hs wi hc) (by rw[wi.n];exact hn);rwa[wi.n]at this
def nCalls (s:Su) (k:Nat):Nat:=su (fun t=>(s.cs t).length) k
theorem bM0 (s:Su):leE 510 (Z0 s).X.H.E<=nCalls s s.n*510:=bC0 (E:=(Z0 s).X.H.E) fun _ _=>rfl
theorem aB8 (hs:SuIn s):nCalls s s.cl.length=nCalls s s.n:=by
 have hl:=hs.tl;have nb:=hs.nb;have:∀ k,s.cl.length<=k->nCalls s k=nCalls s s.cl.length:=fun k=>by
  induction k with
  | zero=>intro h;rw[show s.cl.length=0 by omega]
  | succ k ih =>
   intro h
   rcases Nat.lt_or_eq_of_le h with q | q
   ·have e:s.cs k=[]:=by
     unfold Su.cs;rw[zG,List.getElem?_eq_none (by omega)]
     rfl
    show nCalls s k+(s.cs k).length=_
    rw[e,ih (by omega)]
    rfl
   ·rw[q]
 exact(this s.n (by omega)).symm
theorem aG8 (wi:WI s Z.X) (h:HAE Z.X.H) (ho:∀ u,u<s.n->finE Z.X.H.E u):Z.X.H.dn=nCalls s s.n/\(∀ i,i<Z.X.H.dn->(Z.X.H.D i).en≠0)/\wordAt Z.X.H.E.ws 0=(cu (fun i=>isU (Z.X.H.D i).tx) Z.X.H.dn:Nat)/\wordAt Z.X.H.E.ws 1=(cu (fun i=>isU (Z.X.H.D i).tx) Z.X.H.dn:Nat)/\wordAt Z.X.H.E.ws 2=(cu (fun i=>comU (Z.X.H.D i).tx) Z.X.H.dn:Nat)/\(∀ t,t<s.n->wordAt Z.X.H.E.ws (3+(t:Int))=0)/\∀ c,0<=c->c<Z.X.H.E.C.a->Rr.verW Z.X.H.E.ws Z.X.H.E.C.b c<=wordAt Z.X.H.E.ws 2:=by
 obtain⟨S,k,pt,ld,h⟩:=h;obtain⟨h1,h2,h3,h4,h5,h6,h7⟩:=h.hi.quiet (by rw[wi.n];exact ho);rw[wi.n,wi.nc]at h1;rw[wi.n]at h6;exact⟨h1,h2,h3,h4,h5,h6,h7⟩
theorem aJ1 (wi:WI s Z.X) (g:TG s Z.X) {i:Nat} (hi:i<Z.X.H.dn) (he:(Z.X.H.D i).en≠0):(tagT (Z.X.H.D i).tx=2 ↔ isU (Z.X.H.D i).tx=true)/\endT (Z.X.H.D i).tx (macT (Z.X.H.D i).tx).how=(macT (Z.X.H.D i).tx).how/\(macT (Z.X.H.D i).tx).how≠0/\(isU (Z.X.H.D i).tx=true->((macT (Z.X.H.D i).tx).how=1 ↔ comU (Z.X.H.D i).tx=true))/\(isU (Z.X.H.D i).tx=false->comU (Z.X.H.D i).tx=false):=by
 obtain⟨_,d2,_,_,_,_,d7⟩:=wi.D i hi;have ov:=d7.2 he;have tg:=g.D i hi
 generalize (Z.X.H.D i).tx=y at *
 unfold endT;rw[ov]
 rcases y with⟨m,x⟩ | ⟨m,x⟩
 ·have p4:x.part=4:=zP ov
  exact⟨⟨fun q=>absurd q tg,fun q=>(by cases q)⟩,rfl,(d2.1.p3 (.inr p4)).1,fun q=>(by cases q),fun _=>rfl⟩
 ·have p9:x.part=9:=zP ov
  refine⟨⟨fun _=>rfl,fun _=>tg⟩,rfl,d2.1.fin (by omega),fun _=>?_,fun q=>(by cases q)⟩
  show x.m.how=1 ↔ comU (.inr (m,x))=true
  simp[comU,p9]
end
def Su.upto (s:Su) (i:Nat):Su:={ s with cl:=s.cl.take i }
theorem an5 (s:Su) (i t:Nat):(s.upto i).cs t=if t<i then s.cs t else []:=by
 show (s.cl.take i).getD t []=if t<i then s.cl.getD t [] else []
 rw[zG,List.getElem?_take]
 by_cases q:t<i
 ·rw[if_pos q,if_pos q,zG]
 ·rw[if_neg q,if_neg q];rfl
theorem aH6 {s:Su} {i:Nat} (h:s.cl.length<=i):s.upto i=s:=by
 unfold Su.upto;rw[List.take_of_length_le h]
def rdI (s:Su) (i:Nat):Sd.Rd:={ n:=s.n,g:=fun k=>decide (k<s.n) && !(decide (k<i) && decide ((s.cs k).length=0)),s:=Sd.noneF,o:=0 }
theorem bE4 {s:Su} {i:Nat} (hi:i<s.n):Alk (if (s.cs i).length=0 then Sd.finN (rdI s i) i else rdI s i) (rdI s (i+1)):=by
 have hg:(rdI s i).g i=true:=by
  show (decide (i<s.n) && !(decide (i<i) && _))=true
  rw[zT hi,zU (Nat.lt_irrefl i)]
  rfl
 have G:∀ k,k≠i->(rdI s (i+1)).g k=(rdI s i).g k:=fun k hk=>by
  show (decide (k<s.n) && !(decide (k<i+1) && _))=(decide (k<s.n) && !(decide (k<i) && _))
  rw[show decide (k<i+1)=decide (k<i) from decide_eq_decide.2 ⟨fun q=>by omega,fun q=>by omega⟩]
 by_cases q:(s.cs i).length=0
 ·rw[if_pos q]
  have gi:(rdI s (i+1)).g i=false:=by
   show (decide (i<s.n) && !(decide (i<i+1) && decide ((s.cs i).length=0)))=false
   rw[zT (Nat.lt_succ_self i),zT q]
   simp
  unfold Sd.finN;rw[if_pos hg];have no:Sd.overB { rdI s i with g:=Sd.putF (rdI s i).g i false,s:=Sd.putF (rdI s i).s i false }=false:=by
   rw[Bool.eq_false_iff];unfold Sd.overB;rw[Ne,Bool.and_eq_true,Sd.eq8_iff];rintro⟨z1,z2⟩;rw[Bool.not_eq_true',Bool.eq_false_iff]at z1
   apply z1
   refine(Sd.eq8_iff _ _).2 fun k hk=>?_
   have:=z2 k hk;rw[<- this]
   show (if k=i then false else false)=false
   simp
  unfold Sd.settleM;rw[no,if_neg Bool.false_ne_true];refine⟨rfl,rfl,fun k hk=>?_,fun k hk=>?_⟩
  ·show (if k=i then false else (rdI s i).g k)=_
   by_cases e:k=i
   ·rw[if_pos e,e,gi]
   ·rw[if_neg e,G k e]
  ·show (if k=i then false else false)=false
   simp
 ·rw[if_neg q]
  refine⟨rfl,rfl,fun k hk=>?_,fun k hk=>rfl⟩
  by_cases e:k=i
  ·rw[e,hg]
   show true=(decide (i<s.n) && !(decide (i<i+1) && decide ((s.cs i).length=0)))
   rw[zT hi,zU q]
   simp
  ·exact(G k e).symm
theorem bE3 (s:Su):Alk (rdI s s.n) (rdZ s (X0 s)):=by
 refine⟨rfl,rfl,fun k hk=>?_,fun k hk=>?_⟩
 ·show (decide (k<s.n) && !(decide (k<s.n) && decide ((s.cs k).length=0)))=(decide (k<s.n) && !finB (X0 s).H.E k)
  have e:finB (X0 s).H.E k=decide ((s.cs k).length=0):=by
   rw[aw8 rfl]
   show decide (0=(s.cs k).length)=_
   exact decide_eq_decide.2 ⟨fun q=>q.symm,fun q=>q.symm⟩
  rw[e]
  cases decide (k<s.n) <;> rfl
 ·show false=(decide (k<s.n) && (false && _))
  simp
section
variable {w w':World} {f:Ex} {v:Ev} {s:Su} {d:Ed} {i:Nat}
theorem EnAt.setK (h:EnAt w f v (s.upto i) d) (hi:i<s.n) (hil:i<s.cl.length) {R:List Nat} {gl:Nat} (k:Bl w w') (a:Abv w.heap.size R) (b:Blw w' R) (hR:∀ j,j<(s.cs i).length->ClIn w' R (some ⟨gl,0,none⟩) j ((s.cs i).getD j (0,[]))) {n c:Nat} (hn:(s.cs i).length=n) :
  EnAt (w'.setCell ⟨f.gc,i*3,none⟩ (.slice (some ⟨gl,0,none⟩) n c)) f { v with R:=R ++ v.R } (s.upto (i+1)) { d with cr:=updA d.cr i ((d.cr i).setIfInBounds 0 (.slice (some ⟨gl,0,none⟩) n c)) }/\Ext f v { v with R:=R ++ v.R } w (w'.setCell ⟨f.gc,i*3,none⟩ (.slice (some ⟨gl,0,none⟩) n c)):=by
 obtain⟨h1,x1⟩:=h.grow k a b;have hin:i<(s.upto i).n:=hi;have tt:Turn (own f { v with R:=R ++ v.R } 3) (own f { v with R:=R ++ v.R } 3) w' (w'.setCell ⟨f.gc,i*3,none⟩ (.slice (some ⟨gl,0,none⟩) n c)):=a28 w' f.gc _ _;have kk:=h1.but tt;have k5:=kk 5 (by omega);have A:=h1.crs.put hin (j:=0) (by omega) (.slice (some ⟨gl,0,none⟩) n c);have hsz:=h1.crs.sz i hin;refine⟨⟨h1.kBox (kk 0 (by omega)),h1.kMem (kk 1 (by omega)),h1.kRds (kk 2 (by omega)),A,h1.kTrn (kk 4 (by omega)),h1.tsz,⟨az4 h1.fx.tab k5 h1.fx.tin,h1.fx.tin,fun j hj=>(h1.fx.prg j hj).keep k5 fun _ q=>q,fun t ht=>?_⟩,fun _ _ e=>h1.kTx k5 e (kk _ (by omega)),h1.no,h1.kDl k5,h1.kBl k5,h1.apart⟩,x1.trans (aw6 h1 (by omega) tt)⟩;rw[an5]
 by_cases q:t=i
 ·subst q
  rw[if_pos (Nat.lt_succ_self _)];refine⟨some ⟨gl,0,none⟩,c,?_,fun j hj=>?_⟩
  ·dsimp only
   rw[a26,Array.getElem?_setIfInBounds_self_of_lt (by omega),hn]
  ·have e:(s.upto (t+1)).call t j=(s.cs t).getD j (0,[]):=by
    show ((s.upto (t+1)).cs t).getD j (0,[])=_
    rw[an5,if_pos (Nat.lt_succ_self _)]
   rw[e];exact(hR j hj).keep ⟨k5.1,fun z hz=>k5.2 z (List.mem_append.2 (.inl hz))⟩ fun z hz=>List.mem_append.2 (.inl hz)
 ·obtain⟨qa,qc,e1,e2⟩:=h1.fx.cls t ht
  rw[an5]at e1 e2;have ec:(if t<i then s.cs t else [])=(if t<i+1 then s.cs t else []):=by
   by_cases z:t<i
   ·rw[if_pos z,if_pos (by omega)]
   ·rw[if_neg z,if_neg (by omega)]
  rw[<- ec];refine⟨qa,qc,?_,fun j hj=>?_⟩
  ·dsimp only
   rw[a38 _ _ q];exact e1
  ·have e:(s.upto (i+1)).call t j=(s.upto i).call t j:=by
    show ((s.upto (i+1)).cs t).getD j (0,[])=((s.upto i).cs t).getD j (0,[])
    rw[an5,an5,ec]
   rw[e];exact(e2 j hj).keep k5 fun _ z=>z
end
structure Frs (B:Nat) (f:Ex) (v:Ev):Prop where
 own:∀ k∈fF f v,B<=k
 ro:∀ k∈v.R,k=1∨B<=k
section
variable {w w':World} {f:Ex} {v v':Ev} {s:Su} {d:Ed} {B i:Nat}
theorem Frs.ext (h:Frs B f v) (hB:B<=w.heap.size) (x:Ext f v v' w w'):Frs B f v'/\Below B w w' :=
 ⟨⟨fun k hk=>(x.turn.own k hk).elim (h.own k) (zQ hB),fun k hk=>(x.ro k hk).elim (h.ro k) (fun q=>.inr (zQ hB q))⟩,
  ⟨x.turn.os,x.turn.tape,x.turn.output,x.turn.size,fun k hk=>x.turn.block k (zL hk hB) fun q=>by have:=h.own k q;omega⟩⟩
def d0 (s:Su):Ed:=⟨0,aa6 s,0,rdI s 0,fun _=>#[.slice none 0 0,.int .i64 0,.int .i64 0],0,fun _=>#[],fun _=>none,fun _=>none⟩
def v0 (R:List Nat):Ev:=⟨none,0,fun _=>0,fun _=>[],1::R⟩
theorem aW9 (h:Shaped5 w):1<w.heap.size:=zK w _ (h.shp 0 (by decide)).1
theorem bj6 {b mb mg rb gc pp:Nat} {R:List Nat} (hb:w.heap[b]?=some (.cells (eBox s ⟨b,mb,mg,rb,gc,pp⟩ (v0 R) (d0 s)) 91 (0,0))) (hm:MemAt 145 w mb mg (aa6 s) false 0) (hr:Sd.RdAt w rb (Sd.newR s.n)) (hc:Arr w gc 94 3 s.n s.n (d0 s).cr) (hT:Shaped5 w) (hp:∀ i,i<s.pg.length->PgIn w R pp i (s.pg.getD i (0,[]))) (hR:Blw w R)
  (n1:b≠mb/\b≠mg/\b≠rb/\b≠gc/\mb≠rb/\mb≠gc/\mg≠rb/\mg≠gc/\rb≠gc) (n2:∀ k∈1::R,k≠b/\k≠mb/\k≠mg/\k≠rb/\k≠gc):EnAt w ⟨b,mb,mg,rb,gc,pp⟩ (v0 R) (s.upto 0) (d0 s):=by
 have C:∃ c:Nat->Nat,∀ i k,k∈own ⟨b,mb,mg,rb,gc,pp⟩ (v0 R) i->c k=i:=by
  refine⟨fun k=>if k=b then 0 else if k=mb∨k=mg then 1 else if k=rb then 2 else if k=gc then 3 else 5,fun i k hk=>?_⟩;dsimp only
  match i,hk with
  | 0,hk=>have e:k=b:=by simpa[own]using hk
        rw[if_pos e]
  | 1,hk=>have e:k=mb∨k=mg:=by simpa[own]using hk
        rw[if_neg (by omega),if_pos e]
  | 2,hk=>have e:k=rb:=by simpa[own]using hk
        rw[if_neg (by omega),if_neg (by omega),if_pos e]
  | 3,hk=>have e:k=gc:=by simpa[own]using hk
        rw[if_neg (by omega),if_neg (by omega),if_neg (by omega),if_pos e]
  | 4,hk=>simp[own,v0,fpR]at hk
  | 5,hk=>obtain⟨z0,z1,z2,z3,z4⟩:=n2 k hk
        rw[if_neg z0,if_neg (by omega),if_neg z3,if_neg z4]
  | t+6,hk=>simp[own,v0]at hk
 obtain⟨c,C⟩:=C;have al:Alk (Sd.newR s.n) (rdI s 0):=⟨rfl,rfl,fun k _=>by show decide (k<s.n)=(decide (k<s.n) && !(decide (k<0) && _));simp,fun _ _=>rfl⟩;refine⟨hb,⟨false,hm⟩,al.at_ hr,hc,World.ownsRow_nil _ _ _ _,fun i hi=>absurd hi (zI _),⟨hT,List.mem_cons_self ..,fun i hi=>(hp i hi).keep ⟨zE _,fun _ _=>rfl⟩ (fun k hk=>List.mem_cons_of_mem _ hk),fun t ht=>⟨none,0,?_,fun j hj=>?_⟩⟩,fun t y e=>(by cases e),fun _ _=>rfl,fun i D a m e=>(by cases e),fun k hk=>?_,fun i j hij k h1 h2=>hij ((C i k h1).symm.trans (C j k h2))⟩
 ·rw[an5,if_neg (zI _)]
  rfl
 ·rw[an5,if_neg (zI _)]at hj
  exact absurd hj (zI _)
 ·rcases List.mem_cons.1 hk with rfl | q
  ·exact aW9 hT
  ·exact hR k q
structure Beg (w:World) (f:Ex) (v:Ev) (s:Su) (d:Ed) (i B:Nat):Prop where
 en:EnAt w f v (s.upto i) d
 N:d.N=0
 ws:d.ws=aa6 s
 cnt:d.cnt=0
 rd:d.rd=rdI s i
 T:d.T=fun _=>none
 dn:d.dn=0
 lo:∀ t,t<i->∃ qa qc,d.cr t=#[.slice qa (s.cs t).length qc,.int .i64 0,.int .i64 (-1)]
 hi:∀ t,i<=t->d.cr t=#[.slice none 0 0,.int .i64 0,.int .i64 0]
 fr:Frs B f v
theorem beg0 {b mb mg rb gc pp:Nat} {R:List Nat} (h:EnAt w ⟨b,mb,mg,rb,gc,pp⟩ (v0 R) (s.upto 0) (d0 s)) (h1:B<=b/\B<=mb/\B<=mg/\B<=rb/\B<=gc) (h2:Abv B R):Beg w ⟨b,mb,mg,rb,gc,pp⟩ (v0 R) s (d0 s) 0 B:=by
 refine⟨h,rfl,rfl,rfl,rfl,rfl,rfl,fun t ht=>absurd ht (zI _),fun _ _=>rfl,⟨fun k hk=>?_,fun k hk=>?_⟩⟩
 ·obtain⟨j,_,_,hk⟩:=as4.1 hk
  match j,hk with
  | 0,hk=>have e:k=b:=by simpa[own]using hk
        omega
  | 1,hk=>have e:k=mb∨k=mg:=by simpa[own]using hk
        omega
  | 2,hk=>have e:k=rb:=by simpa[own]using hk
        omega
  | 3,hk=>have e:k=gc:=by simpa[own]using hk
        omega
  | 4,hk=>simp[own,v0,fpR]at hk
  | 5,hk=>omega
  | t+6,hk=>simp[own,v0]at hk
 ·rcases List.mem_cons.1 hk with q | q
  ·exact .inl q
  ·exact .inr (h2 k q)
theorem SuIn.upto (h:SuIn s) (i:Nat):SuIn (s.upto i) :=
 ⟨⟨h.st,h.pg,fun l hl=>h.cl l (List.mem_of_mem_take hl)⟩,h.cfg,h.sl,h.pl,by have:=h.tl;show (((s.cl.take i).length:Nat):Int)<=s.b;rw[List.length_take];omega,fun l hl=>h.ml l (List.mem_of_mem_take hl),fun l hl=>h.may l (List.mem_of_mem_take hl)⟩
theorem Beg.all (h:Beg w f v s d s.n B) (hs:SuIn s):Eng w f v s (Z0 s):=by
 have e:=h.en;rw[aH6 (by have:=hs.tl;have:=hs.nb;omega)]at e;have al:=bE3 s;rw[<- h.rd]at al;refine⟨⟨_,e.reRd al,⟨h.N,h.ws,h.cnt,rfl,h.T,h.dn,fun t ht=>?_,fun i hi=>absurd hi (zI _),fun i hi=>absurd hi (zI _)⟩⟩,WI0 hs,zE _⟩;obtain⟨qa,qc,q⟩:=h.lo t ht;exact⟨qa,qc,q⟩
theorem Beg.mark (h:Beg w f v s d i B) (hi:i<s.n):∃ d',EnAt (w.setCell ⟨f.gc,i*3+2,none⟩ (.int .i64 (-1))) f v (s.upto i) d'/\Ext f v v w (w.setCell ⟨f.gc,i*3+2,none⟩ (.int .i64 (-1)))/\d'={ d with cr:=updA d.cr i #[.slice none 0 0,.int .i64 0,.int .i64 (-1)] }:=by
 obtain⟨e,x⟩:=h.en.setC (t:=i) (j:=2) hi (by omega) (by omega) (.int .i64 (-1));rw[h.hi i (zE _)]at e;exact⟨_,e,x,rfl⟩
theorem Beg.next {w1:World} {v1:Ev} {d1:Ed} {qa:Option Addr} {qc:Nat} (h:Beg w f v s d i B) (hi:i<s.n) (hd:d1={ d with cr:=updA d.cr i #[.slice qa (s.cs i).length qc,.int .i64 0,.int .i64 (-1)] }) (fr:Frs B f v1) (e:EnAt w1 f v1 (s.upto (i+1)) { d1 with rd:=if finI 0 (-1) (s.cs i).length then Sd.finN d1.rd i else d1.rd }):Beg w1 f v1 s { d1 with rd:=rdI s (i+1) } (i+1) B:=by
 subst hd;have al:=bE4 (s:=s) hi;have ef:(if (s.cs i).length=0 then Sd.finN (rdI s i) i else rdI s i)=(if finI 0 (-1) (s.cs i).length then Sd.finN d.rd i else d.rd):=by
  rw[h.rd];unfold finI
  by_cases q:(s.cs i).length=0
  ·rw[if_pos q,if_pos (by simp;omega)]
  ·rw[if_neg q,if_neg (by simp;omega)]
 rw[ef]at al;refine⟨e.reRd al,h.N,h.ws,h.cnt,rfl,h.T,h.dn,fun t ht=>?_,fun t ht=>?_,fr⟩
 ·dsimp only
  by_cases q:t=i
  ·subst q
   rw[a26];exact⟨_,_,rfl⟩
  ·rw[a38 _ _ q]
   exact h.lo t (by omega)
 ·dsimp only
  rw[a38 _ _ (by omega)];exact h.hi t (by omega)
end
abbrev bxO (s:Su) (p4 n5:Int) (mb rb gc pp:Nat):Obj:=.cells #[.int .i64 s.a,.int .i64 s.b,.int .i64 s.c,.int .i64 s.e,.slice (some ⟨pp,0,none⟩) s.pg.length s.pg.length,.int .i64 0,.int .i64 1,.int .i64 2,.int .i64 3,.int .i64 p4,.int .i64 n5,.pointer (some ⟨mb,0,none⟩),.pointer (some ⟨rb,0,none⟩),.slice (some ⟨gc,0,none⟩) s.n s.n,.slice none 0 0,.int .i64 0] 91
structure Mde (u wc:World) (s:Su) (p4 n5:Int) (mb rb b gc pp:Nat) (R:List Nat):Prop where
 box:wc.heap[b]?=some (bxO s p4 n5 mb rb gc pp)
 crs:Arr wc gc 94 3 s.n s.n (d0 s).cr
 prg:∀ i,i<s.pg.length->PgIn wc R pp i (s.pg.getD i (0,[]))
 blw:Blw wc R
 abv:Abv u.heap.size R
 n1:gc∉R
 n2:b∉R
 l1:u.heap.size<=gc
 l2:u.heap.size<=b
 n3:b≠gc
 bel:Bl u wc
section
variable {u5 u6 v1:World} {s:Su} {p4 n5:Int} {mb rb pp:Nat} {R:List Nat} {arr0:Array Value}
theorem bT5 (hA:∀ u u':World,u'.heap[u.heap.size]?=some (.cells arr0 94 (0,0))->Arr u' u.heap.size 94 3 s.n s.n (d0 s).cr) (k6:Bl u5 u6) (r1:Abv u5.heap.size R) (r2:Blw u6 R) (r3:∀ j,j<s.pg.length->PgIn u6 R pp j (s.pg.getD j (0,[]))):Mde u5 ((u6.alloc (.cells arr0 94)).alloc (bxO s p4 n5 mb rb u6.heap.size pp)) s p4 n5 mb rb (u6.heap.size+1) u6.heap.size pp R:=by
 have b1:=below_alloc u6 (.cells arr0 94);have b2:=b1.alloc b1.size (bxO s p4 n5 mb rb u6.heap.size pp);have e1:(u6.alloc (.cells arr0 94)).heap.size=u6.heap.size+1:=by simp
 have x1:(u6.alloc (.cells arr0 94)).heap[u6.heap.size]?=some (.cells arr0 94 (0,0)):=zN _ _;have x2:((u6.alloc (.cells arr0 94)).alloc (bxO s p4 n5 mb rb u6.heap.size pp)).heap[u6.heap.size+1]?=some (bxO s p4 n5 mb rb u6.heap.size pp):=by rw[<- e1];exact zN _ _
 refine⟨x2,hA u6 _ ((Below.heap_alloc _ _ _ (lt_of_block x1)).trans x1),fun i hi=>(r3 i hi).keep (a30 b2 r2) fun _ q=>q,fun k hk=>zL (r2 k hk) b2.size,r1,fun q=>absurd (r2 _ q) (Nat.lt_irrefl _),fun q=>absurd (r2 _ q) (by omega),k6.size,by have:=k6.size;omega,by omega,k6.trans (b2.mono k6.size)⟩
theorem bT6 (hA:∀ u u':World,u'.heap[u.heap.size]?=some (.cells arr0 94 (0,0))->Arr u' u.heap.size 94 3 s.n s.n (d0 s).cr) (k5:Bl u5 v1) (hv:v1.heap[u5.heap.size]?=some (.cells arr0 94 (0,0))) (k6:Bl v1 u6) (r1:Abv v1.heap.size R) (r2:Blw u6 R) (r3:∀ j,j<s.pg.length->PgIn u6 R pp j (s.pg.getD j (0,[]))):Mde u5 (u6.alloc (bxO s p4 n5 mb rb u5.heap.size pp)) s p4 n5 mb rb u6.heap.size u5.heap.size pp R:=by
 have b2:=below_alloc u6 (bxO s p4 n5 mb rb u5.heap.size pp);have x2:(u6.alloc (bxO s p4 n5 mb rb u5.heap.size pp)).heap[u6.heap.size]?=some (bxO s p4 n5 mb rb u5.heap.size pp):=zN _ _;have l1:=lt_of_block hv;have l2:=k6.size;refine⟨x2,hA u5 _ ((b2.block _ (by omega)).trans ((k6.block _ l1).trans hv)),fun i hi=>(r3 i hi).keep (a30 b2 r2) fun _ q=>q,fun k hk=>zL (r2 k hk) b2.size,fun k hk=>by have:=r1 k hk;omega,fun q=>by have:=r1 _ q;omega,fun q=>absurd (r2 _ q) (Nat.lt_irrefl _),zE _,by omega,by omega,(k5.trans (k6.mono k5.size)).trans (b2.mono (by omega))⟩
end
section
variable {w w2:World} {f:Ex} {v:Ev} {s:Su} {d:Ed} {i B:Nat}
def Lai (w2:World) (f:Ex) (s:Su) (d:Ed) (i B:Nat):Prop:=∃ v1 qa qc,EnAt w2 f v1 (s.upto (i+1)) { d with cr:=updA d.cr i #[.slice qa (s.cs i).length qc,.int .i64 0,.int .i64 (-1)] }/\Frs B f v1
theorem bI1 (c:Nat->Array Value) (i:Nat) (x y:Array Value):updA (updA c i x) i y=updA c i y:=by
 funext k
 by_cases q:k=i
 ·rw[q,a26,a26]
 ·rw[a38 _ _ q,a38 _ _ q,a38 _ _ q]
theorem Beg.yes (h:Beg w f v s d i B) (hB:B<=w.heap.size) (hi:i<s.n) (hl:i<s.cl.length) {u:World} {R:List Nat} {gl:Nat} (k:Below (w.setCell ⟨f.gc,i*3+2,none⟩ (.int .i64 (-1))).heap.size (w.setCell ⟨f.gc,i*3+2,none⟩ (.int .i64 (-1))) u) (a:Abv (w.setCell ⟨f.gc,i*3+2,none⟩ (.int .i64 (-1))).heap.size R) (b:Blw u R) (hR:∀ j,j<(s.cs i).length->ClIn u R (some ⟨gl,0,none⟩) j ((s.cs i).getD j (0,[]))) :
  Lai (u.setCell ⟨f.gc,i*3,none⟩ (.slice (some ⟨gl,0,none⟩) (s.cs i).length (s.cs i).length)) f s d i B/\Below B w (u.setCell ⟨f.gc,i*3,none⟩ (.slice (some ⟨gl,0,none⟩) (s.cs i).length (s.cs i).length)):=by
 obtain⟨d1,e1,x1,hd⟩:=h.mark hi;obtain⟨e2,x2⟩:=e1.setK hi hl k a b hR rfl;obtain⟨f2,b2⟩:=h.fr.ext hB (x1.trans x2);subst hd;dsimp only at e2;rw[a26,bI1]at e2;exact⟨⟨_,_,_,e2,f2⟩,b2⟩
theorem Beg.no (h:Beg w f v s d i B) (hB:B<=w.heap.size) (hi:i<s.n) (hl:¬ i<s.cl.length):Lai (w.setCell ⟨f.gc,i*3+2,none⟩ (.int .i64 (-1))) f s d i B/\Below B w (w.setCell ⟨f.gc,i*3+2,none⟩ (.int .i64 (-1))):=by
 obtain⟨d1,e1,x1,hd⟩:=h.mark hi;obtain⟨f2,b2⟩:=h.fr.ext hB x1;subst hd;have e:s.upto i=s.upto (i+1):=by rw[aH6 (by omega),aH6 (by omega)]
 have c:s.cs i=[]:=by
  unfold Su.cs;rw[zG,List.getElem?_eq_none (by omega)]
  rfl
 rw[e]at e1;refine⟨⟨v,none,0,?_,f2⟩,b2⟩;rw[c];exact e1
theorem Lai.note (l:Lai w2 f s d i B) (h:Beg w f v s d i B) (hs:SuIn s) (hi:i<s.n) (hB:B<=w2.heap.size):Calls Tryz.prog 70 #[.pointer (some ⟨f.b,0,none⟩),.int .i64 (i:Int)] w2 fun r w3=>r=.returned (.tuple #[])/\Hid ((∃ v' d',Beg w3 f v' s d' (i+1) B)/\Below B w2 w3):=by
 obtain⟨v1,qa,qc,e,fr⟩:=l;refine(av6 e (hs.upto (i+1)) hi (by show d.rd.n=s.n;rw[h.rd];rfl) (by show d.rd.o<_;rw[h.rd];exact(by decide:0<9223372036854775807)) (a26 _ _ _)).mono ?_;rintro r w3 ⟨rfl,q⟩;obtain⟨f3,b3⟩:=fr.ext hB q.out.2;exact⟨rfl,⟨_,_,h.next hi rfl f3 q.out.1⟩,b3⟩
theorem Beg.reads (h:Beg w f v s d i B) (hi:i<s.n):w.cell? ⟨f.gc,i*3+2,none⟩=some (.int .i64 0)/\w.cell? ⟨f.gc,i*3,none⟩=some (.slice none 0 0)/\w.frozen? ⟨f.gc,i*3+2,none⟩=false/\w.frozen? ⟨f.gc,i*3,none⟩=false/\f.gc<w.heap.size:=by
 have c:=h.hi i (zE _);have e:∀ j,j<3->w.cell? ⟨f.gc,i*3+j,none⟩=(d.cr i)[j]?:=fun j hj=>h.en.crs.cell hi hj
 rw[c]at e;exact⟨(e 2 (by omega)).trans rfl,(e 0 (by omega)).trans rfl,h.en.crs.free _,h.en.crs.free _,h.en.crs.lt⟩
end
section
variable {w w':World} {f:Ex} {v:Ev} {s:Su} {d:Ed} {i:Nat}
theorem bw9 {p:Sp} (h:SuAt w s p) (hT:Shaped5 w) (he:errS s=0):Calls Tryz.prog 28 #[.agg (suC s p)] w fun r w'=>∃ f v,r=.returned (.tuple #[.pointer (some ⟨Ex.b f,0,none⟩),.int .i64 0])/\Hid (Eng w' f v s (Z0 s)/\Frs w.heap.size f v/\Bl w w'):=by
 have hs:=suIn h.ok he;have HS0:=zH hs;have HTT:=zH hT;have HB:=zH (at2 w s p);have HF:=zH (aJ7 (h.on HB.out.1));rw[he]at HF;have b8:=hs.b8;have a256:=hs.a256;have hnb:=hs.nb;have HX:Hid (∀ u,Below (w.alloc (suO s p)).heap.size (w.alloc (suO s p)) u->SuAt u s p/\u.heap[w.heap.size]?=some (suO s p)/\Bl w u):=fun u hu=>⟨(h.on HB.out.1).on hu,(hu.block _ (lt_of_block HB.out.2)).trans HB.out.2,HB.out.1.trans (hu.mono HB.out.1.size)⟩
 have HP:=zH (fun u=>Md.place_any s.a s.b s.c s.e u);simp only[hs.cfg]at HP;obtain⟨p4,hp4⟩:∃ p4,3+s.b=p4:=⟨_,rfl⟩
 obtain⟨n5,hn5⟩:∃ n5:Nat,p4+3*s.a=(n5:Int):=⟨(p4+3*s.a).toNat,by omega⟩
 rw[hp4,hn5]at HP;have HM:=zH (fun u=>Md.new_some n5 (by omega) (by omega) u);have HSD:=zH (fun u=>Sd.new_yes s.n (by omega) (by omega) u);rw[hnb]at HSD;have HST:Hid (∀ u mb mg,Below (w.alloc (suO s p)).heap.size (w.alloc (suO s p)) u->(w.alloc (suO s p)).heap.size<=mb->(w.alloc (suO s p)).heap.size<=mg->MemAt 145 u mb mg (List.replicate n5 0) false 0->Calls Tryz.prog 66 #[.pointer (some ⟨mb,0,none⟩),plV p4 (n5:Int),.slice p.ps s.st.length p.cs] u fun e w'=>e=.returned (.int .i64 (Md.Ce.startE (List.replicate n5 0) p4 s.st))/\MemAt 145 w' mb mg (aa6 s) false 0/\Chg mb mg u w'):=fun u mb mg hu h1 h2 hm=>by
  have e0:aa6 s=Md.Ce.startW (List.replicate n5 0) p4 s.st:=by unfold aa6;rw[hp4,hn5,Int.toNat_natCast]
  rw[e0];refine Md.Ce.start_any hm (fun k hk=>?_) 0 1 2 3 p4 n5;obtain⟨g,o,e,hg,c⟩:=(HX.out u hu).1.st k hk;obtain⟨g',o',e',hg',_⟩:=h.st k hk;have eg:g=g':=by rw[e]at e';injection e' with e';injection e'
  have hb:=HB.out.1.size;refine⟨g,o,e,hg,fun q=>?_,c⟩;simp only[List.mem_cons,List.not_mem_nil,or_false]at q;omega
 have HOP:Hid (∀ u,Below (w.alloc (suO s p)).heap.size (w.alloc (suO s p)) u->Calls Tryz.prog 68 #[.slice p.pp s.pg.length p.cp] u fun r w'=>∃ g,r=.returned (.slice (some ⟨g,0,none⟩) s.pg.length s.pg.length)/\Hid (∃ R,Abv u.heap.size R/\Blw w' R/\(∀ j,j<s.pg.length->PgIn w' R g j (s.pg.getD j (0,[])))/\Bl u w')):=fun u hu=>by
  refine(ay7 (HX.out u hu).1.pg hs.pl).mono ?_;rintro r w' ⟨g,rfl,q⟩;obtain⟨⟨P,C,q1⟩,q2⟩:=q.out;obtain⟨R,r1,r2,_,r4⟩:=q1.in_ (fun j hj=>by obtain⟨_,_,_,_,_,_,_,_,_,_,e⟩:=h.pg j hj;omega);exact⟨g,rfl,R,r1,r2,r4,q2⟩
 have HOC:Hid (∀ u i,Below (w.alloc (suO s p)).heap.size (w.alloc (suO s p)) u->i<s.cl.length->∃ g o qa c,p.pt=some ⟨g,o,none⟩/\g<u.heap.size/\g<w.heap.size/\u.cell? ⟨g,o+i,none⟩=some (.slice qa (s.cs i).length c)/\∀ u',Below (w.alloc (suO s p)).heap.size (w.alloc (suO s p)) u'->Calls Tryz.prog 69 #[.slice qa (s.cs i).length c] u' fun r w'=>∃ g,r=.returned (.slice (some ⟨g,0,none⟩) (s.cs i).length (s.cs i).length)/\Hid (∃ R,Abv u'.heap.size R/\Blw w' R/\(∀ j,j<(s.cs i).length->ClIn w' R (some ⟨g,0,none⟩) j ((s.cs i).getD j (0,[])))/\Bl u' w')):=fun u i hu hi=>by
  obtain⟨g,o,qa,c,e1,e2,e3,e4,e5⟩:=h.cl i hi;refine⟨g,o,qa,c,e1,zL e2 (HX.out u hu).2.2.size,e2,((HX.out u hu).2.2.cell (p:=⟨g,_,none⟩) e2).trans e3,fun u' hu'=>?_⟩;have hlen:=hs.few i;refine(aL2 (l:=s.cs i) (e4.on (HX.out u' hu').2.2) hlen (fun j hj=>?_)).mono ?_
  ·have m:=Su.csIn (s:=s) (t:=i) (j:=j) hj
   have:=hs.may _ m.1 _ m.2;unfold a68 at this;simp only[Bool.and_eq_true,decide_eq_true_eq]at this;exact this.2
  ·rintro r w' ⟨g,rfl,q⟩
   obtain⟨⟨P,C,q1⟩,q2⟩:=q.out;obtain⟨R,r1,r2,r4⟩:=q1.in_;exact⟨g,rfl,R,r1,r2,r4,q2⟩
 obtain⟨arr0,ha1,ha2,hmk⟩:=bJ5 s.n (by omega);rw[hnb]at hmk;have HAR:Hid (∀ u:World,∀ u',u'.heap[u.heap.size]?=some (.cells arr0 94 (0,0))->Arr u' u.heap.size 94 3 s.n s.n (d0 s).cr):=fun u u' hu=>⟨⟨arr0,hu,ha1,ha2⟩,zE _,fun _ _=>rfl⟩
 clear h he ha1 ha2 hs hT;go_enter Tryz.func28,Tryz.ntmps28
 go_upto_region 8 with(first
  | (go_at_call 67;refine(HSD.out _).mono ?_;rintro r u5 ⟨rfl,q1,q2⟩;have H5:Hid (Sd.RdAt u5 u4.heap.size (Sd.newR s.n)/\MemAt 145 u5 (u2.heap.size+1+1) (u2.heap.size+1) (aa6 s) false 0/\Below (w.alloc (suO s p)).heap.size (w.alloc (suO s p)) u5/\u5.heap[u2.heap.size]?=some (plO p4 (n5:Int))/\u2.heap.size+1+1<u4.heap.size/\(w.alloc (suO s p)).heap.size<=u2.heap.size/\u4.heap.size<u5.heap.size):=⟨q1,H4.out.1.on q2,H4.out.2.1.trans (q2.mono H4.out.2.1.size),(q2.block _ (lt_of_block H4.out.2.2.1)).trans H4.out.2.2.1,H4.out.1.ltB,H4.out.2.2.2,q1.lt⟩;clear q1 q2 HSD H4 s1)
  | (go_at_call 66;refine(HST.out u3 (u2.heap.size+1+1) (u2.heap.size+1) H3.out.2.1 (by have:=H3.out.2.2.2;omega) (by have:=H3.out.2.2.2;omega) H3.out.1).mono ?_;rintro r u4 ⟨rfl,q1,q2⟩;have H4:Hid (MemAt 145 u4 (u2.heap.size+1+1) (u2.heap.size+1) (aa6 s) false 0/\Below (w.alloc (suO s p)).heap.size (w.alloc (suO s p)) u4/\u4.heap[u2.heap.size]?=some (plO p4 (n5:Int))/\(w.alloc (suO s p)).heap.size<=u2.heap.size):=⟨q1,⟨q2.os.trans H3.out.2.1.os,q2.tape.trans H3.out.2.1.tape,q2.output.trans H3.out.2.1.output,zQ H3.out.2.1.size q2.size,fun j hj=>(q2.block j (zL hj H3.out.2.1.size) (by have:=H3.out.2.2.2;omega) (by have:=H3.out.2.2.2;omega)).trans (H3.out.2.1.block j hj)⟩,(q2.block _ (lt_of_block H3.out.2.2.1) (by omega) (by omega)).trans H3.out.2.2.1,H3.out.2.2.2⟩;clear q1 q2 HST H3 t0 t1 t2 t3 t4 t5 s4;obtain⟨_,s1,_,_,_,_,_,_⟩:=a43 (HX.out _ H4.out.2.1).2.1)
  | (go_at_call 65;refine(HM.out _).mono ?_;rintro r u3 ⟨rfl,q1,q2⟩;have e9:(u2.alloc (plO p4 (n5:Int))).heap.size=u2.heap.size+1:=(by simp);rw[e9]at q1 q2;have b9:Below (w.alloc (suO s p)).heap.size (w.alloc (suO s p)) (u2.alloc (plO p4 (n5:Int))):=H2.out.alloc H2.out.size _;have H3:Hid (MemAt 145 u3 (u2.heap.size+1+1) (u2.heap.size+1) (List.replicate n5 0) false 0/\Below (w.alloc (suO s p)).heap.size (w.alloc (suO s p)) u3/\u3.heap[u2.heap.size]?=some (plO p4 (n5:Int))/\(w.alloc (suO s p)).heap.size<=u2.heap.size):=⟨q1,b9.trans (q2.mono (by have:=b9.size;omega)),(q2.block _ (by omega)).trans (zN _ _),H2.out.size⟩;clear q1 q2 HM e9 b9;obtain⟨t0,t1,t2,t3,t4,t5⟩:=ab1 H3.out.2.2.1;obtain⟨_,_,_,_,s4,_,_,_⟩:=a43 (HX.out _ H3.out.2.1).2.1)
  | (go_at_call 64;refine(HP.out _).mono ?_;rintro r u2 ⟨rfl,q⟩;have H2:=zH (a07 H1.out q);clear q HP s0 s1 s2 s3 s4 s5 s6 s7)
  | (go_at_call 63;refine HF.out.mono ?_;rintro r u1 ⟨rfl,q⟩;have H1:=zH q;obtain⟨s0,s1,s2,s3,s4,s5,s6,s7⟩:=a43 (HX.out _ q).2.1;clear q HF))
 obtain⟨g2,hg2⟩:∃ g2,u2.heap.size=g2:=⟨_,rfl⟩
 obtain⟨g4,hg4⟩:∃ g4,u4.heap.size=g4:=⟨_,rfl⟩
 rw[hg2,hg4]at H5 ⊢;clear H1 H2 hg2 hg4
 go_cut [11] (fun v11 wc=>∃ b gc pp R,v11=.pointer (some ⟨b,0,none⟩)/\Hid (Mde u5 wc s p4 (n5:Int) (g2+1+1) g4 b gc pp R))
 case first =>
  have HSS:Hid (∀ u,Bl u5 u->(u.cell? ⟨w.heap.size,0,none⟩=some (.int .i64 s.a)/\u.cell? ⟨w.heap.size,1,none⟩=some (.int .i64 s.b)/\u.cell? ⟨w.heap.size,2,none⟩=some (.int .i64 s.c)/\u.cell? ⟨w.heap.size,3,none⟩=some (.int .i64 s.e)/\u.cell? ⟨w.heap.size,5,none⟩=some (.slice p.pp s.pg.length p.cp))/\u.cell? ⟨g2,0,none⟩=some (.int .i64 0)/\u.cell? ⟨g2,1,none⟩=some (.int .i64 1)/\u.cell? ⟨g2,2,none⟩=some (.int .i64 2)/\u.cell? ⟨g2,3,none⟩=some (.int .i64 3)/\u.cell? ⟨g2,4,none⟩=some (.int .i64 p4)/\u.cell? ⟨g2,5,none⟩=some (.int .i64 (n5:Int))):=fun u hu=>by
   obtain⟨s0,s1,s2,s3,_,s5,_,_⟩:=a43 (HX.out _ (a07 H5.out.2.2.1 hu)).2.1;exact⟨⟨s0,s1,s2,s3,s5⟩,ab1 ((hu.block _ (lt_of_block H5.out.2.2.2.1)).trans H5.out.2.2.2.1)⟩
  refine ar6 (fun u=>(u.cell? ⟨w.heap.size,0,none⟩=some (.int .i64 s.a)/\u.cell? ⟨w.heap.size,1,none⟩=some (.int .i64 s.b)/\u.cell? ⟨w.heap.size,2,none⟩=some (.int .i64 s.c)/\u.cell? ⟨w.heap.size,3,none⟩=some (.int .i64 s.e)/\u.cell? ⟨w.heap.size,5,none⟩=some (.slice p.pp s.pg.length p.cp))/\u.cell? ⟨g2,0,none⟩=some (.int .i64 0)/\u.cell? ⟨g2,1,none⟩=some (.int .i64 1)/\u.cell? ⟨g2,2,none⟩=some (.int .i64 2)/\u.cell? ⟨g2,3,none⟩=some (.int .i64 3)/\u.cell? ⟨g2,4,none⟩=some (.int .i64 p4)/\u.cell? ⟨g2,5,none⟩=some (.int .i64 (n5:Int))) [0,1,2,3,5,6,7,8,9,10] 4 [(11,false),(12,true),(13,false),(14,true)] 11 [(4,false),(12,true),(13,false),(14,true)] Md.Cv.follows13 (by kernel_rfl) (fun _ _ _ _ _ h=>h) (HSS.out _ ((Same.drew u5).below _)) ?_
  repeat (refine aC8 (v:=?_) rfl (by rfl) (fun wq hSq=>?_) ?_;rotate_left;(focus ((try dsimp only at hSq);go_simp;try with_reducible rfl));simp only[Act.put,zA,zB,zC])
  refine aO1 ?_ ?_
  ·(refine a04 rfl (by rfl) (fun KK hK=>?_);go_simp)
   refine(HOP.out _ (H5.out.2.2.1.trans ((Same.drew u5).below _))).mono ?_;rintro r u6 ⟨pp,rfl,q⟩;obtain⟨R,r1,r2,r3,r4⟩:=q.out;have k6:Bl u5 u6:=((Same.drew u5).below _).trans r4;refine hK.out _ _ (HSS.out _ k6) ?_
   (clear hK KK;try simp only[Act.put,zA,zB,zC])
   (refine a04 rfl (by rfl) (fun KK hK=>?_);go_simp)
   refine hK.out _ _ (HSS.out _ (k6.alloc k6.size _)) ?_
   (clear hK KK;try simp only[Act.put,zA,zB,zC])
   (repeat ((first | (refine a02 (v:=?_) rfl (by rfl) (fun wq hSq=>?_) ?_;rotate_left;(focus ((try dsimp only at hSq);go_simp;try with_reducible rfl))) | refine a03 rfl (by rfl) ?_);simp only[Act.put,zA,zB,zC]))
   (refine a04 rfl (by rfl) (fun KK hK=>?_);go_simp)
   have k7:=k6.alloc k6.size (.cells arr0 94);refine hK.out _ _ (HSS.out _ (k7.alloc k7.size _)) ?_
   (clear hK KK;try simp only[Act.put,zA,zB,zC])
   (repeat ((first | (refine a02 (v:=?_) rfl (by rfl) (fun wq hSq=>?_) ?_;rotate_left;(focus ((try dsimp only at hSq);go_simp;try with_reducible rfl))) | refine a03 rfl (by rfl) ?_);simp only[Act.put,zA,zB,zC]))
   refine a17 ?_;have HH:=zH (bT5 (p4:=p4) (n5:=(n5:Int)) (mb:=g2+1+1) (rb:=g4) HAR.out k6 r1 r2 r3);go_wp2_with fail
   go_meet
   exact⟨_,_,_,R,rfl,HH.out⟩
  ·(refine a04 rfl (by rfl) (fun KK hK=>?_);go_simp)
   obtain⟨v1,hv1⟩:∃ v1,v1=(u5.alloc (.cells arr0 94)).drew:=⟨_,rfl⟩
   have k5:Bl u5 v1:=by rw[hv1];exact(below_alloc _ _).trans ((Same.drew _).below _)
   have x5:v1.heap[u5.heap.size]?=some (.cells arr0 94 (0,0)):=by rw[hv1];exact zN _ _
   rw[<- hv1];clear hv1;refine hK.out _ _ (HSS.out _ k5) ?_
   (clear hK KK;try simp only[Act.put,zA,zB,zC])
   (refine a04 rfl (by rfl) (fun KK hK=>?_);go_simp)
   refine(HOP.out _ (a07 H5.out.2.2.1 k5)).mono ?_;rintro r u6 ⟨pp,rfl,q⟩;obtain⟨R,r1,r2,r3,r4⟩:=q.out;have k6:Bl u5 u6:=k5.trans (r4.mono k5.size);refine hK.out _ _ (HSS.out _ k6) ?_
   (clear hK KK;try simp only[Act.put,zA,zB,zC])
   (repeat ((first | (refine a02 (v:=?_) rfl (by rfl) (fun wq hSq=>?_) ?_;rotate_left;(focus ((try dsimp only at hSq);go_simp;try with_reducible rfl))) | refine a03 rfl (by rfl) ?_);simp only[Act.put,zA,zB,zC]))
   (refine a04 rfl (by rfl) (fun KK hK=>?_);go_simp)
   refine hK.out _ _ (HSS.out _ (k6.alloc k6.size _)) ?_
   (clear hK KK;try simp only[Act.put,zA,zB,zC])
   (repeat ((first | (refine a02 (v:=?_) rfl (by rfl) (fun wq hSq=>?_) ?_;rotate_left;(focus ((try dsimp only at hSq);go_simp;try with_reducible rfl))) | refine a03 rfl (by rfl) ?_);simp only[Act.put,zA,zB,zC]))
   refine a17 ?_;have HH:=zH (bT6 (p4:=p4) (n5:=(n5:Int)) (mb:=g2+1+1) (rb:=g4) HAR.out k5 x5 r4 r1 r2 r3);go_wp2_with fail
   go_meet
   exact⟨_,_,_,R,rfl,HH.out⟩
 case rest =>
  obtain⟨b,gc,pp,R,rfl,HMD⟩:=hcut;obtain⟨W0,hW0⟩:∃ W0,W0=w.alloc (suO s p):=⟨_,rfl⟩
  rw[<- hW0]at HX HB HOC H5;have HBG:Hid (Beg wc ⟨b,g2+1+1,g2+1,g4,gc,pp⟩ (v0 R) s (d0 s) 0 W0.heap.size/\Bl W0 wc):=by
   have m:=HMD.out;obtain⟨z1,z2,z3,z4,z5,z6,z7⟩:=H5.out;have l1:=m.l1;have l2:=m.l2;have lz:=z3.size;have hsh:Shaped5 wc:=(HTT.out.on HB.out.1).on (a07 z3 m.bel);have gv:1<w.heap.size:=aW9 HTT.out;have lw:=HB.out.1.size;refine⟨beg0 (bj6 ?_ (z2.on m.bel) (z1.on m.bel) m.crs hsh m.prg m.blw ?_ ?_) (by omega) (fun k hk=>by have:=m.abv k hk;omega),a07 z3 m.bel⟩
   ·rw[m.box]
    unfold eBox;dsimp only;rw[hp4,hn5]
    rfl
   ·have:=m.n3
    omega
   ·intro k hk
    rcases List.mem_cons.1 hk with rfl | q
    ·omega
    ·have:=m.abv k q
     have e1:k≠b:=fun e=>m.n2 (e ▸ q)
     have e2:k≠gc:=fun e=>m.n1 (e ▸ q)
     omega
  have HCC:Hid (∀ u v d i,Beg u ⟨b,g2+1+1,g2+1,g4,gc,pp⟩ v s d i W0.heap.size->Bl W0 u->u.cell? ⟨b,13,none⟩=some (.slice (some ⟨gc,0,none⟩) s.n s.n)/\u.cell? ⟨w.heap.size,6,none⟩=some (.slice p.pt s.cl.length p.ct)/\b<u.heap.size/\w.heap.size<u.heap.size):=fun u v d i h1 h2=>by
   obtain⟨_,_,_,_,_,_,c6,c7⟩:=a43 (HX.out u h2).2.1;exact⟨(h1.en.cell 13).trans rfl,c6,h1.en.ltB,c7⟩
  have hn8:(s.n:Int)<=8:=by omega
  have hcl:s.cl.length<=s.n:=by have:=HS0.out.tl;omega
  obtain⟨k13,k6,lb,ls⟩:=HCC.out _ _ _ _ HBG.out.1 HBG.out.2;clear H5 HOP HAR hmk HMD HTT hn5 hp4;go_wp2_with fail;clear k13 k6 lb ls
  go_loopw [61] (fun v61 wr=>∃ i:Nat,v61=.int .i64 (i:Int)/\i<=s.n/\Hid (∃ v d,Beg wr ⟨b,g2+1+1,g2+1,g4,gc,pp⟩ v s d i W0.heap.size/\Bl W0 wr)) (fun v61 _=>s.n - (intOf v61).toNat)
  case atStart=>exact⟨0,rfl,zV _,_,_,HBG.out⟩
  case round =>
   obtain⟨i,rfl,hin,HR⟩:=hrel;clear HBG;obtain⟨v,d,h1,h2⟩:=HR.out;have H1:=zH (And.intro h1 h2);obtain⟨k13,k6,lb,ls⟩:=HCC.out _ _ _ _ h1 h2
   by_cases hi:i<s.n
   ·have hi':(i:Int)<(s.n:Int):=by omega
    obtain⟨y1,y2,y3,y4,y5⟩:=h1.reads hi;dsimp only at y1 y2 y3 y4 y5;obtain⟨w1,hw1⟩:∃ w1,w1=wr.setCell ⟨gc,i*3+2,none⟩ (.int .i64 (-1)):=⟨_,rfl⟩
    have HL:Hid (∀ u,Bl w1 u->(u.cell? ⟨b,13,none⟩=some (.slice (some ⟨gc,0,none⟩) s.n s.n)/\u.cell? ⟨w.heap.size,6,none⟩=some (.slice p.pt s.cl.length p.ct))/\u.cell? ⟨gc,i*3,none⟩=some (.slice none 0 0)/\u.frozen? ⟨gc,i*3,none⟩=false/\gc<u.heap.size/\b<u.heap.size/\w.heap.size<u.heap.size/\Bl W0 u):=fun u hu=>by
     obtain⟨d1,e1,x1,hd1⟩:=h1.mark hi;have e1':EnAt w1 ⟨b,g2+1+1,g2+1,g4,gc,pp⟩ v (s.upto i) d1:=by rw[hw1];exact e1
     have bw:Bl W0 w1:=by rw[hw1];exact h2.trans (h1.fr.ext h2.size x1).2
     have eu:=e1'.on hu;have bu:=bw.trans (hu.mono bw.size);obtain⟨_,_,_,_,_,_,c6,c7⟩:=a43 (HX.out u bu).2.1;have ec:=eu.crs.cell (i:=i) (j:=0) hi (by omega);rw[hd1]at ec;dsimp only at ec;rw[a26]at ec;exact⟨⟨(eu.cell 13).trans rfl,c6⟩,ec.trans rfl,eu.crs.free _,eu.crs.lt,eu.ltB,c7,bu⟩
    have HNF:Hid (∀ w2,Lai w2 ⟨b,g2+1+1,g2+1,g4,gc,pp⟩ s d i W0.heap.size/\Below W0.heap.size wr w2->Calls Tryz.prog 70 #[.pointer (some ⟨b,0,none⟩),.int .i64 (i:Int)] w2 fun r w3=>r=.returned (.tuple #[])/\Hid (∃ v' d',Beg w3 ⟨b,g2+1+1,g2+1,g4,gc,pp⟩ v' s d' (i+1) W0.heap.size/\Bl W0 w3)):=fun w2 q=>by
     have b2:=h2.trans q.2;refine(q.1.note h1 HS0.out hi b2.size).mono ?_;rintro r w3 ⟨rfl,z⟩;obtain⟨⟨v',d',z1⟩,z2⟩:=z.out;exact⟨rfl,v',d',z1,b2.trans z2⟩
    by_cases hl:i<s.cl.length
    ·have hl':(i:Int)<(s.cl.length:Int):=by omega
     have HY:Hid (∀ u R gl,Bl w1 u->Abv w1.heap.size R->Blw u R->(∀ j,j<(s.cs i).length->ClIn u R (some ⟨gl,0,none⟩) j ((s.cs i).getD j (0,[])))->Lai (u.setCell ⟨gc,i*3,none⟩ (.slice (some ⟨gl,0,none⟩) (s.cs i).length (s.cs i).length)) ⟨b,g2+1+1,g2+1,g4,gc,pp⟩ s d i W0.heap.size/\Below W0.heap.size wr (u.setCell ⟨gc,i*3,none⟩ (.slice (some ⟨gl,0,none⟩) (s.cs i).length (s.cs i).length))):=by
      intro u R gl z1 z2 z3 z4;rw[hw1]at z1 z2;exact h1.yes h2.size hi hl z1 z2 z3 z4
     obtain⟨g,o,qa,c,ep,hg,hgw,c0,HCL0⟩:=HOC.out w1 i (HL.out w1 (zF _ _)).2.2.2.2.2.2 hl;have HCL:=zH HCL0;have HTC:Hid (∀ u,Bl w1 u->u.cell? ⟨g,o+i,none⟩=some (.slice qa (s.cs i).length c)/\g<u.heap.size):=fun u hu=>⟨(hu.cell (p:=⟨g,_,none⟩) hg).trans c0,zL hg hu.size⟩
     obtain⟨m,hm⟩:∃ m,(s.cs i).length=m:=⟨_,rfl⟩
     rw[hm]at HY HTC HCL;have HMM:=zH hm;rw[ep]at HL k6;clear h1 h2 HCL0 c0 hg hgw hm
     go_upto_region 13 with fail
     rw[<- hw1];clear hw1 k13 k6 lb ls y1 y2 y3 y4 y5;obtain⟨⟨k13,k6⟩,y2,y4,y5,lb,ls,_⟩:=HL.out w1 (zF _ _);obtain⟨c0,hg⟩:=HTC.out w1 (zF _ _)
     go_upto_region 14 with fail
     refine a35 (fun u=>u.cell? ⟨b,13,none⟩=some (.slice (some ⟨gc,0,none⟩) s.n s.n)/\u.cell? ⟨w.heap.size,6,none⟩=some (.slice (some ⟨g,o,none⟩) s.cl.length p.ct)/\u.cell? ⟨g,o+i,none⟩=some (.slice qa m c) )  ((0,true)::(1,true)::(2,true)::(3,true)::(4,true)::(5,true)::(6,true)::(7,true)::(8,true)::(9,true)::(10,false)::(11,true)::(12,true)::(13,false)::[])  Md.Cv.follows13 (by kernel_rfl) (fun _ _ _ _ _ h=>h)  ⟨k13,k6,c0⟩ ?_
     (repeat (refine a27 (v:=?_) rfl (by rfl) (fun wq hSq=>?_) ?_;rotate_left;(focus ((try dsimp only at hSq);go_simp;try with_reducible rfl));simp only[Act.put,zA,zB,zC]))
     (refine a25 rfl (by rfl) (fun KK hK=>?_);go_simp)
     refine(HCL.out _ ((HL.out w1 (zF _ _)).2.2.2.2.2.2.trans ((Same.drew w1).below _))).mono ?_;rintro r u2 ⟨gl,rfl,q⟩;obtain⟨R',r1,r2,r3,r4⟩:=q.out;have k2:Bl w1 u2:=((Same.drew w1).below _).trans r4;have HQ:=zH (HY.out u2 R' gl k2 r1 r2 r3);refine hK.out _ _ (fun _=>⟨(HL.out u2 k2).1.1,(HL.out u2 k2).1.2,(HTC.out u2 k2).1⟩) ?_;clear k13 k6 y2 y4 y5 lb ls c0 hg;obtain⟨_,y2,y4,y5,lb,ls,_⟩:=HL.out u2 k2
     (clear hK KK;try simp only[Act.put,zA,zB,zC])
     (repeat (refine a27 (v:=?_) rfl (by rfl) (fun wq hSq=>?_) ?_;rotate_left;(focus ((try dsimp only at hSq);go_simp;try with_reducible rfl));simp only[Act.put,zA,zB,zC]))
     (refine a25 rfl (by rfl) (fun KK hK=>?_);go_simp)
     refine hK.out _ _ (fun hn=>absurd rfl hn) ?_
     (clear hK KK;try simp only[Act.put])
     refine a64 ?_
     go_wp2_with (go_at_call 70;refine(HNF.out _ HQ.out).mono ?_;rintro r u3 ⟨rfl,q⟩;have H3:=zH q.out;clear q)
     exact⟨⟨i+1,by first | rfl | (congr 1),by omega,H3.out⟩,by simp[intOf];omega⟩
    ·have hl':¬ (i:Int)<(s.cl.length:Int):=by omega
     have HQ:Hid (Lai w1 ⟨b,g2+1+1,g2+1,g4,gc,pp⟩ s d i W0.heap.size/\Below W0.heap.size wr w1):=by rw[hw1];exact h1.no h2.size hi hl
     clear h1 h2
     go_upto_region 13 with fail
     rw[<- hw1];clear hw1 k13 k6 lb ls y1 y2 y3 y4 y5;obtain⟨⟨k13,k6⟩,y2,y4,y5,lb,ls,_⟩:=HL.out w1 (zF _ _)
     go_wp2_with (go_at_call 70;refine(HNF.out _ HQ.out).mono ?_;rintro r u3 ⟨rfl,q⟩;have H3:=zH q.out;clear q)
     exact⟨⟨i+1,by first | rfl | (congr 1),by omega,H3.out⟩,by simp[intOf];omega⟩
   ·have hi':¬ (i:Int)<(s.n:Int):=by omega
    have e:i=s.n:=by omega
    have HZ:Hid (Eng wr ⟨b,g2+1+1,g2+1,g4,gc,pp⟩ v s (Z0 s)/\Frs w.heap.size ⟨b,g2+1+1,g2+1,g4,gc,pp⟩ v/\Bl w wr):=by
     subst e;have l:=HB.out.1.size;exact⟨h1.all HS0.out,⟨fun k hk=>zQ l (h1.fr.own k hk),fun k hk=>(h1.fr.ro k hk).imp id (zQ l)⟩,(HX.out _ h2).2.2⟩
    clear h1 h2;go_wp2_with fail;go_ret2;exact⟨⟨b,g2+1+1,g2+1,g4,gc,pp⟩,rfl,v,HZ.out⟩
end
def Cpy (B:Nat) (w':World) (e:TypeId) (sz:Nat) (p:Option Addr) (n c:Nat):Prop:=(p=none/\n=0/\c=0)∨∃ g arr,p=some ⟨g,0,none⟩/\B<=g/\w'.heap[g]?=some (.cells arr e (0,0))/\arr.size=c*sz/\n<=c
theorem b40 {t e ty:TypeId} {i:TypeInfo} {z:Value} (ht:Tryz.prog.underlying t=some (.slice e)) (hi:Tryz.prog.info? e=some i) (hz:i.zero=some z) (hzs:z.cells.size=i.size) {w:World} {news:List Value} {n:Nat} {x:Value} (hs:Src Tryz.prog i.size t x n news w) (hb:n*i.bytes<=140737488355328) (h63:n<=9223372036854775807) :
  ∃ v w',(Builtin.append_ #[t,t] ty #[.slice none 0 0,x]).run Tryz.prog w=.ok v w'/\∃ p c,v=.slice p n c/\Cpy w.heap.size w' e i.size p n c/\Ro w' p news/\Bl w w':=by
 by_cases h0:n=0
 ·subst h0
  have hn:news=[]:=by have:=hs.newsLen;simpa using this
  refine⟨.slice none 0 0,w,?_,none,0,rfl,.inl ⟨rfl,rfl,rfl⟩,by rw[hn];exact Ro.nil w,zF _ _⟩
  simp[Builtin.append_,run_underlying ht,sizeOf,typeInfo,hi,hs.len,hs.cells,hn]
 ·have hold:(Builtin.firstCells i.size 0 (.slice none 0 0)).run Tryz.prog w.drew=.ok ([]:List Value).toArray w.drew:=run_firstCells_none _ _ _ _ _
  refine⟨_,_,run_append_grow_src w t t ty e i z ht hi hz none 0 0 [] hold x n news hs (by omega) (by omega) (growslice_fits (by omega) (by simpa using hb)),some ⟨w.heap.size,0,none⟩,grownCap w (0+n) 0 e,by rw[Nat.zero_add],.inr ⟨w.heap.size,_,rfl,zE _,a90 (w:=w.drew) (g:=w.heap.size) rfl,?_,by have:=grownCap_ge w (0+n) 0 e;omega⟩,.inr ⟨_,_,rfl,fun j v hv=>?_⟩,((Same.drew w).below _).trans (below_alloc w.drew _)⟩
  ·have hg:=grownCap_ge w (0+n) 0 e
   have hl:=hs.newsLen;rw[Array.size_append,size_zeroCells,hzs,List.size_toArray,List.nil_append,hl,<- Nat.add_mul,show n+(grownCap w (0+n) 0 e - (0+n))=grownCap w (0+n) 0 e by omega]
  ·have hj:=(List.getElem?_eq_some_iff.1 hv).1
   refine(zR _ w.heap.size (0+j) _ _ _ (a90 (w:=w.drew) (g:=w.heap.size) rfl)).trans ?_;rw[Nat.zero_add,Array.getElem?_append_left (by simpa using hj)]
   simpa using hv
theorem Cpy.mono {B B':Nat} {w:World} {e:TypeId} {sz n c:Nat} {p:Option Addr} (h:Cpy B w e sz p n c) (k:B'<=B):Cpy B' w e sz p n c:=by
 rcases h with h | ⟨g,arr,h1,h0,h2⟩
 ·exact .inl h
 ·exact .inr ⟨g,arr,h1,zQ k h0,h2⟩
theorem bE9 {w:World} {p:Option Addr} {cs:List Ins} (h:Ro w p (cs.flatMap insC)):a36 w p cs:=by
 rcases h with⟨rfl,h⟩ | ⟨g,o,rfl,h⟩
 ·have:cs=[]:=by
   have:=congrArg List.length h;rw[aF2]at this;exact List.eq_nil_of_length_eq_zero (by simp only[List.length_nil]at this;omega)
  subst this;intro i hi
  simp at hi
 ·cases cs with
  | nil=>intro i hi;simp at hi
  | cons i cs=>exact aJ0 (zK w _ (h 0 _ rfl)) h
def Kt (T:TypeId) (w w':World):Prop:=w.heap.size<=w'.heap.size/\∀ (g:Nat) (arr:Array Value) (U:TypeId),U≠T->w.heap[g]?=some (.cells arr U (0,0))->w'.heap[g]?=some (.cells arr U (0,0))
theorem Kt.of_below {T:TypeId} {w w':World} (k:Bl w w'):Kt T w w':=⟨k.size,fun g _ _ _ h=>(k.block g (lt_of_block h)).trans h⟩
theorem Cpy.kt {B:Nat} {w w':World} {T e:TypeId} {sz n c:Nat} {p:Option Addr} (h:Cpy B w e sz p n c) (k:Kt T w w') (hT:e≠T):Cpy B w' e sz p n c/\Kept (fpR p) w w':=by
 rcases h with⟨rfl,h⟩ | ⟨g,arr,rfl,h0,h2,h3⟩
 ·exact⟨.inl ⟨rfl,h⟩,k.1,fun i hi=>by simp[fpR]at hi⟩
 ·have e:=k.2 g arr _ hT h2
  refine⟨.inr ⟨g,arr,rfl,h0,e,h3⟩,k.1,fun i hi=>?_⟩;obtain rfl:i=g:=by simpa[fpR]using hi
  rw[e,h2]
def CFl (B:Nat) (w:World) (l:List Nat) (x:Option Addr × Nat):Prop:=Cpy B w 71 1 x.1 l.length x.2/\FlAt w x.1 l
def CCd (B:Nat) (w:World) (l:List Ins) (x:Option Addr × Nat):Prop:=Cpy B w 133 3 x.1 l.length x.2/\a36 w x.1 l
theorem CFl.kt {B:Nat} {w w':World} {T:TypeId} {l:List Nat} {x:Option Addr × Nat} (h:CFl B w l x) (k:Kt T w w') (hT:71≠T):CFl B w' l x:=by
 obtain⟨h1,h2⟩:=h.1.kt k hT;exact⟨h1,b77 h.2 h2⟩
theorem CCd.kt {B:Nat} {w w':World} {T:TypeId} {l:List Ins} {x:Option Addr × Nat} (h:CCd B w l x) (k:Kt T w w') (hT:133≠T):CCd B w' l x:=by
 obtain⟨h1,h2⟩:=h.1.kt k hT;exact⟨h1,ao6 h.2 h2⟩
structure Rw (B:Nat) (w:World) (T:TypeId) (sz:Nat) (x:Option Addr × Nat) (k:Nat) (r:Nat->Option Addr × Nat->Array Value) (S:World->Nat->Option Addr × Nat->Prop) (e:Nat->Option Addr × Nat):Prop where
 own:w.ownsRow B T sz (.slice x.1 k x.2) k (ae4 (fun j=>r j (e j)) k)
 sub:∀ j,j<k->S w j (e j)
section
variable {B:Nat} {w w':World} {T:TypeId} {sz k:Nat} {x:Option Addr × Nat} {r:Nat->Option Addr × Nat->Array Value} {S:World->Nat->Option Addr × Nat->Prop} {e:Nat->Option Addr × Nat}
theorem aW7 (B:Nat) (w:World) (T:TypeId) (sz:Nat) (r:Nat->Option Addr × Nat->Array Value) (S:World->Nat->Option Addr × Nat->Prop) (e:Nat->Option Addr × Nat):Rw B w T sz (none,0) 0 r S e:=⟨World.ownsRow_nil _ _ _ _,fun _ hj=>absurd hj (zI _)⟩
theorem Rw.kt {U:TypeId} (h:Rw B w T sz x k r S e) (q:Kt U w w') (hT:T≠U) (hS:∀ j y,S w j y->S w' j y):Rw B w' T sz x k r S e:=by
 refine⟨⟨h.own.1,?_⟩,fun j hj=>hS j _ (h.sub j hj)⟩
 rcases h.own.2 with z | ⟨g,cap,cur,hv,hb,hg,rest⟩
 ·exact .inl z
 ·exact .inr ⟨g,cap,cur,hv,hb,q.2 g _ _ hT hg,rest⟩
theorem Rw.app (h:Rw B w T sz x k r S e) (hr:∀ j y,(r j y).size=sz/\∀ u∈(r j y).toList,u.oneCell'=true) (hS:∀ w' j y,Kt T w w'->S w j y->S w' j y) {t:TypeId} {i:TypeInfo} {z:Value} {bytes:Nat} (ht:Tryz.prog.underlying t=some (.slice T)) (hi:Tryz.prog.info? T=some i) (hz:i.zero=some z) (hsize:i.size=sz) (hby:i.bytes=bytes) (hzs:z.cells.size=sz) (hsz:0<sz)
  {y:Option Addr × Nat} (hy:S w k y) {gx:Nat} (hx:w.heap[gx]?=some (.cells (r k y) T (0,0))) (h63:k+1<=maxLen) (hb:(k+1)*bytes<=140737488355328) (hB:B<=w.heap.size) (ty:TypeId) :
  ∃ v w',(Builtin.append_ #[t,t] ty #[.slice x.1 k x.2,.slice (some ⟨gx,0,none⟩) 1 1]).run Tryz.prog w=.ok v w'/\∃ g c,v=.slice (some ⟨g,0,none⟩) (k+1) c/\(∃ e',Rw B w' T sz (some ⟨g,0,none⟩,c) (k+1) r S e')/\Below B w w'/\Kt T w w'/\∀ g,g<w.heap.size->g∉fpR x.1->w'.heap[g]?=w.heap[g]?:=by
 obtain⟨v,w',h1,h2,h3,h4,h5⟩:=run_append_own_at (P:=Tryz.prog) (w:=w) B t ty T i z sz bytes ht hi hz hsize hby hzs hsz (.slice x.1 k x.2) k _ h.own ⟨gx,0,none⟩ 1 1 (r k y).toList (by rw[Array.length_toList,(hr k y).1,Nat.one_mul]) (fun j u hu=>by
  rw[zJ,zR _ _ _ _ _ _ hx,Nat.zero_add]
  simpa using hu) (hr k y).2 h63 hb hB
 have ko:∀ (g:Nat) (arr:Array Value) (U:TypeId),U≠T->w.heap[g]?=some (.cells arr U (0,0))->w'.heap[g]?=some (.cells arr U (0,0)):=fun g arr U hU hg=>by
  refine(h3.block g (lt_of_block hg) (fun q=>?_)).trans hg
  rcases h.own.2 with⟨z,_⟩ | ⟨g',cap,cur,hv,hb,hg',rest⟩
  ·rw[z]at q;cases q
  ·rw[hv]at q
   simp[Value.ownBlock]at q
   subst q;rw[hg]at hg';injection hg' with hg';injection hg' with _ hg';exact hU hg'
 have kt:Kt T w w':=⟨h3.size,ko⟩;have bl:Below B w w':=⟨h3.os,h3.tape,h3.output,h3.size,fun j hj=>h3.block j (zL hj hB) (fun q=>by
  rcases h.own.2 with⟨z,_⟩ | ⟨g',cap,cur,hv,hb,hg',rest⟩
  ·rw[z]at q;cases q
  ·rw[hv]at q
   simp[Value.ownBlock]at q
   omega)⟩
 have hf:ae4 (fun j=>r j (e j)) k ++ (r k y).toList=ae4 (fun j=>r j ((fun j=>if j=k then y else e j) j)) (k+1):=by
  show _=ae4 (fun j=>r j (if j=k then y else e j)) k ++ (r k (if k=k then y else e k)).toList
  rw[if_pos rfl,as3 (f:=fun j=>r j (e j)) (f':=fun j=>r j (if j=k then y else e j)) k (fun i hi=>by show r i (e i)=r i (if i=k then y else e i);rw[if_neg (by omega)])]
 rw[hf]at h2
 rcases h2.2 with⟨_,q⟩ | ⟨g,cap,cur,hv,rest⟩
 ·omega
 ·refine⟨v,w',h1,g,cap,hv,⟨fun j=>if j=k then y else e j,by rw[hv]at h2;exact h2,fun j hj=>hS w' j _ kt ?_⟩,bl,kt,fun g hg hn=>h3.block g hg fun q=>hn (a42.2 q.symm)⟩
  by_cases q:j=k
  ·rw[if_pos q,q];exact hy
  ·rw[if_neg q];exact h.sub j (by omega)
theorem Rw.cell (h:Rw B w T sz x k r S e) (hr:∀ j y,(r j y).size=sz) {i:Nat} (hi:i<k):∃ g,x.1=some ⟨g,0,none⟩/\B<=g/\g<w.heap.size/\∀ j,j<sz->w.cell? ⟨g,i*sz+j,none⟩=(r i (e i))[j]?:=by
 obtain⟨g,c,hv,_,A⟩:=bv6 ⟨h.own.1,h.own.2.imp id (fun ⟨g,cap,cur,hv,hb,rest⟩=>⟨g,cap,cur,hv,zV _,rest⟩)⟩ (by omega) (fun j _=>hr j _)
 rcases h.own.2 with⟨_,q⟩ | ⟨g',cap,cur,hv',hb,hg,_⟩
 ·omega
 ·rw[hv]at hv'
  injection hv' with e1 _ _;injection e1 with e1;injection e1 with e1;subst e1;injection hv with e2 _ _;exact⟨g,e2,hb,A.lt,fun j hj=>A.cell hi hj⟩
end
def rP (l:List (Int × List Ins)) (j:Nat) (x:Option Addr × Nat):Array Value:=#[.int .i64 (l.getD j (0,[])).1,.slice x.1 (l.getD j (0,[])).2.length x.2]
def rC (l:List (Int × List Nat)) (j:Nat) (x:Option Addr × Nat):Array Value:=#[.int .i64 (l.getD j (0,[])).1,.slice x.1 (l.getD j (0,[])).2.length x.2]
def rT (l:List (List (Int × List Nat))) (j:Nat) (x:Option Addr × Nat):Array Value:=#[.slice x.1 (l.getD j []).length x.2]
def SP (B:Nat) (l:List (Int × List Ins)) (w:World) (j:Nat) (x:Option Addr × Nat):Prop:=CCd B w (l.getD j (0,[])).2 x
def SC (B:Nat) (l:List (Int × List Nat)) (w:World) (j:Nat) (x:Option Addr × Nat):Prop:=CFl B w (l.getD j (0,[])).2 x
def ST (B:Nat) (l:List (List (Int × List Nat))) (w:World) (j:Nat) (x:Option Addr × Nat):Prop:=∃ e,Rw B w 138 2 x (l.getD j []).length (rC (l.getD j [])) (SC B (l.getD j [])) e
theorem bb2 (l:List (Int × List Ins)) (j:Nat) (x:Option Addr × Nat):(rP l j x).size=2/\∀ u∈(rP l j x).toList,u.oneCell'=true:=⟨rfl,fun u hu=>by simp[rP]at hu;rcases hu with rfl | rfl <;> rfl⟩
theorem bb1 (l:List (Int × List Nat)) (j:Nat) (x:Option Addr × Nat):(rC l j x).size=2/\∀ u∈(rC l j x).toList,u.oneCell'=true:=⟨rfl,fun u hu=>by simp[rC]at hu;rcases hu with rfl | rfl <;> rfl⟩
theorem bb3 (l:List (List (Int × List Nat))) (j:Nat) (x:Option Addr × Nat):(rT l j x).size=1/\∀ u∈(rT l j x).toList,u.oneCell'=true:=⟨rfl,fun u hu=>by simp[rT]at hu;subst hu;rfl⟩
section
variable {B:Nat} {w w':World} {T:TypeId}
theorem SP.kt {l:List (Int × List Ins)} {j:Nat} {x:Option Addr × Nat} (h:SP B l w j x) (k:Kt T w w') (hT:133≠T):SP B l w' j x:=CCd.kt h k hT
theorem SC.kt {l:List (Int × List Nat)} {j:Nat} {x:Option Addr × Nat} (h:SC B l w j x) (k:Kt T w w') (hT:71≠T):SC B l w' j x:=CFl.kt h k hT
theorem ST.kt {l:List (List (Int × List Nat))} {j:Nat} {x:Option Addr × Nat} (h:ST B l w j x) (k:Kt T w w') (h1:71≠T) (h2:138≠T):ST B l w' j x:=by
 obtain⟨e,q⟩:=h;exact⟨e,q.kt k h2 fun j y z=>SC.kt z k h1⟩
structure SuNw (B:Nat) (w:World) (s:Su) (p:Sp):Prop where
 st:CFl B w s.st (p.ps,p.cs)
 pg:∃ e,Rw B w 136 2 (p.pp,p.cp) s.pg.length (rP s.pg) (SP B s.pg) e
 cl:∃ e,Rw B w 59 1 (p.pt,p.ct) s.cl.length (rT s.cl) (ST B s.cl) e
structure SuSz (s:Su):Prop where
 st:s.st.length*8<=140737488355328
 pg:s.pg.length*32<=140737488355328
 cd:∀ p∈s.pg,p.2.length*24<=140737488355328
 cl:s.cl.length*24<=140737488355328
 ca:∀ l∈s.cl,l.length*32<=140737488355328
 ar:∀ l∈s.cl,∀ x∈l,x.2.length*8<=140737488355328
theorem Cpy.pln {e:TypeId} {sz n c:Nat} {p:Option Addr} (h:Cpy B w e sz p n c):Pln p n c:=by
 rcases h with h | ⟨g,_,h,_⟩
 ·exact .inl h
 ·exact .inr ⟨g,0,none,h⟩
theorem ac6 {α:Type} {l:List α} {i:Nat} (d:α) (h:i<l.length):l.getD i d∈l:=by
 rw[zG,List.getElem?_eq_getElem h];exact List.getElem_mem _
theorem SuNw.at_ {s:Su} {p:Sp} (h:SuNw B w s p) (ok:SuOk s) (z:SuSz s):SuAt w s p:=by
 obtain⟨e1,h1⟩:=h.pg;obtain⟨e2,h2⟩:=h.cl;refine⟨h.st.2,fun i hi=>?_,fun i hi=>?_,by have:=z.st;omega,by have:=z.pg;omega,by have:=z.cl;omega,ok⟩
 ·obtain⟨g,q1,_,q2,q3⟩:=h1.cell (fun j y=>(bb2 _ j y).1) hi
  have s1:=h1.sub i hi;have:=z.cd _ (ac6 (0,[]) hi);exact⟨g,0,(e1 i).1,(e1 i).2,q1,q2,by rw[Nat.zero_add];exact(q3 0 (by omega)).trans rfl,by rw[Nat.zero_add];exact(q3 1 (by omega)).trans rfl,s1.2,s1.1.pln,by omega⟩
 ·obtain⟨g,q1,_,q2,q3⟩:=h2.cell (fun j y=>(bb3 _ j y).1) hi
  obtain⟨e3,s1⟩:=h2.sub i hi;have:=z.ca _ (ac6 [] hi);refine⟨g,0,(e2 i).1,(e2 i).2,q1,q2,by rw[Nat.zero_add];have:=(q3 0 (by omega));rw[Nat.mul_one]at this;exact this.trans rfl,fun j hj=>?_,by omega⟩;obtain⟨g',r1,_,r2,r3⟩:=s1.cell (fun j y=>(bb1 _ j y).1) hj;have s2:=s1.sub j hj;have:=z.ar _ (ac6 [] hi) _ (ac6 (0,[]) hj);exact⟨g',0,(e3 j).1,(e3 j).2,r1,r2,by rw[Nat.zero_add];exact(r3 0 (by omega)).trans rfl,by rw[Nat.zero_add];exact(r3 1 (by omega)).trans rfl,s2.2,s2.1.pln,by omega⟩
end
structure Spl (B:Nat) (w0 w u:World):Prop where
 os:u.os=w.os
 tape:u.tape=w.tape
 output:u.output=w.output
 size:w.heap.size<=u.heap.size
 out:∀ k,k<w.heap.size->k<B∨w0.heap.size<=k->u.heap[k]?=w.heap[k]?
 row:∀ k T arr,B<=k->w0.heap[k]?=some (.cells arr T (0,0))->∃ arr',u.heap[k]?=some (.cells arr' T (0,0))/\arr'.size=arr.size/\(T=136->arr'=arr)/\(T=59->arr'=arr)/\(T=138->∀ j,arr'[j*2+1]?=arr[j*2+1]?)
section
variable {B:Nat} {w0 w u u':World}
theorem Spl.refl (k:Bl w0 w):Spl B w0 w w:=⟨rfl,rfl,rfl,zE _,fun _ _ _=>rfl,fun g _ arr _ h=>⟨arr,(k.block g (lt_of_block h)).trans h,rfl,fun _=>rfl,fun _=>rfl,fun _ _=>rfl⟩⟩
theorem Spl.on (h:Spl B w0 w u) (k:Bl u u'):Spl B w0 w u' :=
 ⟨k.os.trans h.os,k.tape.trans h.tape,k.output.trans h.output,zQ h.size k.size,fun g hg q=>(k.block g (zL hg h.size)).trans (h.out g hg q),fun g T arr hB e=>by
  obtain⟨arr',e1,e2⟩:=h.row g T arr hB e;exact⟨arr',(k.block g (lt_of_block e1)).trans e1,e2⟩⟩
theorem Spl.put (h:Spl B w0 w u) {g j:Nat} {T:TypeId} {arr:Array Value} (v:Value) (hB:B<=g) (hg:w0.heap[g]?=some (.cells arr T (0,0))) (h1:T≠136) (h2:T≠59) (h3:T=138->j % 2=0):Spl B w0 w (u.setCell ⟨g,j,none⟩ v):=by
 refine⟨h.os,h.tape,h.output,by simpa using h.size,fun k hk q=>?_,fun k U a hk e=>?_⟩
 ·have:=lt_of_block hg
  exact(zO _ _ _ _ (show k≠g by omega)).trans (h.out k hk q)
 ·obtain⟨arr',e1,e2,e3,e4,e5⟩:=h.row k U a hk e
  by_cases q:k=g
  ·subst q
   rw[e]at hg;injection hg with hg;injection hg with hg1 hg2;subst hg1 hg2;refine⟨_,zS u k j _ _ v e1,by simpa using e2,fun z=>absurd z h1,fun z=>absurd z h2,fun z i=>?_⟩;have:=h3 z;rw[Array.getElem?_setIfInBounds_ne (by omega)];exact e5 z i
  ·exact⟨arr',(zO _ _ _ _ q).trans e1,e2,e3,e4,e5⟩
end
section
variable {B:Nat} {w:World} {T:TypeId} {sz k:Nat} {x:Option Addr × Nat} {r:Nat->Option Addr × Nat->Array Value} {S:World->Nat->Option Addr × Nat->Prop} {e:Nat->Option Addr × Nat}
theorem Rw.blk (h:Rw B w T sz x k r S e) (hr:∀ j y,(r j y).size=sz) (hk:0<k):∃ g arr,x.1=some ⟨g,0,none⟩/\B<=g/\w.heap[g]?=some (.cells arr T (0,0))/\k*sz<=arr.size/\∀ i j,i<k->j<sz->arr[i*sz+j]?=(r i (e i))[j]?:=by
 obtain⟨g,h1,h2,h3,h4⟩:=h.cell hr hk
 rcases h.own.2 with⟨_,q⟩ | ⟨g',cap,cur,hv',hb,hg,hc,_,hs,_⟩
 ·omega
 ·injection hv' with e1 _ _
  rw[h1]at e1;injection e1 with e1;injection e1 with e1;subst e1;refine⟨g,cur,h1,h2,hg,by rw[hs];exact Nat.mul_le_mul_right _ hc,fun i j hi hj=>?_⟩;obtain⟨g2,z1,_,_,z4⟩:=h.cell hr hi;rw[h1]at z1;injection z1 with z1;injection z1 with z1;subst z1;rw[<- z4 j hj,zR w g _ _ _ _ hg]
theorem Cpy.blk {n c:Nat} {p:Option Addr} (h:Cpy B w T sz p n c) (hn:0<n):∃ g arr,p=some ⟨g,0,none⟩/\B<=g/\w.heap[g]?=some (.cells arr T (0,0))/\n*sz<=arr.size:=by
 rcases h with⟨_,h,_⟩ | ⟨g,arr,h1,h0,h2,h3,h4⟩
 ·omega
 ·exact⟨g,arr,h1,h0,h2,by rw[h3];exact Nat.mul_le_mul_right _ h4⟩
end
section
variable {B:Nat} {w0 w u:World} {s:Su} {p:Sp}
theorem Spl.spot (h:Spl B w0 w u) {g j:Nat} {T:TypeId} {arr:Array Value} (hB:B<=g) (hg:w0.heap[g]?=some (.cells arr T (0,0))) (hj:j<arr.size):(∃ v,u.cell? ⟨g,j,none⟩=some v)/\u.frozen? ⟨g,j,none⟩=false/\g<u.heap.size:=by
 obtain⟨arr',e1,e2,_⟩:=h.row g T arr hB hg;refine⟨?_,zZ u g _ _ _ e1,lt_of_block e1⟩;rw[zR u g _ _ _ _ e1];exact⟨_,Array.getElem?_eq_getElem (by omega)⟩
theorem Spl.prog (h:Spl B w0 w u) (q:SuNw B w0 s p) {i:Nat} (hi:i<s.pg.length):∃ g po c,p.pp=some ⟨g,0,none⟩/\g<u.heap.size/\u.cell? ⟨g,i*2,none⟩=some (.int .i64 (s.pg.getD i (0,[])).1)/\u.cell? ⟨g,i*2+1,none⟩=some (.slice po (s.pg.getD i (0,[])).2.length c)/\CCd B w0 (s.pg.getD i (0,[])).2 (po,c):=by
 obtain⟨e,q1⟩:=q.pg;obtain⟨g,arr,r1,r2,r3,r4,r5⟩:=q1.blk (fun j y=>(bb2 _ j y).1) (by omega);obtain⟨arr',e1,e2,e3,_⟩:=h.row g _ arr r2 r3;rw[e3 rfl]at e1;exact⟨g,(e i).1,(e i).2,r1,lt_of_block e1,by rw[zR u g _ _ _ _ e1];exact(r5 i 0 hi (by omega)).trans rfl,by rw[zR u g _ _ _ _ e1];exact(r5 i 1 hi (by omega)).trans rfl,q1.sub i hi⟩
theorem Spl.thread (h:Spl B w0 w u) (q:SuNw B w0 s p) {i:Nat} (hi:i<s.cl.length):∃ g po c,p.pt=some ⟨g,0,none⟩/\g<u.heap.size/\u.cell? ⟨g,i,none⟩=some (.slice po (s.cl.getD i []).length c)/\ST B s.cl w0 i (po,c):=by
 obtain⟨e,q1⟩:=q.cl;obtain⟨g,arr,r1,r2,r3,r4,r5⟩:=q1.blk (fun j y=>(bb3 _ j y).1) (by omega);obtain⟨arr',e1,e2,_,e4,_⟩:=h.row g _ arr r2 r3;rw[e4 rfl]at e1;refine⟨g,(e i).1,(e i).2,r1,lt_of_block e1,?_,q1.sub i hi⟩;rw[zR u g _ _ _ _ e1];have:=r5 i 0 hi (by omega);rw[Nat.mul_one]at this;exact this.trans rfl
theorem bz3 {l:List (List (Int × List Nat))} {i:Nat} {y:Option Addr × Nat} (q:ST B l w0 i y) {j:Nat} (hj:j<(l.getD i []).length):∃ g arr po c,y.1=some ⟨g,0,none⟩/\B<=g/\w0.heap[g]?=some (.cells arr 138 (0,0))/\j*2+2<=arr.size/\arr[j*2+1]?=some (.slice po ((l.getD i []).getD j (0,[])).2.length c)/\CFl B w0 ((l.getD i []).getD j (0,[])).2 (po,c):=by
 obtain⟨e,q1⟩:=q;obtain⟨g,arr,r1,r2,r3,r4,r5⟩:=q1.blk (fun j y=>(bb1 _ j y).1) (by omega);exact⟨g,arr,(e j).1,(e j).2,r1,r2,r3,by omega,(r5 j 1 hj (by omega)).trans rfl,q1.sub j hj⟩
theorem Spl.odd (h:Spl B w0 w u) {g j:Nat} {arr:Array Value} {v:Value} (hB:B<=g) (hg:w0.heap[g]?=some (.cells arr 138 (0,0))) (e:arr[j*2+1]?=some v):u.cell? ⟨g,j*2+1,none⟩=some v/\g<u.heap.size:=by
 obtain⟨arr',e1,e2,_,_,e5⟩:=h.row g _ arr hB hg;exact⟨by rw[zR u g _ _ _ _ e1,e5 rfl];exact e,lt_of_block e1⟩
end
section
variable {B:Nat} {w0 w w1 u:World} {s:Su} {p:Sp}
theorem Spl.from_ (h:Spl B w0 w1 u) (k:Bl w w1):Spl B w0 w u:=⟨h.os.trans k.os,h.tape.trans k.tape,h.output.trans k.output,zQ k.size h.size,fun g hg q=>(h.out g (zL hg k.size) q).trans (k.block g hg),h.row⟩
attribute [local go_sem] a00
theorem aM9 (h:SuNw B w0 s p) (z:SuSz s) (k0:Bl w0 w):Calls Tryz.prog 32 #[.agg (suC s p)] w fun r w'=>r=.returned (.tuple #[])/\Hid (Spl B w0 w w'):=by
 have HB:=zH (at2 w s p);have HN:=zH (And.intro h z);have b0:Bl w0 (w.alloc (suO s p)):=k0.alloc k0.size _;have HX:Hid (∀ u,Spl B w0 (w.alloc (suO s p)) u->u.cell? ⟨w.heap.size,4,none⟩=some (.slice p.ps s.st.length p.cs)/\u.cell? ⟨w.heap.size,5,none⟩=some (.slice p.pp s.pg.length p.cp)/\u.cell? ⟨w.heap.size,6,none⟩=some (.slice p.pt s.cl.length p.ct)/\w.heap.size<u.heap.size):=fun u hu=>by
  have l:=lt_of_block HB.out.2;have e:=(hu.out w.heap.size l (.inr k0.size)).trans HB.out.2;obtain⟨_,_,_,_,c4,c5,c6,c7⟩:=a43 e;exact⟨c4,c5,c6,c7⟩
 have H0:=zH (Spl.refl (B:=B) b0);have HZ:Hid (∀ u,Spl B w0 (w.alloc (suO s p)) u->Spl B w0 w u):=fun u hu=>hu.from_ HB.out.1
 have HS0:=zH k0.size;have l1:(s.st.length:Int)<=9223372036854775807:=by have:=z.st;omega
 have l2:(s.pg.length:Int)<=9223372036854775807:=by have:=z.pg;omega
 have l3:(s.cl.length:Int)<=9223372036854775807:=by have:=z.cl;omega
 clear h z k0 b0 HB;obtain⟨gs,hgs⟩:∃ gs,w.heap.size=gs:=⟨_,rfl⟩
 obtain⟨v1,hv1⟩:∃ v1,v1=w.alloc (suO s p):=⟨_,rfl⟩
 go_enter Tryz.func32,Tryz.ntmps32
 go_upto_region 1 with fail
 rw[show w.alloc (.cells (suC s p) 28)=v1 from hv1.symm];rw[<- hv1]at HX H0 HZ;rw[hgs]at HX HS0;clear hv1 hgs;obtain⟨c4,c5,c6,cl⟩:=HX.out _ H0.out;go_wp2_with fail;clear c4 c5 c6 cl
 go_loopw [13] (fun v13 u=>∃ k:Nat,v13=.int .i64 (k:Int)/\k<=s.st.length/\Hid (Spl B w0 v1 u)) (fun v13 _=>s.st.length - (intOf v13).toNat)
 case atStart=>exact⟨0,rfl,zV _,H0.out⟩
 case round =>
  obtain⟨k,rfl,hk,HR⟩:=hrel;clear H0
  rename_i u
  obtain⟨c4,c5,c6,cl⟩:=HX.out _ HR.out
  by_cases hlt:k<s.st.length
  ·have hlt':(k:Int)<(s.st.length:Int):=by omega
   obtain⟨g,arr,e1,e2,e3,e4⟩:=HN.out.1.st.1.blk (by omega);rw[Nat.mul_one]at e4;obtain⟨⟨v,hv⟩,hf,hg⟩:=HR.out.spot (j:=k) e2 e3 (by omega);have HP:=zH (HR.out.put (j:=k) (.float .f64 13858561215837503488) e2 e3 (by decide) (by decide) (fun q=>absurd q (by decide)));dsimp only at e1;rw[e1]at c4;clear e2 e3 e4;go_wp2_with fail;exact⟨⟨k+1,by first | rfl | (congr 1),by omega,HP.out⟩,by simp[intOf];omega⟩
  ·have hlt':¬ (k:Int)<(s.st.length:Int):=by omega
   go_wp2_with fail;clear c4 c5 c6 cl hlt hlt' hk l1
   go_loopw [24] (fun v24 u=>∃ k:Nat,v24=.int .i64 (k:Int)/\k<=s.pg.length/\Hid (Spl B w0 v1 u)) (fun v24 _=>s.pg.length - (intOf v24).toNat)
   case atStart=>exact⟨0,rfl,zV _,HR.out⟩
   case round =>
    clear HR;obtain⟨k,rfl,hk,HR⟩:=hrel;obtain⟨c4,c5,c6,cl⟩:=HX.out _ HR.out
    by_cases hlt:k<s.pg.length
    ·have hlt':(k:Int)<(s.pg.length:Int):=by omega
     obtain⟨g,po,c,ep,hg,d0,d1,cc⟩:=HR.out.prog HN.out.1 hlt;have lx:=HN.out.2.cd _ (ac6 (0,[]) hlt);have HCC:=zH cc;obtain⟨x1,hx1⟩:∃ x1,(s.pg.getD k (0,[])).1=x1:=⟨_,rfl⟩
     obtain⟨x2,hx2⟩:∃ x2,(s.pg.getD k (0,[])).2.length=x2:=⟨_,rfl⟩
     rw[hx1]at d0;rw[hx2]at d1 lx;have HX2:=zH hx2;have lx':(x2:Int)<=9223372036854775807:=by omega
     clear cc hx1 hx2 lx;rw[ep]
     go_upto_region 9 with fail
     obtain⟨w2,hw2⟩:∃ w2,w2=wr.alloc (.cells #[.int .i64 x1,.slice po x2 c] 136):=⟨_,rfl⟩
     obtain⟨gb,hgb⟩:∃ gb,wr.heap.size=gb:=⟨_,rfl⟩
     rw[<- hw2,hgb];have H2:Hid (Spl B w0 v1 w2/\w2.heap[gb]?=some (.cells #[.int .i64 x1,.slice po x2 c] 136 (0,0))):=by
      rw[hw2,<- hgb];exact⟨HR.out.on (below_alloc _ _),zN _ _⟩
     have HGB:Hid (w0.heap.size<=gb):=by
      have a1:=HS0.out;have a2:=(HX.out _ HR.out).2.2.2;exact(by omega:w0.heap.size<=gb)
     clear hw2 hgb d0 d1 c4 c5 c6 cl hg;have t1:=(zR w2 gb 1 _ _ _ H2.out.2).trans (rfl:_=some (Value.slice po x2 c));have lgb:=lt_of_block H2.out.2;go_wp2_with fail;clear t1 lgb
     go_loopw [31] (fun v31 wi=>∃ j:Nat,v31=.int .i64 (j:Int)/\j<=x2/\Hid (Spl B w0 v1 wi/\wi.heap[gb]?=some (.cells #[.int .i64 x1,.slice po x2 c] 136 (0,0)))) (fun v31 _=>x2 - (intOf v31).toNat)
     case atStart=>exact⟨0,rfl,zV _,H2.out⟩
     case round =>
      obtain⟨j,rfl,hj,HI⟩:=hrel;clear H2 HR;have t1:=(zR _ gb 1 _ _ _ HI.out.2).trans (rfl:_=some (Value.slice po x2 c));have lgb:=lt_of_block HI.out.2
      by_cases hjt:j<x2
      ·have hjt':(j:Int)<(x2:Int):=by omega
       obtain⟨gc,arr,e1,e2,e3,e4⟩:=HCC.out.1.blk (by rw[HX2.out];omega);rw[HX2.out]at e4;dsimp only at e1;obtain⟨⟨y0,z0⟩,f0,lg⟩:=HI.out.1.spot (j:=j*3) e2 e3 (by omega);obtain⟨⟨y1,z1⟩,f1,_⟩:=HI.out.1.spot (j:=j*3+1) e2 e3 (by omega);obtain⟨⟨y2,z2⟩,f2,_⟩:=HI.out.1.spot (j:=j*3+2) e2 e3 (by omega);have HP:Hid (Spl B w0 v1 (((wr.setCell ⟨gc,j*3,none⟩ (.int .i64 19)).setCell ⟨gc,j*3+1,none⟩ (.int .i64 50)).setCell ⟨gc,j*3+2,none⟩ (.float .f64 0))/\(((wr.setCell ⟨gc,j*3,none⟩ (.int .i64 19)).setCell ⟨gc,j*3+1,none⟩ (.int .i64 50)).setCell ⟨gc,j*3+2,none⟩ (.float .f64 0)).heap[gb]?=some (.cells #[.int .i64 x1,.slice po x2 c] 136 (0,0))):=by
        have l0:=lt_of_block e3;have l1:=HGB.out;have ne:gb≠gc:=by omega
        refine⟨(((HI.out.1.put _ e2 e3 (by decide) (by decide) (fun q=>absurd q (by decide))).put _ e2 e3 (by decide) (by decide) (fun q=>absurd q (by decide))).put _ e2 e3 (by decide) (by decide) (fun q=>absurd q (by decide))),?_⟩;exact(zO _ _ _ _ ne).trans ((zO _ _ _ _ ne).trans ((zO _ _ _ _ ne).trans HI.out.2))
       subst e1;clear e2 e3 e4;go_wp2_with fail;exact⟨⟨j+1,by first | rfl | (congr 1),by omega,HP.out⟩,by simp[intOf];omega⟩
      ·have hjt':¬ (j:Int)<(x2:Int):=by omega
       go_wp2_with fail;exact⟨⟨k+1,by first | rfl | (congr 1),by omega,HI.out.1⟩,by simp[intOf];omega⟩
    ·have hlt':¬ (k:Int)<(s.pg.length:Int):=by omega
     go_wp2_with fail;clear c4 c5 c6 cl hlt hlt' hk l2
     go_loopw [44] (fun v44 u=>∃ k:Nat,v44=.int .i64 (k:Int)/\k<=s.cl.length/\Hid (Spl B w0 v1 u)) (fun v44 _=>s.cl.length - (intOf v44).toNat)
     case atStart=>exact⟨0,rfl,zV _,HR.out⟩
     case round =>
      clear HR;obtain⟨k,rfl,hk,HR⟩:=hrel
      by_cases hlt:k<s.cl.length
      ·have hlt':(k:Int)<(s.cl.length:Int):=by omega
       obtain⟨g,po,c,ep,hg,d0,cc⟩:=HR.out.thread HN.out.1 hlt;have lx:=HN.out.2.ca _ (ac6 [] hlt);have HCC:=zH cc;obtain⟨m,hm⟩:∃ m,(s.cl.getD k []).length=m:=⟨_,rfl⟩
       rw[hm]at d0 lx;have HM:=zH hm;have lx':(m:Int)<=9223372036854775807:=by omega
       clear cc hm lx;rw[ep];go_wp2_with fail;clear d0 hg
       go_loopw [50] (fun v50 wi=>∃ i:Nat,v50=.int .i64 (i:Int)/\i<=m/\Hid (Spl B w0 v1 wi)) (fun v50 _=>m - (intOf v50).toNat)
       case atStart=>exact⟨0,rfl,zV _,HR.out⟩
       case round =>
        clear HR;obtain⟨i,rfl,hi,HI⟩:=hrel
        by_cases hit:i<m
        ·have hit':(i:Int)<(m:Int):=by omega
         obtain⟨gl,arr,pa,ca,e1,e2,e3,e4,e5,e6⟩:=bz3 HCC.out (j:=i) (by rw[HM.out];exact hit);have ly:=HN.out.2.ar _ (ac6 [] hlt) _ (ac6 (0,[]) (show i<(s.cl.getD k []).length by rw[HM.out];exact hit));obtain⟨n2,hn2⟩:∃ n2,((s.cl.getD k []).getD i (0,[])).2.length=n2:=⟨_,rfl⟩
         rw[hn2]at e5 ly;have HN2:=zH hn2;have HC6:=zH e6;have ly':(n2:Int)<=9223372036854775807:=by omega
         have HOD:Hid (∀ u,Spl B w0 v1 u->(u.cell? ⟨gl,i*2+1,none⟩=some (.slice pa n2 ca)/\gl<u.heap.size)/\(∃ y,u.cell? ⟨gl,i*2,none⟩=some y)/\u.frozen? ⟨gl,i*2,none⟩=false):=fun u hu=>⟨hu.odd e2 e3 e5,(hu.spot (j:=i*2) e2 e3 (by omega)).1,(hu.spot (j:=i*2) e2 e3 (by omega)).2.1⟩
         have HPU:Hid (∀ u,Spl B w0 v1 u->Spl B w0 v1 (u.setCell ⟨gl,i*2,none⟩ (.int .i64 (-1)))):=fun u hu=>hu.put _ e2 e3 (by decide) (by decide) (fun _=>by omega)
         dsimp only at e1;clear e2 e3 e4 e5 e6 hn2 ly;subst e1;obtain⟨⟨t1,lg⟩,_,_⟩:=HOD.out _ HI.out;go_wp2_with fail;clear t1 lg
         go_loopw [59] (fun v59 wk=>∃ j:Nat,v59=.int .i64 (j:Int)/\j<=n2/\Hid (Spl B w0 v1 wk)) (fun v59 _=>n2 - (intOf v59).toNat)
         case atStart=>exact⟨0,rfl,zV _,HI.out⟩
         case round =>
          clear HI;obtain⟨j,rfl,hj,HI⟩:=hrel;obtain⟨⟨t1,lg⟩,⟨y0,t0⟩,f0⟩:=HOD.out _ HI.out
          by_cases hjt:j<n2
          ·have hjt':(j:Int)<(n2:Int):=by omega
           obtain⟨ga,arr,e1,e2,e3,e4⟩:=HC6.out.1.blk (by rw[HN2.out];omega);rw[HN2.out,Nat.mul_one]at e4;dsimp only at e1;obtain⟨⟨y1,z1⟩,f1,lga⟩:=HI.out.spot (j:=j) e2 e3 (by omega);have HP:=zH (HI.out.put (j:=j) (.float .f64 13858561215837503488) e2 e3 (by decide) (by decide) (fun q=>absurd q (by decide)));subst e1;clear e2 e3 e4 t0 f0;go_wp2_with fail;exact⟨⟨j+1,by first | rfl | (congr 1),by omega,HP.out⟩,by simp[intOf];omega⟩
          ·have hjt':¬ (j:Int)<(n2:Int):=by omega
           have HP:=zH (HPU.out _ HI.out);go_wp2_with fail;exact⟨⟨i+1,by first | rfl | (congr 1),by omega,HP.out⟩,by simp[intOf];omega⟩
        ·have hit':¬ (i:Int)<(m:Int):=by omega
         go_wp2_with fail;exact⟨⟨k+1,by first | rfl | (congr 1),by omega,HI.out⟩,by simp[intOf];omega⟩
      ·have hlt':¬ (k:Int)<(s.cl.length:Int):=by omega
       go_wp2_with fail
       go_end0
       exact⟨rfl,HZ.out _ HR.out⟩
end
theorem bN3:(Tryz.prog.info? 59).map (fun i=>(i.zero,i.size,i.bytes))=some (some (.slice none 0 0),1,24):=by kernel_rfl
theorem Rw.mono {B B':Nat} {w:World} {T:TypeId} {sz k:Nat} {x:Option Addr × Nat} {r:Nat->Option Addr × Nat->Array Value} {S S':World->Nat->Option Addr × Nat->Prop} {e:Nat->Option Addr × Nat} (h:Rw B w T sz x k r S e) (hB:B'<=B) (hS:∀ j y,S w j y->S' w j y):Rw B' w T sz x k r S' e :=
 ⟨⟨h.own.1,h.own.2.imp id fun ⟨g,cap,cur,hv,hb,rest⟩=>⟨g,cap,cur,hv,zQ hB hb,rest⟩⟩,fun j hj=>hS j _ (h.sub j hj)⟩
theorem CFl.mono {B B':Nat} {w:World} {l:List Nat} {x:Option Addr × Nat} (h:CFl B w l x) (hB:B'<=B):CFl B' w l x:=⟨h.1.mono hB,h.2⟩
theorem CCd.mono {B B':Nat} {w:World} {l:List Ins} {x:Option Addr × Nat} (h:CCd B w l x) (hB:B'<=B):CCd B' w l x:=⟨h.1.mono hB,h.2⟩
theorem aV1 {w:World} {T:TypeId} {g j:Nat} {arr:Array Value} (h:w.heap[g]?=some (.cells arr T (0,0))) (v:Value):Kt T w (w.setCell ⟨g,j,none⟩ v):=⟨by simp,fun k a U hU e=>by
 by_cases q:k=g
 ·subst q
  rw[h]at e;injection e with e;injection e with _ e;exact absurd e.symm hU
 ·exact(zO _ _ _ _ q).trans e⟩
abbrev lnO (s:Su) (x y t:Option Addr × Nat) (kp kt:Nat):Obj:=.cells #[.int .i64 s.a,.int .i64 s.b,.int .i64 s.c,.int .i64 s.e,.slice x.1 s.st.length x.2,.slice y.1 kp y.2,.slice t.1 kt t.2] 28
abbrev lz:Obj:=.cells #[.int .i64 0,.int .i64 0,.int .i64 0,.int .i64 0,.slice none 0 0,.slice none 0 0,.slice none 0 0] 28
structure Ln (W0 wr:World) (s:Su) (g3:Nat) (x y t:Option Addr × Nat) (kp kt:Nat):Prop where
 bx:wr.heap[g3]?=some (lnO s x y t kp kt)
 b2:wr.heap[W0.heap.size]?=some lz
 st:CFl W0.heap.size wr s.st x
 pg:∃ e,Rw W0.heap.size wr 136 2 y kp (rP s.pg) (SP W0.heap.size s.pg) e
 cl:∃ e,Rw W0.heap.size wr 59 1 t kt (rT s.cl) (ST W0.heap.size s.cl) e
 bl:Bl W0 wr
 l3:W0.heap.size<g3
section
variable {W0 wr u:World} {s:Su} {g3:Nat} {x y t:Option Addr × Nat} {kp kt:Nat}
theorem Ln.on (h:Ln W0 wr s g3 x y t kp kt) (k:Bl wr u):Ln W0 u s g3 x y t kp kt:=by
 obtain⟨e1,h1⟩:=h.pg;obtain⟨e2,h2⟩:=h.cl;exact⟨(k.block _ (lt_of_block h.bx)).trans h.bx,(k.block _ (lt_of_block h.b2)).trans h.b2,h.st.kt (T:=3) (Kt.of_below k) (by decide),⟨e1,h1.kt (U:=3) (Kt.of_below k) (by decide) fun j y q=>SP.kt (T:=3) q (Kt.of_below k) (by decide)⟩,⟨e2,h2.kt (U:=3) (Kt.of_below k) (by decide) fun j y q=>ST.kt (T:=3) q (Kt.of_below k) (by decide) (by decide)⟩,h.bl.trans (k.mono h.bl.size),h.l3⟩
theorem Ln.ap_prog (h:Ln W0 u s g3 x y t kp kt) (z:SuSz s) (hk:kp<s.pg.length) {q:Option Addr × Nat} (hq:CCd W0.heap.size u (s.pg.getD kp (0,[])).2 q) {gx:Nat} (hx:u.heap[gx]?=some (.cells (rP s.pg kp q) 136 (0,0))) (ty:TypeId) :
  ∃ v w',(Builtin.append_ #[25,25] ty #[.slice y.1 kp y.2,.slice (some ⟨gx,0,none⟩) 1 1]).run Tryz.prog u=.ok v w'/\∃ g c,v=.slice (some ⟨g,0,none⟩) (kp+1) c/\Ln W0 (w'.setCell ⟨g3,5,none⟩ v) s g3 x (some ⟨g,0,none⟩,c) t (kp+1) kt/\w'.heap[g3]?=some (lnO s x y t kp kt)/\u.heap.size<=w'.heap.size/\∀ g,g<u.heap.size->g∉fpR y.1->w'.heap[g]?=u.heap[g]?:=by
 obtain⟨i,hi,hz0,hz1,hz2⟩:=info_parts aW2;obtain⟨e1,h1⟩:=h.pg;obtain⟨e2,h2⟩:=h.cl;obtain⟨v,w',a1,g,c,a2,⟨e',a3⟩,a4,a5,a6⟩:=h1.app (bb2 s.pg) (fun w' j y k q=>SP.kt q k (by decide)) (t:=25) Tryz.underlying25 hi hz0 hz1 hz2 rfl (by decide) (y:=q) hq hx (by have:=z.pg;unfold maxLen;omega) (by have:=z.pg;omega) h.bl.size ty;have b3:=a5.2 g3 _ _ (by decide) h.bx;have ks:=aV1 (j:=5) b3 v;refine⟨v,w',a1,g,c,a2,⟨?_,?_,(h.st.kt a5 (by decide)).kt ks (by decide),⟨e',a3.kt ks (by decide) fun j y q=>SP.kt q ks (by decide)⟩,⟨e2,(h2.kt a5 (by decide) fun j y q=>ST.kt q a5 (by decide) (by decide)).kt ks (by decide) fun j y q=>ST.kt q ks (by decide) (by decide)⟩,?_,h.l3⟩,b3,a5.1,a6⟩
 ·rw[a2]
  exact(zS w' g3 5 _ _ _ b3).trans rfl
 ·have:=h.l3
  exact(zO _ _ _ _ (show W0.heap.size≠g3 by omega)).trans (a5.2 _ _ _ (by decide) h.b2)
 ·exact(h.bl.trans a4).setCell (Nat.le_of_lt h.l3) _
theorem Ln.ap_thr (h:Ln W0 u s g3 x y t kp kt) (z:SuSz s) (hk:kt<s.cl.length) {q:Option Addr × Nat} (hq:ST W0.heap.size s.cl u kt q) {gx:Nat} (hx:u.heap[gx]?=some (.cells (rT s.cl kt q) 59 (0,0))) (ty:TypeId) :
  ∃ v w',(Builtin.append_ #[26,26] ty #[.slice t.1 kt t.2,.slice (some ⟨gx,0,none⟩) 1 1]).run Tryz.prog u=.ok v w'/\∃ g c,v=.slice (some ⟨g,0,none⟩) (kt+1) c/\Ln W0 (w'.setCell ⟨g3,6,none⟩ v) s g3 x y (some ⟨g,0,none⟩,c) kp (kt+1)/\w'.heap[g3]?=some (lnO s x y t kp kt)/\u.heap.size<=w'.heap.size:=by
 obtain⟨i,hi,hz0,hz1,hz2⟩:=info_parts bN3;obtain⟨e1,h1⟩:=h.pg;obtain⟨e2,h2⟩:=h.cl;obtain⟨v,w',a1,g,c,a2,⟨e',a3⟩,a4,a5,_⟩:=h2.app (bb3 s.cl) (fun w' j y k q=>ST.kt q k (by decide) (by decide)) (t:=26) Tryz.underlying26 hi hz0 hz1 hz2 rfl (by decide) (y:=q) hq hx (by have:=z.cl;unfold maxLen;omega) (by have:=z.cl;omega) h.bl.size ty;have b3:=a5.2 g3 _ _ (by decide) h.bx;have ks:=aV1 (j:=6) b3 v;refine⟨v,w',a1,g,c,a2,⟨?_,?_,(h.st.kt a5 (by decide)).kt ks (by decide),⟨e1,(h1.kt a5 (by decide) fun j y q=>SP.kt q a5 (by decide)).kt ks (by decide) fun j y q=>SP.kt q ks (by decide)⟩,⟨e',a3.kt ks (by decide) fun j y q=>ST.kt q ks (by decide) (by decide)⟩,?_,h.l3⟩,b3,a5.1⟩
 ·rw[a2]
  exact(zS w' g3 6 _ _ _ b3).trans rfl
 ·have:=h.l3
  exact(zO _ _ _ _ (show W0.heap.size≠g3 by omega)).trans (a5.2 _ _ _ (by decide) h.b2)
 ·exact(h.bl.trans a4).setCell (Nat.le_of_lt h.l3) _
def Cs (wo wi:World) (l:List (Int × List Nat)) (q:Option Addr × Nat) (j:Nat):Prop:=(∃ e,Rw wo.heap.size wi 138 2 q j (rC l) (SC wo.heap.size l) e)/\Bl wo wi
theorem Cs.on {wo wi u:World} {l:List (Int × List Nat)} {q:Option Addr × Nat} {j:Nat} (h:Cs wo wi l q j) (k:Bl wi u):Cs wo u l q j:=by
 obtain⟨⟨e,h1⟩,h2⟩:=h;exact⟨⟨e,h1.kt (U:=3) (Kt.of_below k) (by decide) fun j y q=>SC.kt (T:=3) q (Kt.of_below k) (by decide)⟩,h2.trans (k.mono h2.size)⟩
theorem Cs.app {wo wi:World} {l:List (Int × List Nat)} {q:Option Addr × Nat} {j:Nat} (h:Cs wo wi l q j) (hl:l.length*32<=140737488355328) (hj:j<l.length) {y:Option Addr × Nat} (hy:CFl wo.heap.size wi (l.getD j (0,[])).2 y) {gx:Nat} (hx:wi.heap[gx]?=some (.cells (rC l j y) 138 (0,0))) (ty:TypeId) :
  ∃ v w',(Builtin.append_ #[59,59] ty #[.slice q.1 j q.2,.slice (some ⟨gx,0,none⟩) 1 1]).run Tryz.prog wi=.ok v w'/\∃ g c,v=.slice (some ⟨g,0,none⟩) (j+1) c/\Cs wo w' l (some ⟨g,0,none⟩,c) (j+1)/\∀ g,g<wi.heap.size->g∉fpR q.1->w'.heap[g]?=wi.heap[g]?:=by
 obtain⟨i,hi,hz0,hz1,hz2⟩:=info_parts aT7;obtain⟨⟨e,h1⟩,h2⟩:=h;obtain⟨v,w',a1,g,c,a2,a3,a4,_,a5⟩:=h1.app (bb1 l) (fun w' j y k q=>SC.kt q k (by decide)) (t:=59) Tryz.underlying59 hi hz0 hz1 hz2 rfl (by decide) (y:=y) hy hx (by unfold maxLen;omega) (by omega) h2.size ty;exact⟨v,w',a1,g,c,a2,⟨a3,h2.trans a4⟩,a5⟩
theorem Cs.blw {wo wi:World} {l:List (Int × List Nat)} {q:Option Addr × Nat} {j:Nat} (h:Cs wo wi l q j):Blw wi (fpR q.1):=by
 obtain⟨⟨e,h1⟩,_⟩:=h;exact fun k hk=>(h1.own.lt k (a42.1 hk)).2
theorem Ln.blw (h:Ln W0 wr s g3 x y t kp kt):Blw wr (fpR y.1):=by
 obtain⟨e,h1⟩:=h.pg;exact fun k hk=>(h1.own.lt k (a42.1 hk)).2
theorem Cs.st {wo wi:World} {k:Nat} {q:Option Addr × Nat} (h:Cs wo wi (s.cl.getD k []) q (s.cl.getD k []).length) (hB:W0.heap.size<=wo.heap.size):ST W0.heap.size s.cl wi k q:=by
 obtain⟨⟨e,h1⟩,_⟩:=h;exact⟨e,h1.mono hB fun j y z=>CFl.mono z hB⟩
end
section
variable {w:World} {s:Su} {p:Sp}
theorem bv5 {u:World} {po:Option Addr} {l:List Nat} (co:Nat) (h:FlAt u po l) (hb:l.length*8<=140737488355328):∃ v w',(Builtin.append_ #[24,24] 24 #[.slice none 0 0,.slice po l.length co]).run Tryz.prog u=.ok v w'/\∃ p c,v=.slice p l.length c/\CFl u.heap.size w' l (p,c)/\Bl u w':=by
 obtain⟨i1,hi1,hz1,hs1,hb1⟩:=info_parts aE4;obtain⟨v,w',a1,p,c,a2,a3,a4,a5⟩:=b40 (ty:=24) (i:=i1) (z:=.float .f64 0) Tryz.underlying24 hi1 hz1 (by rw[hs1];rfl) (by rw[hs1];exact bN7 co h) (by rw[hb1];exact hb) (by omega);rw[hs1]at a3;exact⟨v,w',a1,p,c,a2,⟨a3,a4.fl⟩,a5⟩
theorem bI7 {u:World} {po:Option Addr} {l:List Ins} (co:Nat) (h:a36 u po l) (hb:l.length*24<=140737488355328):∃ v w',(Builtin.append_ #[134,134] 134 #[.slice none 0 0,.slice po l.length co]).run Tryz.prog u=.ok v w'/\∃ p c,v=.slice p l.length c/\CCd u.heap.size w' l (p,c)/\Bl u w':=by
 obtain⟨i1,hi1,hz1,hs1,hb1⟩:=info_parts aQ1;obtain⟨v,w',a1,p,c,a2,a3,a4,a5⟩:=b40 (ty:=134) (i:=i1) (z:=.agg #[.int .i64 0,.int .i64 0,.float .f64 0]) Tryz.underlying134 hi1 hz1 (by rw[hs1];rfl) (by rw[hs1];exact bs6 co h) (by rw[hb1];exact hb) (by omega);rw[hs1]at a3;exact⟨v,w',a1,p,c,a2,⟨a3,bE9 a4⟩,a5⟩
theorem bw7 {W0 wc:World} {g3:Nat} {x:Option Addr × Nat} (hb:wc.heap[g3]?=some (lnO s x (none,0) (none,0) 0 0)) (h2:wc.heap[W0.heap.size]?=some lz) (st:CFl W0.heap.size wc s.st x) (bl:Bl W0 wc) (l3:W0.heap.size<g3):Ln W0 wc s g3 x (none,0) (none,0) 0 0:=⟨hb,h2,st,⟨fun _=>(none,0),aW7 _ _ _ _ _ _ _⟩,⟨fun _=>(none,0),aW7 _ _ _ _ _ _ _⟩,bl,l3⟩
theorem Ln.new {W0 wr:World} {g3:Nat} {x y t:Option Addr × Nat} (h:Ln W0 wr s g3 x y t s.pg.length s.cl.length):SuNw W0.heap.size wr s ⟨x.1,x.2,y.1,y.2,t.1,t.2⟩:=⟨h.st,h.pg,h.cl⟩
theorem SuNw.on {B:Nat} {w u:World} {p:Sp} (h:SuNw B w s p) (k:Kt 28 w u):SuNw B u s p:=by
 obtain⟨e1,h1⟩:=h.pg;obtain⟨e2,h2⟩:=h.cl;exact⟨h.st.kt k (by decide),⟨e1,h1.kt k (by decide) fun j y q=>SP.kt q k (by decide)⟩,⟨e2,h2.kt k (by decide) fun j y q=>ST.kt q k (by decide) (by decide)⟩⟩
theorem bP3 {w:World} {x:Nat} (h:w.heap[x]?=some lz):(w.cell? ⟨x,0,none⟩=some (.int .i64 0)/\w.cell? ⟨x,1,none⟩=some (.int .i64 0)/\w.cell? ⟨x,2,none⟩=some (.int .i64 0)/\w.cell? ⟨x,3,none⟩=some (.int .i64 0)/\w.cell? ⟨x,4,none⟩=some (.slice none 0 0)/\w.cell? ⟨x,5,none⟩=some (.slice none 0 0)/\w.cell? ⟨x,6,none⟩=some (.slice none 0 0)/\x<w.heap.size)/\w.frozen? ⟨x,0,none⟩=false/\w.frozen? ⟨x,1,none⟩=false/\w.frozen? ⟨x,2,none⟩=false/\w.frozen? ⟨x,3,none⟩=false/\w.frozen? ⟨x,4,none⟩=false/\w.frozen? ⟨x,5,none⟩=false/\w.frozen? ⟨x,6,none⟩=false :=
 ⟨⟨(zR w x 0 _ _ _ h).trans rfl,(zR w x 1 _ _ _ h).trans rfl,(zR w x 2 _ _ _ h).trans rfl,(zR w x 3 _ _ _ h).trans rfl,(zR w x 4 _ _ _ h).trans rfl,(zR w x 5 _ _ _ h).trans rfl,(zR w x 6 _ _ _ h).trans rfl,lt_of_block h⟩,zZ w x 0 _ _ h,zZ w x 1 _ _ h,zZ w x 2 _ _ h,zZ w x 3 _ _ h,zZ w x 4 _ _ h,zZ w x 5 _ _ h,zZ w x 6 _ _ h⟩
theorem set7 {w:World} {x:Nat} {u0 u1 u2 u3 u4 u5 u6:Value} (h:w.heap[x]?=some lz):(((((((w.setCell ⟨x,0,none⟩ u0).setCell ⟨x,1,none⟩ u1).setCell ⟨x,2,none⟩ u2).setCell ⟨x,3,none⟩ u3).setCell ⟨x,4,none⟩ u4).setCell ⟨x,5,none⟩ u5).setCell ⟨x,6,none⟩ u6).heap[x]?=some (.cells #[u0,u1,u2,u3,u4,u5,u6] 28 (0,0)):=by
 have e0:=zS w x 0 _ _ u0 h;have e1:=zS _ x 1 _ _ u1 e0;have e2:=zS _ x 2 _ _ u2 e1;have e3:=zS _ x 3 _ _ u3 e2;have e4:=zS _ x 4 _ _ u4 e3;have e5:=zS _ x 5 _ _ u5 e4;exact(zS _ x 6 _ _ u6 e5).trans rfl
theorem oth7 {w:World} {x y:Nat} {u0 u1 u2 u3 u4 u5 u6:Value} (h:y≠x):(((((((w.setCell ⟨x,0,none⟩ u0).setCell ⟨x,1,none⟩ u1).setCell ⟨x,2,none⟩ u2).setCell ⟨x,3,none⟩ u3).setCell ⟨x,4,none⟩ u4).setCell ⟨x,5,none⟩ u5).setCell ⟨x,6,none⟩ u6).heap[y]?=w.heap[y]?:=by
 rw[zO _ _ _ _ h,zO _ _ _ _ h,zO _ _ _ _ h,zO _ _ _ _ h,zO _ _ _ _ h,zO _ _ _ _ h,zO _ _ _ _ h]
theorem aV2 (h:SuAt w s p) (z:SuSz s):Calls Tryz.prog 30 #[.agg (suC s p)] w fun r w'=>∃ p',r=.returned (.agg (suC s p'))/\Hid (SuNw (w.heap.size+1) w' s p'/\Bl w w'):=by
 have HB:=zH (at2 w s p);obtain⟨W0,hW0⟩:∃ W0,W0=w.alloc (suO s p):=⟨_,rfl⟩
 have hsz0:W0.heap.size=w.heap.size+1:=by rw[hW0];simp
 rw[<- hW0]at HB;have HX:Hid (∀ u,Bl W0 u->SuAt u s p/\u.heap[w.heap.size]?=some (suO s p)/\Bl w u):=fun u hu=>⟨(h.on HB.out.1).on hu,(hu.block _ (lt_of_block HB.out.2)).trans HB.out.2,HB.out.1.trans (hu.mono HB.out.1.size)⟩
 have HZ:=zH z;have HA1:Hid (∀ u,Bl W0 u->∃ v w',(Builtin.append_ #[24,24] 24 #[.slice none 0 0,.slice p.ps s.st.length p.cs]).run Tryz.prog u=.ok v w'/\∃ p c,v=.slice p s.st.length c/\CFl u.heap.size w' s.st (p,c)/\Bl u w'):=fun u hu=>bv5 p.cs (HX.out u hu).1.st z.st
 have l1:=h.l1;have l2:=h.l2;have l3:=h.l3;clear h z;go_enter Tryz.func30,Tryz.ntmps30
 go_upto_region 1 with fail
 rw[show w.alloc (.cells (suC s p) 28)=W0 from hW0.symm];clear hW0;obtain⟨W1,hW1⟩:∃ W1,W1=W0.alloc lz:=⟨_,rfl⟩
 rw[show W0.alloc (.cells #[.int .i64 0,.int .i64 0,.int .i64 0,.int .i64 0,.slice none 0 0,.slice none 0 0,.slice none 0 0] 28)=W1 from hW1.symm];have HW1:Hid (Bl W0 W1/\W1.heap[W0.heap.size]?=some lz):=by rw[hW1];exact⟨below_alloc _ _,zN _ _⟩
 clear hW1
 go_cut [3] (fun v3 wc=>∃ g3 p1 c1,v3=.pointer (some ⟨g3,0,none⟩)/\Hid (Ln W0 wc s g3 (p1,c1) (none,0) (none,0) 0 0))
 case first =>
  have HSS:Hid (∀ u,Bl W1 u->u.cell? ⟨w.heap.size,0,none⟩=some (.int .i64 s.a)/\u.cell? ⟨w.heap.size,1,none⟩=some (.int .i64 s.b)/\u.cell? ⟨w.heap.size,2,none⟩=some (.int .i64 s.c)/\u.cell? ⟨w.heap.size,3,none⟩=some (.int .i64 s.e)/\u.cell? ⟨w.heap.size,4,none⟩=some (.slice p.ps s.st.length p.cs)):=fun u hu=>by
   obtain⟨s0,s1,s2,s3,s4,_,_,_⟩:=a43 (HX.out u (a07 HW1.out.1 hu)).2.1;exact⟨s0,s1,s2,s3,s4⟩
  refine ar6 (fun u=>u.cell? ⟨w.heap.size,0,none⟩=some (.int .i64 s.a)/\u.cell? ⟨w.heap.size,1,none⟩=some (.int .i64 s.b)/\u.cell? ⟨w.heap.size,2,none⟩=some (.int .i64 s.c)/\u.cell? ⟨w.heap.size,3,none⟩=some (.int .i64 s.e)/\u.cell? ⟨w.heap.size,4,none⟩=some (.slice p.ps s.st.length p.cs)) [0,1,2,3] 4 [(5,true),(6,false),(7,false)] 6 [(4,false),(5,true),(7,false)] Md.Cv.follows13 (by kernel_rfl) (fun _ _ _ _ _ h=>h) (HSS.out _ ((Same.drew W1).below _)) ?_
  repeat (refine aC8 (v:=?_) rfl (by rfl) (fun wq hSq=>?_) ?_;rotate_left;(focus ((try dsimp only at hSq);go_simp;try with_reducible rfl));simp only[Act.put,zA,zB,zC])
  refine aO1 ?_ ?_
  ·refine a04 rfl (by rfl) (fun KK hK=>?_)
   refine a67 _ _ 24 24 rfl (.slice none 0 0) (.slice p.ps s.st.length p.cs) rfl rfl (HA1.out _ (HW1.out.1.trans ((Same.drew W1).below _))) ?_;rintro v u2 ⟨p1,c1,rfl,q1,q3⟩;have q4:Bl W1 u2:=((Same.drew W1).below _).trans q3;refine hK.out _ _ (HSS.out _ q4) ?_
   (clear hK KK;try simp only[Act.put,zA,zB,zC])
   (repeat ((first | (refine a02 (v:=?_) rfl (by rfl) (fun wq hSq=>?_) ?_;rotate_left;(focus ((try dsimp only at hSq);go_simp;try with_reducible rfl))) | refine a03 rfl (by rfl) ?_);simp only[Act.put,zA,zB,zC]))
   (refine a04 rfl (by rfl) (fun KK hK=>?_);go_simp)
   refine hK.out _ _ (HSS.out _ (q4.alloc q4.size _)) ?_
   (clear hK KK;try simp only[Act.put,zA,zB,zC])
   (refine a04 rfl (by rfl) (fun KK hK=>?_);go_simp)
   refine hK.out _ _ (HSS.out _ (q4.alloc q4.size _)) ?_
   (clear hK KK;try simp only[Act.put])
   refine a17 ?_;have HH:Hid (Ln W0 (u2.alloc (lnO s (p1,c1) (none,0) (none,0) 0 0)) s u2.heap.size (p1,c1) (none,0) (none,0) 0 0):=by
    have l:=lt_of_block HW1.out.2;have l1:=q4.size;have b:=q4.alloc q4.size (lnO s (p1,c1) (none,0) (none,0) 0 0);exact bw7 (zN _ _) ((b.block _ l).trans HW1.out.2) ((q1.mono (show W0.heap.size<=W1.heap.size from HW1.out.1.size)).kt (T:=3) (Kt.of_below (below_alloc _ _)) (by decide)) (a07 HW1.out.1 b) (by omega)
   go_wp2_with fail
   go_meet
   exact⟨_,p1,c1,rfl,HH.out⟩
  ·(refine a04 rfl (by rfl) (fun KK hK=>?_);go_simp)
   obtain⟨v1,hv1⟩:∃ v1,v1=(W1.alloc lz).drew:=⟨_,rfl⟩
   have k5:Bl W1 v1:=by rw[hv1];exact(below_alloc _ _).trans ((Same.drew _).below _)
   have x5:v1.heap[W1.heap.size]?=some lz:=by rw[hv1];exact zN _ _
   rw[<- hv1];clear hv1;refine hK.out _ _ (HSS.out _ k5) ?_
   (clear hK KK;try simp only[Act.put,zA,zB,zC])
   refine a04 rfl (by rfl) (fun KK hK=>?_);refine a67 _ _ 24 24 rfl (.slice none 0 0) (.slice p.ps s.st.length p.cs) rfl rfl (HA1.out _ (a07 HW1.out.1 k5)) ?_;rintro v u2 ⟨p1,c1,rfl,q1,q3⟩;have q4:Bl W1 u2:=k5.trans (q3.mono k5.size);have x6:u2.heap[W1.heap.size]?=some lz:=(q3.block _ (lt_of_block x5)).trans x5;obtain⟨⟨s0,s1,s2,s3,s4,s5,s6,lg⟩,f0,f1,f2,f3,f4,f5,f6⟩:=bP3 x6;refine hK.out _ _ (HSS.out _ q4) ?_
   (clear hK KK;try simp only[Act.put,zA,zB,zC])
   (repeat ((first | (refine a02 (v:=?_) rfl (by rfl) (fun wq hSq=>?_) ?_;rotate_left;(focus ((try dsimp only at hSq);go_simp;try with_reducible rfl))) | refine a03 rfl (by rfl) ?_);simp only[Act.put,zA,zB,zC]))
   (refine a04 rfl (by rfl) (fun KK hK=>?_);go_simp)
   obtain⟨u3,hu3⟩:∃ u3,u3=((((((u2.setCell ⟨W1.heap.size,0,none⟩ (.int .i64 s.a)).setCell ⟨W1.heap.size,1,none⟩ (.int .i64 s.b)).setCell ⟨W1.heap.size,2,none⟩ (.int .i64 s.c)).setCell ⟨W1.heap.size,3,none⟩ (.int .i64 s.e)).setCell ⟨W1.heap.size,4,none⟩ (.slice p1 s.st.length c1)).setCell ⟨W1.heap.size,5,none⟩ (.slice none 0 0)).setCell ⟨W1.heap.size,6,none⟩ (.slice none 0 0):=⟨_,rfl⟩
   have q5:Bl W1 u3:=by
    rw[hu3];exact((((((q4.setCell (zE _) _).setCell (zE _) _).setCell (zE _) _).setCell (zE _) _).setCell (zE _) _).setCell (zE _) _).setCell (zE _) _
   have HH:Hid (Ln W0 u3 s W1.heap.size (p1,c1) (none,0) (none,0) 0 0):=by
    have l:=lt_of_block HW1.out.2;have l1:=k5.size;refine bw7 (by rw[hu3];exact set7 x6) ((q5.block _ l).trans HW1.out.2) ((q1.mono (show W0.heap.size<=v1.heap.size by omega)).kt (T:=28) ⟨by rw[hu3];simp,fun g arr U hU hg=>?_⟩ (by decide)) (a07 HW1.out.1 q5) l;have ne:g≠W1.heap.size:=fun e=>by
     rw[e,x6]at hg;injection hg with hg;injection hg with _ hg;exact hU hg.symm
    rw[hu3];exact(oth7 ne).trans hg
   rw[<- hu3];refine hK.out _ _ (HSS.out _ q5) ?_
   (clear hK KK;try simp only[Act.put])
   refine a17 ?_;clear hu3;go_wp2_with fail
   go_meet
   exact⟨_,p1,c1,rfl,HH.out⟩
 case rest =>
  obtain⟨g3,p1,c1,rfl,HL0⟩:=hcut;have HCC:Hid (∀ u x y t kp kt,Ln W0 u s g3 x y t kp kt->u.cell? ⟨w.heap.size,5,none⟩=some (.slice p.pp s.pg.length p.cp)/\u.cell? ⟨w.heap.size,6,none⟩=some (.slice p.pt s.cl.length p.ct)/\w.heap.size<u.heap.size/\g3<u.heap.size):=fun u x y t kp kt hu=>by
   obtain⟨_,_,_,_,_,c5,c6,c7⟩:=a43 (HX.out u hu.bl).2.1;exact⟨c5,c6,c7,lt_of_block hu.bx⟩
  obtain⟨c5,c6,ls,lg3⟩:=HCC.out _ _ _ _ _ _ HL0.out;clear HW1 HA1;go_wp2_with fail;clear c5 c6 ls lg3
  go_loopw [20] (fun v20 wr=>∃ k:Nat,v20=.int .i64 (k:Int)/\k<=s.pg.length/\Hid (∃ py cy,Ln W0 wr s g3 (p1,c1) (py,cy) (none,0) k 0)) (fun v20 _=>s.pg.length - (intOf v20).toNat)
  case atStart=>exact⟨0,rfl,zV _,none,0,HL0.out⟩
  case round =>
   obtain⟨k,rfl,hk,HR⟩:=hrel;clear HL0
   by_cases hlt:k<s.pg.length
   ·have hlt':(k:Int)<(s.pg.length:Int):=by omega
    obtain⟨py,cy,hl⟩:=HR.out;have HL:=zH hl;obtain⟨g,o,po,c,e,hg,d0,d1,cc,_,lx⟩:=(HX.out _ hl.bl).1.pg k hlt;have HCP:Hid (∀ u,Bl wr u->∃ v w',(Builtin.append_ #[134,134] 134 #[.slice none 0 0,.slice po (s.pg.getD k (0,[])).2.length c]).run Tryz.prog u=.ok v w'/\∃ p c,v=.slice p (s.pg.getD k (0,[])).2.length c/\CCd u.heap.size w' (s.pg.getD k (0,[])).2 (p,c)/\Bl u w'):=fun u hu=>bI7 c (cc.on hu) (HZ.out.cd _ (ac6 (0,[]) hlt))
    have HAP:Hid (∀ u q gx,Ln W0 u s g3 (p1,c1) (py,cy) (none,0) k 0->CCd W0.heap.size u (s.pg.getD k (0,[])).2 q->u.heap[gx]?=some (.cells #[.int .i64 (s.pg.getD k (0,[])).1,.slice q.1 (s.pg.getD k (0,[])).2.length q.2] 136 (0,0))->∃ v w',(Builtin.append_ #[25,25] 25 #[.slice py k cy,.slice (some ⟨gx,0,none⟩) 1 1]).run Tryz.prog u=.ok v w'/\∃ g c,v=.slice (some ⟨g,0,none⟩) (k+1) c/\Ln W0 (w'.setCell ⟨g3,5,none⟩ v) s g3 (p1,c1) (some ⟨g,0,none⟩,c) (none,0) (k+1) 0/\w'.heap[g3]?=some (lnO s (p1,c1) (py,cy) (none,0) k 0)/\u.heap.size<=w'.heap.size/\∀ g,g<u.heap.size->g∉fpR py->w'.heap[g]?=u.heap[g]?):=fun u q gx hu hq hx=>hu.ap_prog HZ.out hlt hq hx _
    obtain⟨x1,hx1⟩:∃ x1,(s.pg.getD k (0,[])).1=x1:=⟨_,rfl⟩
    obtain⟨x2,hx2⟩:∃ x2,(s.pg.getD k (0,[])).2.length=x2:=⟨_,rfl⟩
    rw[hx1]at d0 HAP;rw[hx2]at d1 lx HCP HAP;clear cc hx1 hx2 hl;rw[e]
    go_upto_region 5 with fail
    obtain⟨gb,hgb⟩:∃ gb,wr.heap.size=gb:=⟨_,rfl⟩
    obtain⟨w1,hw1⟩:∃ w1,w1=wr.alloc (.cells #[.int .i64 x1,.slice po x2 c] 136):=⟨_,rfl⟩
    rw[<- hw1,hgb];have H1:Hid (Bl wr w1/\w1.heap[gb]?=some (.cells #[.int .i64 x1,.slice po x2 c] 136 (0,0))/\gb∉fpR py):=by
     rw[hw1,<- hgb];exact⟨below_alloc _ _,zN _ _,fun q=>absurd (HL.out.blw _ q) (Nat.lt_irrefl _)⟩
    have HS:Hid (∀ u,Bl w1 u->(u.cell? ⟨g3,5,none⟩=some (.slice py k cy)/\u.cell? ⟨gb,0,none⟩=some (.int .i64 x1)/\u.cell? ⟨gb,1,none⟩=some (.slice po x2 c))/\Ln W0 u s g3 (p1,c1) (py,cy) (none,0) k 0/\u.heap[gb]?=some (.cells #[.int .i64 x1,.slice po x2 c] 136 (0,0))/\g3<u.heap.size/\gb<u.heap.size):=fun u hu=>by
     have hl:=HL.out.on (H1.out.1.trans (hu.mono H1.out.1.size));have hb:=(hu.block _ (lt_of_block H1.out.2.1)).trans H1.out.2.1;exact⟨⟨(zR u g3 5 _ _ _ hl.bx).trans rfl,(zR u gb 0 _ _ _ hb).trans rfl,(zR u gb 1 _ _ _ hb).trans rfl⟩,hl,hb,lt_of_block hl.bx,lt_of_block hb⟩
    clear hw1 hgb d0 d1 hg;obtain⟨⟨y5,t0,t1⟩,_,_,lg3,lgb⟩:=HS.out w1 (zF _ _);refine a35 (fun u=>u.cell? ⟨g3,5,none⟩=some (.slice py k cy)/\u.cell? ⟨gb,0,none⟩=some (.int .i64 x1)/\u.cell? ⟨gb,1,none⟩=some (.slice po x2 c) )  ((0,true)::(1,true)::(2,true)::(3,true)::(4,true)::(5,true)::(6,false)::(7,true)::(8,false)::(9,false)::(10,true)::(11,false)::[])  Md.Cv.follows13 (by kernel_rfl) (fun _ _ _ _ _ h=>h)  ⟨y5,t0,t1⟩ ?_
    (repeat (refine a27 (v:=?_) rfl (by rfl) (fun wq hSq=>?_) ?_;rotate_left;(focus ((try dsimp only at hSq);go_simp;try with_reducible rfl));simp only[Act.put,zA,zB,zC]))
    clear y5 t0 t1 lg3 lgb;refine a25 rfl (by rfl) (fun KK hK=>?_);refine a67 _ _ 134 134 rfl (.slice none 0 0) (.slice po x2 c) rfl rfl (HCP.out _ (H1.out.1.trans ((Same.drew w1).below _))) ?_;rintro v u2 ⟨p2,c2,rfl,q1,q3⟩;have q4:Bl w1 u2:=((Same.drew w1).below _).trans q3;refine hK.out _ _ (fun _=>(HS.out u2 q4).1) ?_
    (clear hK KK;try simp only[Act.put,zA,zB,zC])
    (repeat (refine a27 (v:=?_) rfl (by rfl) (fun wq hSq=>?_) ?_;rotate_left;(focus ((try dsimp only at hSq);go_simp;try with_reducible rfl));simp only[Act.put,zA,zB,zC]))
    (refine a25 rfl (by rfl) (fun KK hK=>?_);go_simp)
    have q5:∀ ob,Bl w1 (u2.alloc ob):=fun ob=>q4.alloc q4.size ob
    refine hK.out _ _ (fun _=>(HS.out _ (q5 _)).1) ?_
    (clear hK KK;try simp only[Act.put,zA,zB,zC])
    refine a25 rfl (by rfl) (fun KK hK=>?_);refine a67 _ _ 25 25 rfl (.slice py k cy) (.slice (some ⟨u2.heap.size,0,none⟩) 1 1) rfl rfl (HAP.out (u2.alloc (.cells #[.int .i64 x1,.slice p2 x2 c2] 136)) (p2,c2) u2.heap.size (HS.out _ (q5 _)).2.1 ((q1.mono (zQ HL.out.bl.size H1.out.1.size)).kt (T:=3) (Kt.of_below (below_alloc _ _)) (by decide)) (zN _ _)) ?_;rintro v3 u3 ⟨g5,c5,rfl,m1,m2,m3,m4⟩;have e5:=(zR u3 g3 5 _ _ _ m2).trans (rfl:_=some (Value.slice py k cy));have f5:=zZ u3 g3 5 _ _ m2;have lg3:=lt_of_block m2;have eb:=(m4 gb (lt_of_block (HS.out _ (q5 _)).2.2.1) H1.out.2.2).trans (HS.out _ (q5 _)).2.2.1;refine hK.out _ _ (fun _=>⟨e5,(zR u3 gb 0 _ _ _ eb).trans rfl,(zR u3 gb 1 _ _ _ eb).trans rfl⟩) ?_;have HN:=zH m1;clear m1 m2 m3 m4 eb q1 q3
    (clear hK KK;try simp only[Act.put,zA,zB,zC])
    (repeat (refine a27 (v:=?_) rfl (by rfl) (fun wq hSq=>?_) ?_;rotate_left;(focus ((try dsimp only at hSq);go_simp;try with_reducible rfl));simp only[Act.put,zA,zB,zC]))
    (refine a25 rfl (by rfl) (fun KK hK=>?_);go_simp)
    refine hK.out _ _ (fun hn=>absurd rfl hn) ?_
    (clear hK KK;try simp only[Act.put])
    refine a64 ?_;clear e5 f5 lg3;go_wp2_with fail;exact⟨⟨k+1,by first | rfl | (congr 1),by omega,_,_,HN.out⟩,by simp[intOf];omega⟩
   ·have hlt':¬ (k:Int)<(s.pg.length:Int):=by omega
    have hk':k=s.pg.length:=by omega
    obtain⟨py,cy,hl⟩:=HR.out;have HL:Hid (Ln W0 wr s g3 (p1,c1) (py,cy) (none,0) s.pg.length 0):=by rw[<- hk'];exact hl
    obtain⟨c5,c6,ls,lg3⟩:=HCC.out _ _ _ _ _ _ hl;clear hl HR hk';go_wp2_with fail;clear c5 c6 ls lg3 hlt hlt' hk
    go_loopw [39] (fun v39 wr=>∃ k:Nat,v39=.int .i64 (k:Int)/\k<=s.cl.length/\Hid (∃ pt ct,Ln W0 wr s g3 (p1,c1) (py,cy) (pt,ct) s.pg.length k)) (fun v39 _=>s.cl.length - (intOf v39).toNat)
    case atStart=>exact⟨0,rfl,zV _,none,0,HL.out⟩
    case round =>
     clear HL;obtain⟨k,rfl,hk,HR⟩:=hrel
     by_cases hlt:k<s.cl.length
     ·have hlt':(k:Int)<(s.cl.length:Int):=by omega
      obtain⟨pt,ct,hl⟩:=HR.out;have HL:=zH hl;obtain⟨g,o,qa,c,e,hg,d0,ca,ln⟩:=(HX.out _ hl.bl).1.cl k hlt;have hb:=HZ.out.ca _ (ac6 [] hlt);have HAR:=zH (HZ.out.ar _ (ac6 [] hlt));have HST:Hid (∀ wo wi q,Cs wo wi (s.cl.getD k []) q (s.cl.getD k []).length->W0.heap.size<=wo.heap.size->ST W0.heap.size s.cl wi k q):=fun wo wi q h1 h2=>h1.st h2
      have HRT:Hid (∀ q,rT s.cl k q=#[.slice q.1 (s.cl.getD k []).length q.2]):=fun q=>rfl
      obtain⟨l,hl2⟩:∃ l,s.cl.getD k []=l:=⟨_,rfl⟩
      rw[hl2]at d0 ca ln hb HAR HST HRT;obtain⟨m,hm⟩:∃ m,l.length=m:=⟨_,rfl⟩
      rw[hm]at d0 ln hb HST HRT;have HCA:=zH ca;have HM:=zH hm;have hb':(m:Int)<=9223372036854775807:=by omega
      have HHB:=zH hb;obtain⟨wo,hwo⟩:∃ wo,wo=wr:=⟨_,rfl⟩
      rw[<- hwo]at HL d0 hg HCA ⊢;clear hl hl2 hm ca hwo hb HR;rw[e];go_wp2_with fail;clear d0 hg
      go_loopw [8,45] (fun v8 v45 wi=>∃ (j:Nat) (q1:Option Addr) (q2:Nat),v45=.int .i64 (j:Int)/\v8=.slice q1 j q2/\j<=m/\Hid (Cs wo wi l (q1,q2) j)) (fun _ v45 _=>m - (intOf v45).toNat)
      case atStart=>exact⟨0,none,0,rfl,rfl,zV _,⟨fun _=>(none,0),aW7 _ _ _ _ _ _ _⟩,zF _ _⟩
      case round =>
       obtain⟨j,q1,q2,rfl,rfl,hj,HI⟩:=hrel
       by_cases hjt:j<m
       ·have hjt':(j:Int)<(m:Int):=by omega
        obtain⟨g2,o2,po,cc,e2,hg2,d0,d1,fl,_,lx⟩:=(HCA.out.on HI.out.2) j (by rw[HM.out];exact hjt);have hjl:j<l.length:=by rw[HM.out];exact hjt
        have HCP:Hid (∀ u,Bl wr u->∃ v w',(Builtin.append_ #[24,24] 24 #[.slice none 0 0,.slice po (l.getD j (0,[])).2.length cc]).run Tryz.prog u=.ok v w'/\∃ p c,v=.slice p (l.getD j (0,[])).2.length c/\CFl u.heap.size w' (l.getD j (0,[])).2 (p,c)/\Bl u w'):=fun u hu=>bv5 cc (fl.on hu) (HAR.out _ (ac6 (0,[]) hjl))
        have HAP:Hid (∀ u y gx,Cs wo u l (q1,q2) j->CFl wo.heap.size u (l.getD j (0,[])).2 y->u.heap[gx]?=some (.cells #[.int .i64 (l.getD j (0,[])).1,.slice y.1 (l.getD j (0,[])).2.length y.2] 138 (0,0))->∃ v w',(Builtin.append_ #[59,59] 59 #[.slice q1 j q2,.slice (some ⟨gx,0,none⟩) 1 1]).run Tryz.prog u=.ok v w'/\∃ g c,v=.slice (some ⟨g,0,none⟩) (j+1) c/\Cs wo w' l (some ⟨g,0,none⟩,c) (j+1)/\∀ g,g<u.heap.size->g∉fpR q1->w'.heap[g]?=u.heap[g]?):=fun u y gx hu hy hx=>hu.app (by rw[HM.out];exact HHB.out) hjl hy hx _
        obtain⟨x1,hx1⟩:∃ x1,(l.getD j (0,[])).1=x1:=⟨_,rfl⟩
        obtain⟨x2,hx2⟩:∃ x2,(l.getD j (0,[])).2.length=x2:=⟨_,rfl⟩
        rw[hx1]at d0 HAP;rw[hx2]at d1 lx HCP HAP;clear fl hx1 hx2;subst e2
        go_upto_region 14 with fail
        obtain⟨gb,hgb⟩:∃ gb,wr.heap.size=gb:=⟨_,rfl⟩
        obtain⟨w1,hw1⟩:∃ w1,w1=wr.alloc (.cells #[.int .i64 x1,.slice po x2 cc] 138):=⟨_,rfl⟩
        rw[<- hw1,hgb];have H1:Hid (Bl wr w1/\w1.heap[gb]?=some (.cells #[.int .i64 x1,.slice po x2 cc] 138 (0,0))/\gb∉fpR q1):=by
         rw[hw1,<- hgb];exact⟨below_alloc _ _,zN _ _,fun q=>absurd (HI.out.blw _ q) (Nat.lt_irrefl _)⟩
        have HS:Hid (∀ u,Bl w1 u->(u.cell? ⟨gb,0,none⟩=some (.int .i64 x1)/\u.cell? ⟨gb,1,none⟩=some (.slice po x2 cc))/\Cs wo u l (q1,q2) j/\u.heap[gb]?=some (.cells #[.int .i64 x1,.slice po x2 cc] 138 (0,0))/\gb<u.heap.size):=fun u hu=>by
         have hl:=HI.out.on (H1.out.1.trans (hu.mono H1.out.1.size));have hb:=(hu.block _ (lt_of_block H1.out.2.1)).trans H1.out.2.1;exact⟨⟨(zR u gb 0 _ _ _ hb).trans rfl,(zR u gb 1 _ _ _ hb).trans rfl⟩,hl,hb,lt_of_block hb⟩
        clear hw1 hgb d0 d1 hg2;obtain⟨⟨t0,t1⟩,_,_,lgb⟩:=HS.out w1 (zF _ _);refine a35 (fun u=>u.cell? ⟨gb,0,none⟩=some (.int .i64 x1)/\u.cell? ⟨gb,1,none⟩=some (.slice po x2 cc) )  ((0,true)::(1,true)::(2,true)::(3,true)::(4,true)::(5,false)::(6,true)::(7,false)::(8,false)::(9,false)::[])  Md.Cv.follows13 (by kernel_rfl) (fun _ _ _ _ _ h=>h)  ⟨t0,t1⟩ ?_
        (repeat (refine a27 (v:=?_) rfl (by rfl) (fun wq hSq=>?_) ?_;rotate_left;(focus ((try dsimp only at hSq);go_simp;try with_reducible rfl));simp only[Act.put,zA,zB,zC]))
        clear t0 t1 lgb;refine a25 rfl (by rfl) (fun KK hK=>?_);refine a67 _ _ 24 24 rfl (.slice none 0 0) (.slice po x2 cc) rfl rfl (HCP.out _ (H1.out.1.trans ((Same.drew w1).below _))) ?_;rintro v u2 ⟨p2,c2,rfl,r1,r3⟩;have r4:Bl w1 u2:=((Same.drew w1).below _).trans r3;refine hK.out _ _ (fun _=>(HS.out u2 r4).1) ?_
        (clear hK KK;try simp only[Act.put,zA,zB,zC])
        (repeat (refine a27 (v:=?_) rfl (by rfl) (fun wq hSq=>?_) ?_;rotate_left;(focus ((try dsimp only at hSq);go_simp;try with_reducible rfl));simp only[Act.put,zA,zB,zC]))
        (refine a25 rfl (by rfl) (fun KK hK=>?_);go_simp)
        have r5:∀ ob,Bl w1 (u2.alloc ob):=fun ob=>r4.alloc r4.size ob
        refine hK.out _ _ (fun _=>(HS.out _ (r5 _)).1) ?_
        (clear hK KK;try simp only[Act.put,zA,zB,zC])
        refine a25 rfl (by rfl) (fun KK hK=>?_);refine a67 _ _ 59 59 rfl (.slice q1 j q2) (.slice (some ⟨u2.heap.size,0,none⟩) 1 1) rfl rfl (HAP.out (u2.alloc (.cells #[.int .i64 x1,.slice p2 x2 c2] 138)) (p2,c2) u2.heap.size (HS.out _ (r5 _)).2.1 ((r1.mono (zQ HI.out.2.size H1.out.1.size)).kt (T:=3) (Kt.of_below (below_alloc _ _)) (by decide)) (zN _ _)) ?_;rintro v3 u3 ⟨g5,c5,rfl,m1,m4⟩;have eb:=(m4 gb (lt_of_block (HS.out _ (r5 _)).2.2.1) H1.out.2.2).trans (HS.out _ (r5 _)).2.2.1;refine hK.out _ _ (fun _=>⟨(zR u3 gb 0 _ _ _ eb).trans rfl,(zR u3 gb 1 _ _ _ eb).trans rfl⟩) ?_;have HN:=zH m1;clear m1 m4 eb r1 r3
        (clear hK KK;try simp only[Act.put,zA,zB,zC])
        (refine a25 rfl (by rfl) (fun KK hK=>?_);go_simp)
        refine hK.out _ _ (fun hn=>absurd rfl hn) ?_
        (clear hK KK;try simp only[Act.put,zA,zB,zC])
        refine a64 ?_;go_wp2_with fail;exact⟨⟨j+1,_,_,by first | rfl | (congr 1),rfl,by omega,HN.out⟩,by simp[intOf];omega⟩
       ·have hjt':¬ (j:Int)<(m:Int):=by omega
        have hjm:j=m:=by omega
        subst hjm;have HLL:Hid (∀ u,Bl wr u->Ln W0 u s g3 (p1,c1) (py,cy) (pt,ct) s.pg.length k/\u.cell? ⟨g3,6,none⟩=some (.slice pt k ct)/\g3<u.heap.size/\ST W0.heap.size s.cl u k (q1,q2)):=fun u hu=>by
         have hl:=HL.out.on (HI.out.2.trans (hu.mono HI.out.2.size));exact⟨hl,(zR u g3 6 _ _ _ hl.bx).trans rfl,lt_of_block hl.bx,HST.out wo u _ (HI.out.on hu) HL.out.bl.size⟩
        obtain⟨_,y6,lg3,_⟩:=HLL.out wr (zF _ _);have HAP:Hid (∃ v w',(Builtin.append_ #[26,26] 26 #[.slice pt k ct,.slice (some ⟨wr.heap.size,0,none⟩) 1 1]).run Tryz.prog (wr.alloc (.cells #[.slice q1 j q2] 59))=.ok v w'/\∃ g c,v=.slice (some ⟨g,0,none⟩) (k+1) c/\Ln W0 (w'.setCell ⟨g3,6,none⟩ v) s g3 (p1,c1) (py,cy) (some ⟨g,0,none⟩,c) s.pg.length (k+1)/\w'.heap[g3]?=some (lnO s (p1,c1) (py,cy) (pt,ct) s.pg.length k)/\(wr.alloc (.cells #[.slice q1 j q2] 59)).heap.size<=w'.heap.size) :=
         (HLL.out _ (below_alloc _ _)).1.ap_thr HZ.out hlt (HLL.out _ (below_alloc _ _)).2.2.2 (gx:=wr.heap.size) (by rw[HRT.out];exact zN _ _) _
        clear HCA HM HHB HAR HST HRT HLL
        go_upto_region 17 with(at_builtin;refine ac9 rfl _ _ 26 26 rfl (.slice pt k ct) (.slice (some ⟨wr.heap.size,0,none⟩) 1 1) rfl rfl HAP.out ?_;rintro v u3 ⟨g5,c5,rfl,m1,m2,m3⟩;have e6:=(zR u3 g3 6 _ _ _ m2).trans (rfl:_=some (Value.slice pt k ct));have f6:=zZ u3 g3 6 _ _ m2;have l6:=lt_of_block m2;have HN:=zH m1;clear m1 m2 m3)
        go_wp2_with fail;exact⟨⟨k+1,by first | rfl | (congr 1),by omega,_,_,HN.out⟩,by simp[intOf];omega⟩
     ·have hlt':¬ (k:Int)<(s.cl.length:Int):=by omega
      have hk':k=s.cl.length:=by omega
      subst hk';obtain⟨pt,ct,hl⟩:=HR.out;have HL:=zH hl;have hb2:=hl.b2;rw[hsz0]at hb2;obtain⟨⟨s0,s1,s2,s3,s4,s5,s6,lg⟩,f0,f1,f2,f3,f4,f5,f6⟩:=bP3 hb2;have hbx:=hl.bx;obtain⟨r0,r1,r2,r3,r4,r5,r6,r7⟩:wr.cell? ⟨g3,0,none⟩=some (.int .i64 s.a)/\wr.cell? ⟨g3,1,none⟩=some (.int .i64 s.b)/\wr.cell? ⟨g3,2,none⟩=some (.int .i64 s.c)/\wr.cell? ⟨g3,3,none⟩=some (.int .i64 s.e)/\wr.cell? ⟨g3,4,none⟩=some (.slice p1 s.st.length c1)/\wr.cell? ⟨g3,5,none⟩=some (.slice py s.pg.length cy)/\wr.cell? ⟨g3,6,none⟩=some (.slice pt s.cl.length ct)/\g3<wr.heap.size:=⟨(zR wr g3 0 _ _ _ hbx).trans rfl,(zR wr g3 1 _ _ _ hbx).trans rfl,(zR wr g3 2 _ _ _ hbx).trans rfl,(zR wr g3 3 _ _ _ hbx).trans rfl,(zR wr g3 4 _ _ _ hbx).trans rfl,(zR wr g3 5 _ _ _ hbx).trans rfl,(zR wr g3 6 _ _ _ hbx).trans rfl,lt_of_block hbx⟩;have HB2:=zH hb2;clear hbx hl HR hb2;go_wp2_with fail;have HF:Hid (SuNw (w.heap.size+1) (((((((wr.setCell ⟨w.heap.size+1,0,none⟩ (.int .i64 s.a)).setCell ⟨w.heap.size+1,1,none⟩ (.int .i64 s.b)).setCell ⟨w.heap.size+1,2,none⟩ (.int .i64 s.c)).setCell ⟨w.heap.size+1,3,none⟩ (.int .i64 s.e)).setCell ⟨w.heap.size+1,4,none⟩ (.slice p1 s.st.length c1)).setCell ⟨w.heap.size+1,5,none⟩ (.slice py s.pg.length cy)).setCell ⟨w.heap.size+1,6,none⟩ (.slice pt s.cl.length ct)) s ⟨p1,c1,py,cy,pt,ct⟩/\Bl w (((((((wr.setCell ⟨w.heap.size+1,0,none⟩ (.int .i64 s.a)).setCell ⟨w.heap.size+1,1,none⟩ (.int .i64 s.b)).setCell ⟨w.heap.size+1,2,none⟩ (.int .i64 s.c)).setCell ⟨w.heap.size+1,3,none⟩ (.int .i64 s.e)).setCell ⟨w.heap.size+1,4,none⟩ (.slice p1 s.st.length c1)).setCell ⟨w.heap.size+1,5,none⟩ (.slice py s.pg.length cy)).setCell ⟨w.heap.size+1,6,none⟩ (.slice pt s.cl.length ct))):=by
       have b:=(HX.out _ HL.out.bl).2.2;have n:=HL.out.new;rw[hsz0]at n;have l:w.heap.size<=w.heap.size+1:=by omega
       refine⟨n.on ⟨by simp,fun g arr U hU hg=>?_⟩,((((((b.setCell l _).setCell l _).setCell l _).setCell l _).setCell l _).setCell l _).setCell l _⟩;have ne:g≠w.heap.size+1:=fun e=>by
        rw[e,HB2.out]at hg;injection hg with hg;injection hg with _ hg;exact hU hg.symm
       exact(oth7 ne).trans hg
      exact bodyPost_ret (results_cell_row rfl _ _ (w.heap.size+1) _ _ _ _ rfl (set7 HB2.out) Tryz.underlying28 rfl (by kernel_rfl)) rfl ⟨⟨p1,c1,py,cy,pt,ct⟩,rfl,HF.out⟩
end
def b04 (s:Su) (n:Nat):Bool:=anyU (fun i=>decide (64<(s.cl.getD i []).length)) n
theorem bm3 (s:Su):aA5 s=(decide (64<s.pg.length) || decide (s.b<(s.cl.length:Int)) || b04 s s.cl.length):=by unfold aA5 b04;rw[b39 s.cl []]
section
variable {w w':World} {s:Su} {p:Sp}
theorem aO2 (h:SuAt w s p):Calls Tryz.prog 71 #[.agg (suC s p)] w fun r w'=>r=.returned (.int .i64 (errS s))/\Bl w w':=by
 have HB:=zH (at2 w s p);have HX:Hid (∀ u,Below (w.alloc (suO s p)).heap.size (w.alloc (suO s p)) u->SuAt u s p/\u.heap[w.heap.size]?=some (suO s p)/\Bl w u):=fun u hu=>⟨(h.on HB.out.1).on hu,(hu.block _ (lt_of_block HB.out.2)).trans HB.out.2,HB.out.1.trans (hu.mono HB.out.1.size)⟩
 have HP:=zH (fun u=>Md.refPlace_any s.a s.b s.c s.e u);have l1:=h.l1;have l2:=h.l2;have l3:=h.l3;have HE:=zH (b69 s);have HMA:=zH (bm3 s);clear h
 cases hc:Md.cfgB s.a s.b s.c s.e with
 | false =>
  rw[hc]at HP;simp only[if_neg Bool.false_ne_true]at HP;have HE2:Hid (errS s=1):=by rw[HE.out,hc];trivial
  clear HE HMA;go_enter Tryz.func71,Tryz.ntmps71
  go_wp2_with (go_at_call 72;refine(HP.out _).mono ?_;rintro r u1 ⟨rfl,q⟩;have H1:=zH q;clear q HP)
  go_ret;have:=(HX.out _ H1.out).2.2;exact⟨by rw[HE2.out];rfl,this.alloc this.size _⟩
 | true =>
  rw[hc]at HP;simp only[if_pos]at HP
  by_cases q1:(s.st.length:Int)<=s.a
  ·have q1':¬ s.a<(s.st.length:Int):=by omega
   by_cases q2:64<s.pg.length
   ·have q2':(64:Int)<(s.pg.length:Int):=by omega
    have HE2:Hid (errS s=160):=by rw[HE.out,hc,HMA.out,zT q1,zT q2];trivial
    clear HE HMA;go_enter Tryz.func71,Tryz.ntmps71
    go_wp2_with (go_at_call 72;refine(HP.out _).mono ?_;rintro r u1 ⟨rfl,q⟩;have H1:=zH q;obtain⟨s0,s1,s2,s3,s4,s5,s6,s7⟩:=a43 (HX.out _ q).2.1;clear q HP)
    go_ret;have:=(HX.out _ H1.out).2.2;exact⟨by rw[HE2.out];rfl,this.alloc this.size _⟩
   ·have q2':¬ (64:Int)<(s.pg.length:Int):=by omega
    by_cases q3:s.b<(s.cl.length:Int)
    ·have HE2:Hid (errS s=160):=by rw[HE.out,hc,HMA.out,zT q1,zT q3,Bool.or_true,Bool.true_or];trivial
     clear HE HMA;go_enter Tryz.func71,Tryz.ntmps71
     go_wp2_with (go_at_call 72;refine(HP.out _).mono ?_;rintro r u1 ⟨rfl,q⟩;have H1:=zH q;obtain⟨s0,s1,s2,s3,s4,s5,s6,s7⟩:=a43 (HX.out _ q).2.1;clear q HP)
     go_ret;have:=(HX.out _ H1.out).2.2;exact⟨by rw[HE2.out];rfl,this.alloc this.size _⟩
    ·have HE2:Hid (errS s=if b04 s s.cl.length then 160 else if badT s s.cl.length then 1 else 0):=by rw[HE.out,hc,HMA.out,zT q1,zU q2,zU q3,Bool.false_or,Bool.false_or];trivial
     clear HE HMA;go_enter Tryz.func71,Tryz.ntmps71
     go_wp2_with (go_at_call 72;refine(HP.out _).mono ?_;rintro r u1 ⟨rfl,q⟩;have H1:=zH (fun o=>q.alloc q.size o);obtain⟨s0,s1,s2,s3,s4,s5,s6,s7⟩:=a43 (HX.out _ q).2.1;clear q HP)
     clear s0 s1 s2 s3 s4 s5 s6 s7
     go_loopw [2,44] (fun v2 v44 wr=>∃ k:Nat,v44=.int .i64 (k:Int)/\v2=.int .i64 0/\k<=s.cl.length/\Hid (Below (w.alloc (suO s p)).heap.size (w.alloc (suO s p)) wr/\b04 s k=false)) (fun v2 v44 _=>s.cl.length - (intOf v44).toNat)
     case atStart=>exact⟨0,rfl,rfl,zV _,H1.out _,rfl⟩
     case round =>
      obtain⟨k,rfl,rfl,hk,HR⟩:=hrel;clear H1
      by_cases hlt:k<s.cl.length
      ·have hlt':(k:Int)<(s.cl.length:Int):=by omega
       obtain⟨g,o,qa,c,e,hg,c0,_,ln⟩:=(HX.out _ HR.out.1).1.cl k hlt;obtain⟨m,hm⟩:∃ m,(s.cl.getD k []).length=m:=⟨_,rfl⟩
       rw[hm]at c0 ln
       by_cases q:64<m
       ·have q':(64:Int)<(m:Int):=by omega
        have HY:Hid (b04 s s.cl.length=true):=(af4 _ _).2 ⟨k,hlt,zT (by omega)⟩;clear hm;rw[e];go_wp2_with fail;go_ret;exact⟨by rw[HE2.out,HY.out];rfl,(HX.out _ HR.out.1).2.2⟩
       ·have q':¬ (64:Int)<(m:Int):=by omega
        have HY:Hid (b04 s (k+1)=false):=by
         show (anyU _ k || decide _)=false
         rw[zU (by omega),Bool.or_false];exact HR.out.2
        clear hm;rw[e];go_wp2_with fail;exact⟨⟨k+1,by first | rfl | (congr 1),rfl,by omega,HR.out.1,HY.out⟩,by simp[intOf];omega⟩
      ·have hk':k=s.cl.length:=by omega
       have hlt':¬ (k:Int)<(s.cl.length:Int):=by omega
       have HE3:Hid (errS s=if badT s s.cl.length then 1 else 0):=by rw[HE2.out,<- hk',HR.out.2];trivial
       obtain⟨s0,s1,s2,s3,s4,s5,s6,s7⟩:=a43 (HX.out _ HR.out.1).2.1;have HR1:=zH HR.out.1;clear HE2 hk';go_wp2_with fail;clear s0 s1 s2 s3 s4 s5 s6 s7 HR hlt hlt' hk
       go_loopw [2,55] (fun v2 v55 wr=>∃ k:Nat,v55=.int .i64 (k:Int)/\v2=.int .i64 0/\k<=s.cl.length/\Hid (Below (w.alloc (suO s p)).heap.size (w.alloc (suO s p)) wr/\badT s k=false)) (fun v2 v55 _=>s.cl.length - (intOf v55).toNat)
       case atStart=>exact⟨0,rfl,rfl,zV _,HR1.out,rfl⟩
       case round =>
        obtain⟨k,rfl,rfl,hk,HR⟩:=hrel;clear HR1
        by_cases hlt:k<s.cl.length
        ·have hlt':(k:Int)<(s.cl.length:Int):=by omega
         obtain⟨g,o,qa,c,e,hg,c0,ca,ln⟩:=(HX.out _ HR.out.1).1.cl k hlt;have HY:Hid ((badC s (s.cl.getD k []) (s.cl.getD k []).length=true->errS s=1)/\(badC s (s.cl.getD k []) (s.cl.getD k []).length=false->badT s (k+1)=false)):=by
          refine⟨fun q=>?_,fun q=>?_⟩
          ·rw[HE3.out,show badT s s.cl.length=true from(af4 _ _).2 ⟨k,hlt,q⟩]
           rfl
          ·show (anyU _ k || badC s (s.cl.getD k []) (s.cl.getD k []).length)=false
           rw[q,Bool.or_false];exact HR.out.2
         obtain⟨l,hl⟩:∃ l,s.cl.getD k []=l:=⟨_,rfl⟩
         rw[hl]at c0 ca ln HY;obtain⟨m,hm⟩:∃ m,l.length=m:=⟨_,rfl⟩
         rw[hm]at c0 ln HY;have HCA:=zH ca;have HM:=zH hm;obtain⟨wo,hwo⟩:∃ wo,wo=wr:=⟨_,rfl⟩
         rw[<- hwo]at HR c0 hg HCA ⊢;clear hl hm ca hwo;rw[e];go_wp2_with fail
         go_loopw [2,61] (fun v2 v61 wi=>∃ j:Nat,v61=.int .i64 (j:Int)/\v2=.int .i64 0/\j<=m/\Hid (Bl wo wi/\badC s l j=false)) (fun v2 v61 _=>m - (intOf v61).toNat)
         case atStart=>exact⟨0,rfl,rfl,zV _,zF _ _,rfl⟩
         case round =>
          obtain⟨j,rfl,rfl,hj,HI⟩:=hrel;have HBW:=zH (HR.out.1.trans (HI.out.1.mono HR.out.1.size))
          by_cases hjt:j<m
          ·have hjt':(j:Int)<(m:Int):=by omega
           obtain⟨g2,o2,po,cc,e2,hg2,d0,d1,_,_,lx⟩:=(HCA.out.on HI.out.1) j (by rw[HM.out];exact hjt);obtain⟨x,hx⟩:∃ x,l.getD j (0,[])=x:=⟨_,rfl⟩
           have HZ:Hid ((a68 s.pg.length x=true->badC s l (j+1)=false)/\(a68 s.pg.length x=false->errS s=1)):=by
            refine⟨fun q=>?_,fun q=>HY.out.1 ((af4 _ _).2 ⟨j,hjt,by rw[hx,q];rfl⟩)⟩
            show (anyU _ j || !a68 s.pg.length (l.getD j (0,[])))=false
            rw[hx,q,Bool.not_true,Bool.or_false];exact HI.out.2
           rw[hx]at d0 d1 lx;have HMY:Hid (a68 s.pg.length x=(decide (0<=x.1) && decide (x.1<(s.pg.length:Int)) && decide (x.2.length<=8))):=rfl;obtain⟨n2,hn2⟩:∃ n2,x.2.length=n2:=⟨_,rfl⟩
           obtain⟨x1,hx1⟩:∃ x1,x.1=x1:=⟨_,rfl⟩
           rw[hn2]at HMY d1 lx;rw[hx1]at HMY d0;clear hx hn2 hx1;have HAL:Hid (∀ ob,Below (w.alloc (suO s p)).heap.size (w.alloc (suO s p)) (wr.alloc ob)/\Bl wo (wr.alloc ob)):=fun ob=>⟨HBW.out.alloc HBW.out.size ob,HI.out.1.alloc HI.out.1.size ob⟩
           obtain⟨s0,s1,s2,s3,s4,s5,s6,s7⟩:=a43 (HX.out _ (HAL.out (.cells #[.int .i64 x1,.slice po n2 cc] 138)).1).2.1;clear s0 s1 s2 s3 s4 s6;subst e2
           by_cases y1:x1<0
           ·have hb:a68 s.pg.length x=false:=by rw[HMY.out,zU (by omega)];rfl
            go_wp2_with fail;go_ret;exact⟨by rw[HZ.out.2 hb];rfl,(HX.out _ (HAL.out (.cells #[.int .i64 x1,.slice po n2 cc] 138)).1).2.2⟩
           ·by_cases y2:(s.pg.length:Int)<=x1
            ·have hb:a68 s.pg.length x=false:=by rw[HMY.out,zU (show ¬ x1<(s.pg.length:Int) by omega),Bool.and_false];rfl
             go_wp2_with fail;go_ret;exact⟨by rw[HZ.out.2 hb];rfl,(HX.out _ (HAL.out (.cells #[.int .i64 x1,.slice po n2 cc] 138)).1).2.2⟩
            ·by_cases y3:8<n2
             ·have y3':(8:Int)<(n2:Int):=by omega
              have hb:a68 s.pg.length x=false:=by rw[HMY.out,zU (show ¬ n2<=8 by omega),Bool.and_false]
              go_wp2_with fail;go_ret;exact⟨by rw[HZ.out.2 hb];rfl,(HX.out _ (HAL.out (.cells #[.int .i64 x1,.slice po n2 cc] 138)).1).2.2⟩
             ·have y3':¬ (8:Int)<(n2:Int):=by omega
              have hb:a68 s.pg.length x=true:=by rw[HMY.out,zT (show 0<=x1 by omega),zT (show x1<(s.pg.length:Int) by omega),zT (show n2<=8 by omega)];rfl
              go_wp2_with fail;exact⟨⟨j+1,by first | rfl | (congr 1),rfl,by omega,(HAL.out _).2,HZ.out.1 hb⟩,by simp[intOf];omega⟩
          ·have hjm:j=m:=by omega
           have hjt':¬ (j:Int)<(m:Int):=by omega
           go_wp2_with fail;exact⟨⟨k+1,by first | rfl | (congr 1),rfl,by omega,HBW.out,HY.out.2 (by rw[<- hjm];exact HI.out.2)⟩,by simp[intOf];omega⟩
        ·have hk':k=s.cl.length:=by omega
         have hlt':¬ (k:Int)<(s.cl.length:Int):=by omega
         go_wp2_with fail;go_ret;exact⟨by rw[HE3.out,<- hk',HR.out.2];rfl,(HX.out _ HR.out.1).2.2⟩
  ·have q1':s.a<(s.st.length:Int):=by omega
   have HE2:Hid (errS s=1):=by rw[HE.out,zU q1,Bool.and_false];trivial
   clear HE HMA;go_enter Tryz.func71,Tryz.ntmps71
   go_wp2_with (go_at_call 72;refine(HP.out _).mono ?_;rintro r u1 ⟨rfl,q⟩;have H1:=zH q;obtain⟨s0,s1,s2,s3,s4,s5,s6,s7⟩:=a43 (HX.out _ q).2.1;clear q HP)
   go_ret;have:=(HX.out _ H1.out).2.2;exact⟨by rw[HE2.out];rfl,this.alloc this.size _⟩
end
abbrev reO (s:Su) (p:Sp) (p4 n5:Int) (bw gs:Nat) (t:Option Addr × Nat) (k:Nat):Obj:=.cells #[.int .i64 s.a,.int .i64 s.b,.int .i64 s.c,.int .i64 s.e,.slice p.ps s.st.length p.cs,.slice p.pp s.pg.length p.cp,.slice p.pt s.cl.length p.ct,.int .i64 0,.int .i64 1,.int .i64 2,.int .i64 3,.int .i64 p4,.int .i64 n5,.pointer (some ⟨bw,0,none⟩),.slice t.1 k t.2,.slice none 0 0,.int .i64 0,.slice (some ⟨gs,0,none⟩) s.n s.n,.int .i64 0] 51
section
variable {w:World} {s:Su} {p:Sp}
theorem bq8 (h:SuAt w s p) (he:¬ errS s=0):Calls Tryz.prog 31 #[.agg (suC s p)] w fun r w'=>r=.returned (.tuple #[.pointer none,.int .i64 (errS s)])/\Bl w w':=by
 have HB:=zH (at2 w s p);have HF:=zH (aO2 (h.on HB.out.1));obtain⟨e,hee⟩:∃ e,errS s=e:=⟨_,rfl⟩
 rw[hee]at HF he ⊢;have heb:(e != 0)=true:=by simpa using he
 clear h hee he;go_enter Tryz.func31,Tryz.ntmps31
 go_wp2_with (go_at_call 71;refine HF.out.mono ?_;rintro r u1 ⟨rfl,q⟩;have H1:=zH q;clear q HF)
 go_ret2;exact⟨rfl,HB.out.1.trans (H1.out.mono HB.out.1.size)⟩
structure Rn (W0 wr:World) (s:Su) (p:Sp) (p4:Int) (n5:Nat) (g5 bd bw gw gs:Nat) (t:Option Addr × Nat) (k:Nat):Prop where
 bx:wr.heap[bd]?=some (reO s p p4 (n5:Int) bw gs t k)
 wb:wr.heap[bw]?=some (.cells #[.slice (some ⟨gw,0,none⟩) n5 n5,.int .i64 0] 80 (0,0))
 ww:∃ arr,wr.heap[gw]?=some (.cells arr 69 (0,0))/\arr.size=n5
 pl:wr.heap[g5]?=some (plO p4 (n5:Int))
 tr:∃ e,Rw W0.heap.size wr 96 1 t k (fun _ x=>#[.pointer x.1]) (fun _ _ _=>True) e
 bl:Bl W0 wr
 lo:W0.heap.size<=gw/\W0.heap.size<=bd
theorem Rn.on {W0 wr u:World} {p4:Int} {n5 g5 bd bw gw gs:Nat} {t:Option Addr × Nat} {k:Nat} (h:Rn W0 wr s p p4 n5 g5 bd bw gw gs t k) (b:Bl wr u):Rn W0 u s p p4 n5 g5 bd bw gw gs t k:=by
 obtain⟨arr,e1,e2⟩:=h.ww;obtain⟨e,h1⟩:=h.tr;have kp:∀ {g:Nat} {o:Obj},wr.heap[g]?=some o->u.heap[g]?=some o:=fun {g o} q=>(b.block g (by rw[Array.getElem?_eq_some_iff]at q;exact q.1)).trans q
 exact⟨kp h.bx,kp h.wb,⟨arr,kp e1,e2⟩,kp h.pl,⟨e,h1.kt (U:=3) (Kt.of_below b) (by decide) fun _ _ _=>trivial⟩,h.bl.trans (b.mono h.bl.size),h.lo⟩
theorem Rn.put {W0 wr:World} {p4:Int} {n5 g5 bd bw gw gs:Nat} {t:Option Addr × Nat} {k:Nat} (h:Rn W0 wr s p p4 n5 g5 bd bw gw gs t k) (j:Nat) (v:Value):Rn W0 (wr.setCell ⟨gw,j,none⟩ v) s p p4 n5 g5 bd bw gw gs t k:=by
 obtain⟨arr,e1,e2⟩:=h.ww;obtain⟨e,h1⟩:=h.tr;have ks:=aV1 (j:=j) e1 v;exact⟨ks.2 _ _ _ (by decide) h.bx,ks.2 _ _ _ (by decide) h.wb,⟨_,zS wr gw j _ _ v e1,by simpa using e2⟩,ks.2 _ _ _ (by decide) h.pl,⟨e,h1.kt ks (by decide) fun _ _ _=>trivial⟩,h.bl.setCell h.lo.1 _,h.lo⟩
theorem bM7:(Tryz.prog.info? 96).map (fun i=>(i.zero,i.size,i.bytes))=some (some (.pointer none),1,8):=by kernel_rfl
theorem Rn.app {W0 u:World} {p4:Int} {n5 g5 bd bw gw gs:Nat} {t:Option Addr × Nat} {k:Nat} (h:Rn W0 u s p p4 n5 g5 bd bw gw gs t k) (hk:k<8) {gx gy:Nat} (hx:u.heap[gx]?=some (.cells #[.pointer (some ⟨gy,0,none⟩)] 96 (0,0))) (ty:TypeId):∃ v w',(Builtin.append_ #[47,47] ty #[.slice t.1 k t.2,.slice (some ⟨gx,0,none⟩) 1 1]).run Tryz.prog u=.ok v w'/\∃ g c,v=.slice (some ⟨g,0,none⟩) (k+1) c/\Rn W0 (w'.setCell ⟨bd,14,none⟩ v) s p p4 n5 g5 bd bw gw gs (some ⟨g,0,none⟩,c) (k+1)/\w'.heap[bd]?=some (reO s p p4 (n5:Int) bw gs t k):=by
 obtain⟨i,hi,hz0,hz1,hz2⟩:=info_parts bM7;obtain⟨e,h1⟩:=h.tr;obtain⟨arr,e1,e2⟩:=h.ww;obtain⟨v,w',a1,g,c,a2,⟨e',a3⟩,a4,a5,_⟩:=h1.app (fun j y=>⟨rfl,fun u hu=>by simp at hu;subst hu;rfl⟩) (fun _ _ _ _ _=>trivial) (t:=47) Tryz.underlying47 hi hz0 hz1 hz2 rfl (by decide) (y:=(some ⟨gy,0,none⟩,0)) trivial hx (by unfold maxLen;omega) (by omega) h.bl.size ty;have b3:=a5.2 bd _ _ (by decide) h.bx;have ks:=aV1 (j:=14) b3 v;refine⟨v,w',a1,g,c,a2,⟨?_,ks.2 _ _ _ (by decide) (a5.2 _ _ _ (by decide) h.wb),⟨arr,ks.2 _ _ _ (by decide) (a5.2 _ _ _ (by decide) e1),e2⟩,ks.2 _ _ _ (by decide) (a5.2 _ _ _ (by decide) h.pl),⟨e',a3.kt ks (by decide) fun _ _ _=>trivial⟩,(h.bl.trans a4).setCell h.lo.2 _,h.lo⟩,b3⟩;rw[a2];exact(zS w' bd 14 _ _ _ b3).trans rfl
end
section
variable {w:World} {s:Su} {p:Sp}
theorem bd6 {W0 u5 wc:World} {p4:Int} {n5 g5 bd bw gw gs:Nat} {arr:Array Value} (h5:u5.heap[g5]?=some (plO p4 (n5:Int))) (b5:Bl W0 u5) (k:Bl u5 wc) (hx:wc.heap[bd]?=some (reO s p p4 (n5:Int) bw gs (none,0) 0)) (hw:wc.heap[bw]?=some (.cells #[.slice (some ⟨gw,0,none⟩) n5 n5,.int .i64 0] 80 (0,0))) (hg:wc.heap[gw]?=some (.cells arr 69 (0,0))) (ha:arr.size=n5) (l1:u5.heap.size<=gw) (l2:u5.heap.size<=bd):Rn W0 wc s p p4 n5 g5 bd bw gw gs (none,0) 0 :=
 ⟨hx,hw,⟨arr,hg,ha⟩,(k.block _ (lt_of_block h5)).trans h5,⟨fun _=>(none,0),aW7 _ _ _ _ _ _ _⟩,a07 b5 k,zQ b5.size l1,zQ b5.size l2⟩
theorem bE8 (h:SuAt w s p) (he:errS s=0):Calls Tryz.prog 31 #[.agg (suC s p)] w fun r w'=>∃ bd,r=.returned (.tuple #[.pointer (some ⟨bd,0,none⟩),.int .i64 0])/\Hid ((∃ bw gs tp tc,w'.heap[bd]?=some (reO s p (3+s.b) (3+s.b+3*s.a) bw gs (tp,tc) s.n))/\w.heap.size<=bd/\Bl w w'):=by
 have hs:=suIn h.ok he;have HB:=zH (at2 w s p);have HF:=zH (aO2 (h.on HB.out.1));rw[he]at HF;obtain⟨W0,hW0⟩:∃ W0,W0=w.alloc (suO s p):=⟨_,rfl⟩
 rw[<- hW0]at HB HF;have b8:=hs.b8;have a256:=hs.a256;have hnb:=hs.nb;have hsl:=hs.sl;have hcl:=hs.tl;have HX:Hid (∀ u,Bl W0 u->SuAt u s p/\u.heap[w.heap.size]?=some (suO s p)/\Bl w u):=fun u hu=>⟨(h.on HB.out.1).on hu,(hu.block _ (lt_of_block HB.out.2)).trans HB.out.2,HB.out.1.trans (hu.mono HB.out.1.size)⟩
 have HP:=zH (fun u=>Md.refPlace_any s.a s.b s.c s.e u);simp only[hs.cfg,if_pos]at HP;obtain⟨p4,hp4⟩:∃ p4,3+s.b=p4:=⟨_,rfl⟩
 obtain⟨n5,hn5⟩:∃ n5:Nat,p4+3*s.a=(n5:Int):=⟨(p4+3*s.a).toNat,by omega⟩
 rw[hp4,hn5]at HP ⊢;have hmw0:=fun u:World=>Md.make_words n5 (by omega) u
 obtain⟨aw,haw⟩:∃ aw,aw=(u64s (List.replicate n5 0)).toArray:=⟨_,rfl⟩
 have hmw:∀ u:World,(Instr.makeSlice 66 (.int .i64 (n5:Int)) (.int .i64 (n5:Int))).run Tryz.prog u=.ok (.slice (some ⟨u.heap.size,0,none⟩) n5 n5) (u.alloc (.cells aw 69)):=fun u=>by rw[haw];exact hmw0 u
 have haz:aw.size=n5:=by rw[haw];simp[u64s]
 have hmb0:=fun u:World=>bQ2 s.n (by omega) u
 obtain⟨ab,hab⟩:∃ ab,ab=(bls (List.replicate s.n false)).toArray:=⟨_,rfl⟩
 rw[hnb]at hmb0;have hmb:∀ u:World,(Instr.makeSlice 49 (.int .i64 s.b) (.int .i64 s.b)).run Tryz.prog u=.ok (.slice (some ⟨u.heap.size,0,none⟩) s.n s.n) (u.alloc (.cells ab 4)):=fun u=>by rw[hab];exact hmb0 u
 clear hmw0 hmb0 haw hab h he hs;go_enter Tryz.func31,Tryz.ntmps31
 go_upto_region 1 with fail
 rw[show w.alloc (.cells (suC s p) 28)=W0 from hW0.symm];clear hW0;obtain⟨x0,x1,x2,x3,x4,x5,x6,x7⟩:=a43 HB.out.2
 go_upto_region 5 with(first
  | (go_at_call 72;refine(HP.out _).mono ?_;rintro r u2 ⟨rfl,q⟩;have H2:=zH (a07 H1.out q);clear q HP s0 s1 s2 s3 s4 s5 s6 s7)
  | (go_at_call 71;refine HF.out.mono ?_;rintro r u1 ⟨rfl,q⟩;have H1:=zH q;obtain⟨s0,s1,s2,s3,s4,s5,s6,s7⟩:=a43 (HX.out _ q).2.1;clear q HF x0 x1 x2 x3 x4 x5 x6 x7))
 obtain⟨g5,hg5⟩:∃ g5,u2.heap.size=g5:=⟨_,rfl⟩
 obtain⟨u5,hu5⟩:∃ u5,u5=u2.alloc (plO p4 (n5:Int)):=⟨_,rfl⟩
 rw[<- hu5,hg5];have H5:Hid (Bl W0 u5/\u5.heap[g5]?=some (plO p4 (n5:Int))):=by
  rw[hu5,<- hg5];exact⟨H2.out.alloc H2.out.size _,zN _ _⟩
 clear hg5 hu5 H1 H2
 go_cut [7] (fun v7 wc=>∃ bd bw gw gs,v7=.pointer (some ⟨bd,0,none⟩)/\Hid (Rn W0 wc s p p4 n5 g5 bd bw gw gs (none,0) 0))
 case first =>
  have HSS:Hid (∀ u,Bl u5 u->(u.cell? ⟨w.heap.size,0,none⟩=some (.int .i64 s.a)/\u.cell? ⟨w.heap.size,1,none⟩=some (.int .i64 s.b)/\u.cell? ⟨w.heap.size,2,none⟩=some (.int .i64 s.c)/\u.cell? ⟨w.heap.size,3,none⟩=some (.int .i64 s.e)/\u.cell? ⟨w.heap.size,4,none⟩=some (.slice p.ps s.st.length p.cs)/\u.cell? ⟨w.heap.size,5,none⟩=some (.slice p.pp s.pg.length p.cp)/\u.cell? ⟨w.heap.size,6,none⟩=some (.slice p.pt s.cl.length p.ct))/\u.cell? ⟨g5,0,none⟩=some (.int .i64 0)/\u.cell? ⟨g5,1,none⟩=some (.int .i64 1)/\u.cell? ⟨g5,2,none⟩=some (.int .i64 2)/\u.cell? ⟨g5,3,none⟩=some (.int .i64 3)/\u.cell? ⟨g5,4,none⟩=some (.int .i64 p4)/\u.cell? ⟨g5,5,none⟩=some (.int .i64 (n5:Int))):=fun u hu=>by
   obtain⟨s0,s1,s2,s3,s4,s5,s6,_⟩:=a43 (HX.out _ (a07 H5.out.1 hu)).2.1;exact⟨⟨s0,s1,s2,s3,s4,s5,s6⟩,ab1 ((hu.block _ (lt_of_block H5.out.2)).trans H5.out.2)⟩
  refine ak7 (fun u=>(u.cell? ⟨w.heap.size,0,none⟩=some (.int .i64 s.a)/\u.cell? ⟨w.heap.size,1,none⟩=some (.int .i64 s.b)/\u.cell? ⟨w.heap.size,2,none⟩=some (.int .i64 s.c)/\u.cell? ⟨w.heap.size,3,none⟩=some (.int .i64 s.e)/\u.cell? ⟨w.heap.size,4,none⟩=some (.slice p.ps s.st.length p.cs)/\u.cell? ⟨w.heap.size,5,none⟩=some (.slice p.pp s.pg.length p.cp)/\u.cell? ⟨w.heap.size,6,none⟩=some (.slice p.pt s.cl.length p.ct))/\u.cell? ⟨g5,0,none⟩=some (.int .i64 0)/\u.cell? ⟨g5,1,none⟩=some (.int .i64 1)/\u.cell? ⟨g5,2,none⟩=some (.int .i64 2)/\u.cell? ⟨g5,3,none⟩=some (.int .i64 3)/\u.cell? ⟨g5,4,none⟩=some (.int .i64 p4)/\u.cell? ⟨g5,5,none⟩=some (.int .i64 (n5:Int))) ((0,true)::(1,true)::(2,true)::(3,true)::(7,true)::(8,true)::(9,true)::(4,false)::(5,true)::(6,false)::[]) 10 [(11,true),(12,false),(13,true)] Md.Cv.follows13 (by kernel_rfl) (fun _ _ _ _ _ h=>h) (HSS.out _ ((Same.drew u5).below _)) ?_
  repeat (refine ah2 (v:=?_) rfl (by rfl) (fun wq hSq=>?_) ?_;rotate_left;(focus ((try dsimp only at hSq);go_simp;try with_reducible rfl));simp only[Act.put,zA,zB,zC])
  refine an7 rfl (by rfl) (fun KK hK=>?_) ?_
  ·go_simp
   obtain⟨v1,hv1⟩:∃ v1,v1=(u5.alloc (.cells aw 69)).drew:=⟨_,rfl⟩
   have bv1:Bl u5 v1:=by rw[hv1];exact(below_alloc _ _).trans ((Same.drew _).below _)
   have yv1:v1.heap[u5.heap.size]?=some (.cells aw 69):=by rw[hv1];exact zN _ _
   rw[<- hv1];clear hv1;have k1:Bl u5 v1:=bv1;refine hK.out _ _ (HSS.out _ k1) ?_
   (clear hK KK;try simp only[Act.put,zA,zB,zC])
   (refine ah2 (v:=?_) rfl (by rfl) (fun wq hSq=>?_) ?_;rotate_left;(focus ((try dsimp only at hSq);go_simp;try with_reducible rfl));simp only[Act.put,zA,zB,zC])
   refine an7 rfl (by rfl) (fun KK hK=>?_) ?_
   ·go_simp
    obtain⟨v2,hv2⟩:∃ v2,v2=v1.alloc (.cells #[.slice (some ⟨u5.heap.size,0,none⟩) n5 n5,.int .i64 0] 80):=⟨_,rfl⟩
    have bv2:Bl v1 v2:=by rw[hv2];exact below_alloc _ _
    have yv2:v2.heap[v1.heap.size]?=some (.cells #[.slice (some ⟨u5.heap.size,0,none⟩) n5 n5,.int .i64 0] 80):=by rw[hv2];exact zN _ _
    rw[<- hv2];clear hv2;have k2:Bl u5 v2:=a07 k1 bv2;refine hK.out _ _ (HSS.out _ k2) ?_
    (clear hK KK;try simp only[Act.put,zA,zB,zC])
    refine aH7 ?_
    (refine a04 rfl (by rfl) (fun KK hK=>?_);go_simp)
    obtain⟨v3,hv3⟩:∃ v3,v3=v2.alloc (.cells ab 4):=⟨_,rfl⟩
    have bv3:Bl v2 v3:=by rw[hv3];exact below_alloc _ _
    have yv3:v3.heap[v2.heap.size]?=some (.cells ab 4):=by rw[hv3];exact zN _ _
    rw[<- hv3];clear hv3;have k3:Bl u5 v3:=a07 k2 bv3;refine hK.out _ _ (HSS.out _ k3) ?_
    (clear hK KK;try simp only[Act.put,zA,zB,zC])
    (repeat ((first | (refine a02 (v:=?_) rfl (by rfl) (fun wq hSq=>?_) ?_;rotate_left;(focus ((try dsimp only at hSq);go_simp;try with_reducible rfl))) | refine a03 rfl (by rfl) ?_);simp only[Act.put,zA,zB,zC]))
    (refine a04 rfl (by rfl) (fun KK hK=>?_);go_simp)
    obtain⟨v4,hv4⟩:∃ v4,v4=v3.alloc (reO s p p4 (n5:Int) v1.heap.size v2.heap.size (none,0) 0):=⟨_,rfl⟩
    have bv4:Bl v3 v4:=by rw[hv4];exact below_alloc _ _
    have yv4:v4.heap[v3.heap.size]?=some (reO s p p4 (n5:Int) v1.heap.size v2.heap.size (none,0) 0):=by rw[hv4];exact zN _ _
    rw[<- hv4];clear hv4;have k4:Bl u5 v4:=a07 k3 bv4;refine hK.out _ _ (HSS.out _ k4) ?_
    (clear hK KK;try simp only[Act.put,zA,zB,zC])
    (repeat ((first | (refine a02 (v:=?_) rfl (by rfl) (fun wq hSq=>?_) ?_;rotate_left;(focus ((try dsimp only at hSq);go_simp;try with_reducible rfl))) | refine a03 rfl (by rfl) ?_);simp only[Act.put,zA,zB,zC]))
    refine a17 ?_;have HH:Hid (Rn W0 v4 s p p4 n5 g5 v3.heap.size v1.heap.size u5.heap.size v2.heap.size (none,0) 0):=by
     have z2:=(bv3.block _ (lt_of_block yv2)).trans yv2;have z1:=(bv2.block _ (lt_of_block yv1)).trans yv1;have z1':=(bv3.block _ (lt_of_block z1)).trans z1;exact bd6 H5.out.2 H5.out.1 k4 yv4 ((bv4.block _ (lt_of_block z2)).trans z2) ((bv4.block _ (lt_of_block z1')).trans z1') haz (zE _) k3.size
    go_wp2_with fail
    go_meet
    exact⟨_,_,_,_,rfl,HH.out⟩
   ·simp only[List.nil_append]
    (refine a04 rfl (by rfl) (fun KK hK=>?_);go_simp)
    obtain⟨v2,hv2⟩:∃ v2,v2=v1.alloc (.cells ab 4):=⟨_,rfl⟩
    have bv2:Bl v1 v2:=by rw[hv2];exact below_alloc _ _
    have yv2:v2.heap[v1.heap.size]?=some (.cells ab 4):=by rw[hv2];exact zN _ _
    rw[<- hv2];clear hv2;have k2:Bl u5 v2:=a07 k1 bv2;refine hK.out _ _ (HSS.out _ k2) ?_
    (clear hK KK;try simp only[Act.put,zA,zB,zC])
    (refine a04 rfl (by rfl) (fun KK hK=>?_);go_simp)
    obtain⟨v3,hv3⟩:∃ v3,v3=v2.alloc (.cells #[.slice (some ⟨u5.heap.size,0,none⟩) n5 n5,.int .i64 0] 80):=⟨_,rfl⟩
    have bv3:Bl v2 v3:=by rw[hv3];exact below_alloc _ _
    have yv3:v3.heap[v2.heap.size]?=some (.cells #[.slice (some ⟨u5.heap.size,0,none⟩) n5 n5,.int .i64 0] 80):=by rw[hv3];exact zN _ _
    rw[<- hv3];clear hv3;have k3:Bl u5 v3:=a07 k2 bv3;refine hK.out _ _ (HSS.out _ k3) ?_
    (clear hK KK;try simp only[Act.put,zA,zB,zC])
    (repeat ((first | (refine a02 (v:=?_) rfl (by rfl) (fun wq hSq=>?_) ?_;rotate_left;(focus ((try dsimp only at hSq);go_simp;try with_reducible rfl))) | refine a03 rfl (by rfl) ?_);simp only[Act.put,zA,zB,zC]))
    (refine a04 rfl (by rfl) (fun KK hK=>?_);go_simp)
    obtain⟨v4,hv4⟩:∃ v4,v4=v3.alloc (reO s p p4 (n5:Int) v2.heap.size v1.heap.size (none,0) 0):=⟨_,rfl⟩
    have bv4:Bl v3 v4:=by rw[hv4];exact below_alloc _ _
    have yv4:v4.heap[v3.heap.size]?=some (reO s p p4 (n5:Int) v2.heap.size v1.heap.size (none,0) 0):=by rw[hv4];exact zN _ _
    rw[<- hv4];clear hv4;have k4:Bl u5 v4:=a07 k3 bv4;refine hK.out _ _ (HSS.out _ k4) ?_
    (clear hK KK;try simp only[Act.put,zA,zB,zC])
    (repeat ((first | (refine a02 (v:=?_) rfl (by rfl) (fun wq hSq=>?_) ?_;rotate_left;(focus ((try dsimp only at hSq);go_simp;try with_reducible rfl))) | refine a03 rfl (by rfl) ?_);simp only[Act.put,zA,zB,zC]))
    refine a17 ?_;have HH:Hid (Rn W0 v4 s p p4 n5 g5 v3.heap.size v2.heap.size u5.heap.size v1.heap.size (none,0) 0):=by
     have z1:=(bv2.block _ (lt_of_block yv1)).trans yv1;have z1':=(bv3.block _ (lt_of_block z1)).trans z1;exact bd6 H5.out.2 H5.out.1 k4 yv4 ((bv4.block _ (lt_of_block yv3)).trans yv3) ((bv4.block _ (lt_of_block z1')).trans z1') haz (zE _) k3.size
    go_wp2_with fail
    go_meet
    exact⟨_,_,_,_,rfl,HH.out⟩
  ·simp only[List.cons_append,List.nil_append]
   (refine a04 rfl (by rfl) (fun KK hK=>?_);go_simp)
   obtain⟨v1,hv1⟩:∃ v1,v1=(u5.alloc (.cells ab 4)).drew:=⟨_,rfl⟩
   have bv1:Bl u5 v1:=by rw[hv1];exact(below_alloc _ _).trans ((Same.drew _).below _)
   have yv1:v1.heap[u5.heap.size]?=some (.cells ab 4):=by rw[hv1];exact zN _ _
   rw[<- hv1];clear hv1;have k1:Bl u5 v1:=bv1;refine hK.out _ _ (HSS.out _ k1) ?_
   (clear hK KK;try simp only[Act.put,zA,zB,zC])
   (refine a04 rfl (by rfl) (fun KK hK=>?_);go_simp)
   obtain⟨v2,hv2⟩:∃ v2,v2=v1.alloc (.cells aw 69):=⟨_,rfl⟩
   have bv2:Bl v1 v2:=by rw[hv2];exact below_alloc _ _
   have yv2:v2.heap[v1.heap.size]?=some (.cells aw 69):=by rw[hv2];exact zN _ _
   rw[<- hv2];clear hv2;have k2:Bl u5 v2:=a07 k1 bv2;refine hK.out _ _ (HSS.out _ k2) ?_
   (clear hK KK;try simp only[Act.put,zA,zB,zC])
   (repeat ((first | (refine a02 (v:=?_) rfl (by rfl) (fun wq hSq=>?_) ?_;rotate_left;(focus ((try dsimp only at hSq);go_simp;try with_reducible rfl))) | refine a03 rfl (by rfl) ?_);simp only[Act.put,zA,zB,zC]))
   (refine a04 rfl (by rfl) (fun KK hK=>?_);go_simp)
   obtain⟨v3,hv3⟩:∃ v3,v3=v2.alloc (.cells #[.slice (some ⟨v1.heap.size,0,none⟩) n5 n5,.int .i64 0] 80):=⟨_,rfl⟩
   have bv3:Bl v2 v3:=by rw[hv3];exact below_alloc _ _
   have yv3:v3.heap[v2.heap.size]?=some (.cells #[.slice (some ⟨v1.heap.size,0,none⟩) n5 n5,.int .i64 0] 80):=by rw[hv3];exact zN _ _
   rw[<- hv3];clear hv3;have k3:Bl u5 v3:=a07 k2 bv3;refine hK.out _ _ (HSS.out _ k3) ?_
   (clear hK KK;try simp only[Act.put,zA,zB,zC])
   (repeat ((first | (refine a02 (v:=?_) rfl (by rfl) (fun wq hSq=>?_) ?_;rotate_left;(focus ((try dsimp only at hSq);go_simp;try with_reducible rfl))) | refine a03 rfl (by rfl) ?_);simp only[Act.put,zA,zB,zC]))
   (refine a04 rfl (by rfl) (fun KK hK=>?_);go_simp)
   obtain⟨v4,hv4⟩:∃ v4,v4=v3.alloc (reO s p p4 (n5:Int) v2.heap.size u5.heap.size (none,0) 0):=⟨_,rfl⟩
   have bv4:Bl v3 v4:=by rw[hv4];exact below_alloc _ _
   have yv4:v4.heap[v3.heap.size]?=some (reO s p p4 (n5:Int) v2.heap.size u5.heap.size (none,0) 0):=by rw[hv4];exact zN _ _
   rw[<- hv4];clear hv4;have k4:Bl u5 v4:=a07 k3 bv4;refine hK.out _ _ (HSS.out _ k4) ?_
   (clear hK KK;try simp only[Act.put,zA,zB,zC])
   (repeat ((first | (refine a02 (v:=?_) rfl (by rfl) (fun wq hSq=>?_) ?_;rotate_left;(focus ((try dsimp only at hSq);go_simp;try with_reducible rfl))) | refine a03 rfl (by rfl) ?_);simp only[Act.put,zA,zB,zC]))
   refine a17 ?_;have HH:Hid (Rn W0 v4 s p p4 n5 g5 v3.heap.size v2.heap.size v1.heap.size u5.heap.size (none,0) 0):=by
    have z1:=(bv3.block _ (lt_of_block yv2)).trans yv2;exact bd6 H5.out.2 H5.out.1 k4 yv4 ((bv4.block _ (lt_of_block yv3)).trans yv3) ((bv4.block _ (lt_of_block z1)).trans z1) haz k1.size k3.size
   go_wp2_with fail
   go_meet
   exact⟨_,_,_,_,rfl,HH.out⟩
 case rest =>
  obtain⟨bd,bw,gw,gs,rfl,HR0⟩:=hcut;have HCC:Hid (∀ u t k,Rn W0 u s p p4 n5 g5 bd bw gw gs t k->(u.cell? ⟨w.heap.size,1,none⟩=some (.int .i64 s.b)/\u.cell? ⟨w.heap.size,4,none⟩=some (.slice p.ps s.st.length p.cs)/\u.cell? ⟨w.heap.size,6,none⟩=some (.slice p.pt s.cl.length p.ct)/\w.heap.size<u.heap.size)/\(u.cell? ⟨bd,13,none⟩=some (.pointer (some ⟨bw,0,none⟩))/\u.cell? ⟨bd,14,none⟩=some (.slice t.1 k t.2)/\bd<u.heap.size)/\u.cell? ⟨bw,0,none⟩=some (.slice (some ⟨gw,0,none⟩) n5 n5)/\bw<u.heap.size/\u.cell? ⟨g5,4,none⟩=some (.int .i64 p4)/\g5<u.heap.size):=fun u t k hu=>by
   obtain⟨_,c1,_,_,c4,_,c6,c7⟩:=a43 (HX.out u hu.bl).2.1;exact⟨⟨c1,c4,c6,c7⟩,⟨(zR u bd 13 _ _ _ hu.bx).trans rfl,(zR u bd 14 _ _ _ hu.bx).trans rfl,lt_of_block hu.bx⟩,(zR u bw 0 _ _ _ hu.wb).trans rfl,lt_of_block hu.wb,(ab1 hu.pl).2.2.2.2.1,lt_of_block hu.pl⟩
  obtain⟨⟨_,x4,_,x7⟩,_⟩:=HCC.out _ _ _ HR0.out;have l1:(s.st.length:Int)<=256:=by omega
  clear H5 hmw hmb haz;go_wp2_with fail;clear x4 x7
  go_loopw [39] (fun v39 wr=>∃ k:Nat,v39=.int .i64 (k:Int)/\k<=s.st.length/\Hid (Rn W0 wr s p p4 n5 g5 bd bw gw gs (none,0) 0)) (fun v39 _=>s.st.length - (intOf v39).toNat)
  case atStart=>exact⟨0,rfl,zV _,HR0.out⟩
  case round =>
   clear HR0;obtain⟨k,rfl,hk,HR⟩:=hrel;obtain⟨⟨x1,x4,x6,x7⟩,⟨y13,y14,ly⟩,z0,lz,q4,lq⟩:=HCC.out _ _ _ HR.out
   by_cases hlt:k<s.st.length
   ·have hlt':(k:Int)<(s.st.length:Int):=by omega
    obtain⟨g,o,e,hg,c0⟩:=(HX.out _ HR.out.bl).1.st k hlt;obtain⟨arr,r1,r2⟩:=HR.out.ww;obtain⟨ix,hix⟩:∃ ix:Nat,p4+3*(k:Int)+1=(ix:Int):=⟨(p4+3*(k:Int)+1).toNat,by omega⟩
    have hixl:(ix:Int)<(n5:Int):=by omega
    have w1:IntKind.i64.wrap (3*(k:Int))=3*(k:Int):=Go.IntWalk.i64_in _ ⟨by omega,by omega⟩;have w2:IntKind.i64.wrap (p4+3*(k:Int))=p4+3*(k:Int):=Go.IntWalk.i64_in _ ⟨by omega,by omega⟩;have w3:IntKind.i64.wrap (ix:Int)=(ix:Int):=Go.IntWalk.i64_in _ ⟨by omega,by omega⟩;rw[e]
    go_upto_region 9 with fail
    refine a35 (fun u=>u.cell? ⟨bd,13,none⟩=some (.pointer (some ⟨bw,0,none⟩))/\u.cell? ⟨bw,0,none⟩=some (.slice (some ⟨gw,0,none⟩) n5 n5)/\u.cell? ⟨g5,4,none⟩=some (.int .i64 p4) )  ((0,true)::(1,true)::(2,true)::(3,true)::(4,true)::(5,true)::(6,true)::(7,true)::(8,true)::(9,true)::(10,true)::(11,true)::(12,true)::(13,true)::(14,false)::(15,true)::(16,false)::[])  Md.Cv.follows13 (by kernel_rfl) (fun _ _ _ _ _ h=>h)  ⟨y13,z0,q4⟩ ?_
    (repeat (refine a27 (v:=?_) rfl (by rfl) (fun wq hSq=>?_) ?_;rotate_left;(focus ((try dsimp only at hSq);go_simp;try with_reducible rfl));simp only[Act.put,zA,zB,zC]))
    (refine a25 rfl (by rfl) (fun KK hK=>?_);go_simp)
    refine(aR6 _ _).mono ?_;rintro r u2 ⟨rfl,hu2⟩;subst hu2;refine hK.out _ _ (fun _=>⟨y13,z0,q4⟩) ?_
    (clear hK KK;try simp only[Act.put,zA,zB,zC])
    have c1:∃ v,wr.drew.cell? ⟨gw,ix,none⟩=some v:=by
     have a1:wr.drew.heap[gw]?=some (.cells arr 69 (0,0)):=r1;rw[zR wr.drew gw ix _ _ _ a1];exact⟨_,Array.getElem?_eq_getElem (by omega)⟩
    obtain⟨v1,hv1⟩:=c1;have fz:wr.drew.frozen? ⟨gw,ix,none⟩=false:=zZ wr.drew gw ix _ _ (show wr.drew.heap[gw]?=_ from r1);have lgw:gw<wr.drew.heap.size:=lt_of_block (show wr.drew.heap[gw]?=_ from r1);have HP:=zH (fun v=>(HR.out.on ((Same.drew wr).below _)).put ix v)
    (repeat (refine a27 (v:=?_) rfl (by rfl) (fun wq hSq=>?_) ?_;rotate_left;(focus ((try dsimp only at hSq);go_simp;try with_reducible rfl));simp only[Act.put,zA,zB,zC]))
    (refine a25 rfl (by rfl) (fun KK hK=>?_);go_simp)
    refine hK.out _ _ (fun hn=>absurd rfl hn) ?_
    (clear hK KK;try simp only[Act.put])
    refine a64 ?_;clear hv1 fz lgw y13 y14 z0 q4 c0 x1 x4 x6 w1 w2 w3;go_wp2_with fail;exact⟨⟨k+1,by first | rfl | (congr 1),by omega,HP.out _⟩,by simp[intOf];omega⟩
   ·have hlt':¬ (k:Int)<(s.st.length:Int):=by omega
    go_wp2_with fail;clear x1 x4 x6 x7 y13 y14 ly z0 lz q4 lq hlt hlt' hk l1
    go_loopw [10] (fun v10 wr=>∃ k:Nat,v10=.int .i64 (k:Int)/\k<=s.n/\Hid (∃ tp tc,Rn W0 wr s p p4 n5 g5 bd bw gw gs (tp,tc) k)) (fun v10 _=>s.n - (intOf v10).toNat)
    case atStart=>exact⟨0,rfl,zV _,none,0,HR.out⟩
    case round =>
     clear HR;obtain⟨k,rfl,hk,HR⟩:=hrel;obtain⟨tp,tc,hr⟩:=HR.out;have HRR:=zH hr;obtain⟨⟨x1,x4,x6,x7⟩,⟨y13,y14,ly⟩,z0,lz,q4,lq⟩:=HCC.out _ _ _ hr
     by_cases hlt:k<s.n
     ·have hlt':(k:Int)<s.b:=by omega
      have k8:k<8:=by omega
      have HSU:Hid (∀ u,Bl wr u->u.cell? ⟨w.heap.size,6,none⟩=some (.slice p.pt s.cl.length p.ct)/\w.heap.size<u.heap.size/\u.cell? ⟨bd,14,none⟩=some (.slice tp k tc)/\bd<u.heap.size):=fun u hu=>by
       obtain⟨⟨_,_,a6,a7⟩,⟨_,b14,lb⟩,_⟩:=HCC.out _ _ _ (HRR.out.on hu);exact⟨a6,a7,b14,lb⟩
      have HAP:Hid (∀ u,Bl wr u->∃ v w',(Builtin.append_ #[47,47] 47 #[.slice tp k tc,.slice (some ⟨u.heap.size,0,none⟩) 1 1]).run Tryz.prog (u.alloc (.cells #[.pointer (some ⟨wr.heap.size,0,none⟩)] 96))=.ok v w'/\∃ g c,v=.slice (some ⟨g,0,none⟩) (k+1) c/\Rn W0 (w'.setCell ⟨bd,14,none⟩ v) s p p4 n5 g5 bd bw gw gs (some ⟨g,0,none⟩,c) (k+1)/\w'.heap[bd]?=some (reO s p p4 (n5:Int) bw gs (tp,tc) k)):=fun u hu=>(HRR.out.on (hu.alloc hu.size _)).app k8 (zN _ _) _
      obtain⟨ob,hob⟩:∃ ob:Obj,ob=.cells #[.slice none 0 0,.int .i64 0,.pointer none,.pointer none,.int .i64 0] 100:=⟨_,rfl⟩
      by_cases hl:k<s.cl.length
      ·have hl':(k:Int)<(s.cl.length:Int):=by omega
       obtain⟨g,o,qa,c,ep,hg,c0,_,_⟩:=(HX.out _ hr.bl).1.cl k hl;rw[ep]at HSU x6;clear hr HR
       go_upto_region 15 with fail
       obtain⟨w2,hw2⟩:∃ w2,w2=wr.alloc ob:=⟨_,rfl⟩
       have H2:Hid (Bl wr w2/\w2.heap[wr.heap.size]?=some ob):=by rw[hw2];exact⟨below_alloc _ _,by rw[hob];exact zN _ _⟩
       rw[<- hob,<- hw2];clear hw2 x1 x4 x6 x7 y13 y14 ly z0 lz q4 lq;have H3:Hid (∀ v,Bl wr (w2.setCell ⟨wr.heap.size,0,none⟩ v)):=fun v=>H2.out.1.setCell (zE _) v
       have hbx:=H2.out.2;rw[hob]at hbx;have t0:=(zR w2 wr.heap.size 0 _ _ _ hbx).trans (rfl:_=some (Value.slice none 0 0));have f0:=zZ w2 wr.heap.size 0 _ _ hbx;have lt0:=lt_of_block hbx;obtain⟨x6,x7,y14,ly⟩:=HSU.out w2 H2.out.1;have c0':w2.cell? ⟨g,o+k,none⟩=some (.slice qa (s.cl.getD k []).length c):=(H2.out.1.cell (p:=⟨g,_,none⟩) hg).trans c0;have hg':g<w2.heap.size:=zL hg H2.out.1.size;obtain⟨m,hm⟩:∃ m,(s.cl.getD k []).length=m:=⟨_,rfl⟩
       rw[hm]at c0';clear c0 hg hm hbx hob
       go_upto_region 17 with fail
       obtain⟨gy,hgy⟩:∃ gy,wr.heap.size=gy:=⟨_,rfl⟩
       obtain⟨w3,hw3⟩:∃ w3,w3=w2.setCell ⟨gy,0,none⟩ (.slice qa m c):=⟨_,rfl⟩
       rw[hgy,<- hw3];have b3:Bl wr w3:=by rw[hw3,<- hgy];exact H3.out _
       have HA:=zH (HAP.out w3 b3);rw[hgy]at HA;clear hw3 t0 f0 lt0 x6 x7 y14 ly c0' hg';obtain⟨x6,x7,y14,ly⟩:=HSU.out w3 b3;clear b3 hgy
       go_upto_region 13 with(at_builtin;refine ac9 rfl _ _ 47 47 rfl (.slice tp k tc) (.slice (some ⟨w3.heap.size,0,none⟩) 1 1) rfl rfl HA.out ?_;rintro v u3 ⟨g6,c6,rfl,m1,m2⟩;have e6:=(zR u3 bd 14 _ _ _ m2).trans (rfl:_=some (Value.slice tp k tc));have f6:=zZ u3 bd 14 _ _ m2;have l6:=lt_of_block m2;have HN:=zH m1;clear m1 m2)
       go_wp2_with fail;exact⟨⟨k+1,by first | rfl | (congr 1),by omega,_,_,HN.out⟩,by simp[intOf];omega⟩
      ·have hl':¬ (k:Int)<(s.cl.length:Int):=by omega
       clear hr HR
       go_upto_region 15 with fail
       obtain⟨w2,hw2⟩:∃ w2,w2=wr.alloc ob:=⟨_,rfl⟩
       have H2:Hid (Bl wr w2):=by rw[hw2];exact below_alloc _ _
       rw[<- hob,<- hw2];clear hw2 x1 x4 x6 x7 y13 y14 ly z0 lz q4 lq hob;obtain⟨x6,x7,y14,ly⟩:=HSU.out w2 H2.out;have HA:=zH (HAP.out w2 H2.out);obtain⟨gy,hgy⟩:∃ gy,wr.heap.size=gy:=⟨_,rfl⟩
       rw[hgy]at HA;rw[hgy];clear hgy
       go_upto_region 13 with(at_builtin;refine ac9 rfl _ _ 47 47 rfl (.slice tp k tc) (.slice (some ⟨w2.heap.size,0,none⟩) 1 1) rfl rfl HA.out ?_;rintro v u3 ⟨g6,c6,rfl,m1,m2⟩;have e6:=(zR u3 bd 14 _ _ _ m2).trans (rfl:_=some (Value.slice tp k tc));have f6:=zZ u3 bd 14 _ _ m2;have l6:=lt_of_block m2;have HN:=zH m1;clear m1 m2)
       go_wp2_with fail;exact⟨⟨k+1,by first | rfl | (congr 1),by omega,_,_,HN.out⟩,by simp[intOf];omega⟩
     ·have hlt':¬ (k:Int)<s.b:=by omega
      have HE:Hid ((∃ bw gs tp tc,wr.heap[bd]?=some (reO s p p4 (n5:Int) bw gs (tp,tc) s.n))/\w.heap.size<=bd/\Bl w wr):=by
       have e:k=s.n:=by omega
       subst e;exact⟨⟨bw,gs,tp,tc,hr.bx⟩,zQ HB.out.1.size hr.lo.2,(HX.out _ hr.bl).2.2⟩
      clear hr HR;go_wp2_with fail;go_ret2;exact⟨bd,rfl,HE.out⟩
end
section
variable {w w' u:World} {f f2:Ex} {v v' v2:Ev} {s s2:Su} {Z Z2:Es} {p:Sp}
theorem Eng.keep (h:Eng w f v s Z) (k:∀ i,Kept (own f v i) w w'):Eng w' f v s Z:=by
 obtain⟨d,h1,h2⟩:=h.at_;exact⟨⟨d,h1.keep k,h2⟩,h.wi,h.rn⟩
theorem Eng.blws (h:Eng w f v s Z) (i:Nat):Blw w (own f v i):=by
 obtain⟨d,h1,_⟩:=h.at_;exact h1.blws i
theorem Eng.inF (h:Eng w f v s Z) {j k:Nat} (hj:j≠5) (hk:k∈own f v j):k∈fF f v:=by
 obtain⟨d,h1,_⟩:=h.at_;exact h1.inF hj hk
structure Apt (f:Ex) (v:Ev) (f2:Ex) (v2:Ev):Prop where
 l:∀ k∈fF f v,∀ i,k∉own f2 v2 i
 r:∀ k∈fF f2 v2,∀ i,k∉own f v i
theorem Apt.symm (h:Apt f v f2 v2):Apt f2 v2 f v:=⟨h.r,h.l⟩
theorem Apt.step (h:Apt f v f2 v2) (h2:Eng w f2 v2 s2 Z2) (x:Ext f v v' w w') (h1:Eng w' f v' s Z):Apt f v' f2 v2/\Eng w' f2 v2 s2 Z2:=by
 refine⟨⟨fun k hk i q=>?_,fun k hk i q=>?_⟩,h2.keep fun i=>⟨x.turn.size,fun k hk=>x.turn.block k (h2.blws i k hk) fun q=>h.l k q i hk⟩⟩
 ·rcases x.turn.own k hk with z | z
  ·exact h.l k z i q
  ·have:=h2.blws i k q
   omega
 ·have lt:k<w.heap.size:=by
   obtain⟨j,_,_,hj⟩:=as4.1 hk;exact h2.blws j k hj
  by_cases e:i=5
  ·subst e
   rcases x.ro k q with z | z
   ·exact h.r k hk 5 z
   ·omega
  ·rcases x.turn.own k (h1.inF e q) with z | z
   ·obtain⟨j,_,_,hj⟩:=as4.1 z
    exact h.r k hk j hj
   ·omega
theorem by7 (h:Eng w f v s Z) (n:Frs w.heap.size f2 v2) (hg:1∉fF f v) (i2:∀ j k,j≠5->k∈own f2 v2 j->k∈fF f2 v2):Apt f v f2 v2:=by
 refine⟨fun k hk i q=>?_,fun k hk i q=>?_⟩
 ·have lt:k<w.heap.size:=by
   obtain⟨j,_,_,hj⟩:=as4.1 hk;exact h.blws j k hj
  by_cases e:i=5
  ·subst e
   rcases n.ro k q with z | z
   ·rw[z]at hk;exact hg hk
   ·omega
  ·have:=n.own k (i2 i k e q)
   omega
 ·have:=n.own k hk
  have:=h.blws i k q;omega
structure Bgn (w w':World) (f:Ex) (v:Ev) (s:Su) (p:Sp) (bd:Nat):Prop where
 en:Eng w' f v s (Z0 s)
 fr:Frs w.heap.size f v
 bx:∃ bw gs tp tc,w'.heap[bd]?=some (reO s p (3+s.b) (3+s.b+3*s.a) bw gs (tp,tc) s.n)
 nf:bd∉fF f v
 lo:w.heap.size<=bd
 bl:Bl w w'
theorem bI9 {W0 u1 u1' u2 u3 u4:World} {bd:Nat} (hT:Shaped5 w) (b0:Bl w W0) (b1:Bl W0 u1) (b1':Bl u1 u1') (e2:Eng u2 f v s (Z0 s)) (f2:Frs u1'.heap.size f v) (b2:Bl u1' u2) (hx:∃ bw gs tp tc,u3.heap[bd]?=some (reO s p (3+s.b) (3+s.b+3*s.a) bw gs (tp,tc) s.n)) (l3:u2.heap.size<=bd) (b3:Bl u2 u3) (sp:Spl (W0.heap.size+1) u1 u3 u4):Bgn w u4 f v s p bd:=by
 have g0:=aW9 hT;have s0:=b0.size;have s1:=b1.size;have s1':=b1'.size;have s2:=b2.size;have s3:=b3.size;have e3:=e2.on b3;have lf:∀ k∈fF f v,k<u2.heap.size:=fun k hk=>by
  obtain⟨j,_,_,hj⟩:=as4.1 hk;exact e2.blws j k hj
 refine⟨e3.keep fun i=>⟨sp.size,fun k hk=>sp.out k (e3.blws i k hk) ?_⟩,⟨fun k hk=>by have:=f2.own k hk;omega,fun k hk=>(f2.ro k hk).imp id fun q=>by omega⟩,?_,fun q=>by have:=lf _ q;omega,by omega,⟨sp.os.trans ?_,sp.tape.trans ?_,sp.output.trans ?_,by have:=sp.size;omega,fun k hk=>?_⟩⟩
 ·by_cases e:i=5
  ·subst e
   rcases f2.ro k hk with q | q
   ·exact .inl (by omega)
   ·exact .inr (by omega)
  ·have:=f2.own k (e3.inF e hk)
   exact .inr (by omega)
 ·obtain⟨bw,gs,tp,tc,q⟩:=hx
  exact⟨bw,gs,tp,tc,(sp.out bd (lt_of_block q) (.inr (by omega))).trans q⟩
 ·exact b3.os.trans (b2.os.trans (b1'.os.trans (b1.os.trans b0.os)))
 ·exact b3.tape.trans (b2.tape.trans (b1'.tape.trans (b1.tape.trans b0.tape)))
 ·exact b3.output.trans (b2.output.trans (b1'.output.trans (b1.output.trans b0.output)))
 ·rw[sp.out k (by omega) (.inl (by omega)),b3.block k (by omega),b2.block k (by omega),b1'.block k (by omega),b1.block k (by omega),b0.block k hk]
theorem bi5 (h:SuAt w s p) (z:SuSz s) (hT:Shaped5 w) (he:errS s=0):Calls Tryz.prog 10 #[.agg (suC s p)] w fun r w'=>∃ f v bd,r=.returned (.tuple #[.pointer (some ⟨Ex.b f,0,none⟩),.pointer (some ⟨bd,0,none⟩),.bool true])/\Hid (Bgn w w' f v s p bd):=by
 have HB:=zH (at2 w s p);obtain⟨W0,hW0⟩:∃ W0,W0=w.alloc (suO s p):=⟨_,rfl⟩
 rw[<- hW0]at HB;have HL:=zH (aV2 (h.on HB.out.1) z);have HX:Hid (∀ u,Bl W0 u->SuAt u s p/\u.heap[w.heap.size]?=some (suO s p)/\Shaped5 u):=fun u hu=>⟨(h.on HB.out.1).on hu,(hu.block _ (lt_of_block HB.out.2)).trans HB.out.2,(hT.on HB.out.1).on hu⟩
 have HN:Hid (∀ u p',Bl W0 u->SuNw (W0.heap.size+1) u s p'->Calls Tryz.prog 28 #[.agg (suC s p')] u fun r w'=>∃ f v,r=.returned (.tuple #[.pointer (some ⟨Ex.b f,0,none⟩),.int .i64 0])/\Hid (Eng w' f v s (Z0 s)/\Frs u.heap.size f v/\Bl u w')):=fun u p' hu hn=>bw9 (hn.at_ h.ok z) (HX.out u hu).2.2 he
 have HR:Hid (∀ u,Bl W0 u->Calls Tryz.prog 31 #[.agg (suC s p)] u fun r w'=>∃ bd,r=.returned (.tuple #[.pointer (some ⟨bd,0,none⟩),.int .i64 0])/\Hid ((∃ bw gs tp tc,w'.heap[bd]?=some (reO s p (3+s.b) (3+s.b+3*s.a) bw gs (tp,tc) s.n))/\u.heap.size<=bd/\Bl u w')):=fun u hu=>bE8 (HX.out u hu).1 he
 have HSP:Hid (∀ u0 u p',SuNw (W0.heap.size+1) u0 s p'->Bl u0 u->Calls Tryz.prog 32 #[.agg (suC s p')] u fun r w'=>r=.returned (.tuple #[])/\Hid (Spl (W0.heap.size+1) u0 u w')):=fun u0 u p' hn hu=>aM9 hn z hu
 have HTT:=zH hT;clear h z hT he;go_enter Tryz.func10,Tryz.ntmps10
 go_upto_region 1 with fail
 rw[show w.alloc (.cells (suC s p) 28)=W0 from hW0.symm];clear hW0;obtain⟨x0,x1,x2,x3,x4,x5,x6,x7⟩:=a43 HB.out.2
 go_upto_region 2 with(go_at_call 30;refine HL.out.mono ?_;rintro r u1 ⟨p',rfl,q⟩;have H1:=zH q.out;clear q HL x0 x1 x2 x3 x4 x5 x6 x7)
 obtain⟨g1,hg1⟩:∃ g1,u1.heap.size=g1:=⟨_,rfl⟩
 obtain⟨v1,hv1⟩:∃ v1,v1=u1.alloc (suO s p'):=⟨_,rfl⟩
 rw[show u1.alloc (.cells (suC s p') 28)=v1 from hv1.symm,hg1];have HV:Hid (Bl u1 v1/\v1.heap[g1]?=some (suO s p')):=by rw[hv1,<- hg1];exact⟨below_alloc _ _,zN _ _⟩
 have HV1:Hid (Bl W0 v1/\SuNw (W0.heap.size+1) v1 s p'):=⟨a07 H1.out.2 HV.out.1,H1.out.1.on (Kt.of_below HV.out.1)⟩;clear hv1 hg1;obtain⟨x0,x1,x2,x3,x4,x5,x6,x7⟩:=a43 HV.out.2
 go_wp2_with (first
  | (go_at_call 32;refine(HSP.out u1 u3 p' H1.out.1 (a07 (a07 HV.out.1 H2.out.2.2) H3.out.2.2)).mono ?_;rintro r u4 ⟨rfl,q⟩;have H4:=zH q.out;clear q HSP x0 x1 x2 x3 x4 x5 x6 x7)
  | (go_at_call 31;refine(HR.out u2 (a07 HV1.out.1 H2.out.2.2)).mono ?_;rintro r u3 ⟨bd,rfl,q⟩;have H3:=zH q.out;clear q HR x0 x1 x2 x3 x4 x5 x6 x7;obtain⟨x0,x1,x2,x3,x4,x5,x6,x7⟩:=a43 (((a07 H2.out.2.2 H3.out.2.2).block _ (lt_of_block HV.out.2)).trans HV.out.2))
  | (go_at_call 28;refine(HN.out v1 p' HV1.out.1 HV1.out.2).mono ?_;rintro r u2 ⟨f,v,rfl,q⟩;have H2:=zH q.out;clear q HN x0 x1 x2 x3 x4 x5 x6 x7;obtain⟨x0,x1,x2,x3,x4,x5,x6,x7⟩:=a43 (HX.out u2 (a07 HV1.out.1 H2.out.2.2)).2.1))
 have HE:=zH (bI9 HTT.out HB.out.1 H1.out.2 HV.out.1 H2.out.1 H2.out.2.1 H2.out.2.2 H3.out.1 H3.out.2.1 H3.out.2.2 H4.out);exact bodyPost_ret (v:=.tuple #[.pointer (some ⟨f.b,0,none⟩),.pointer (some ⟨bd,0,none⟩),.bool true]) (by simp[results,Tryz.results10,go_sem]) rfl ⟨f,v,bd,rfl,HE.out⟩
theorem b48 (h:SuAt w s p) (z:SuSz s) (he:¬ errS s=0):Calls Tryz.prog 10 #[.agg (suC s p)] w fun r w'=>r=.returned (.tuple #[.pointer none,.pointer none,.bool true])/\Bl w w':=by
 have HB:=zH (at2 w s p);obtain⟨W0,hW0⟩:∃ W0,W0=w.alloc (suO s p):=⟨_,rfl⟩
 rw[<- hW0]at HB;have HL:=zH (aV2 (h.on HB.out.1) z);have HX:Hid (∀ u,Bl W0 u->SuAt u s p/\u.heap[w.heap.size]?=some (suO s p)):=fun u hu=>⟨(h.on HB.out.1).on hu,(hu.block _ (lt_of_block HB.out.2)).trans HB.out.2⟩
 have HN:Hid (∀ u p',SuNw (W0.heap.size+1) u s p'->Calls Tryz.prog 28 #[.agg (suC s p')] u fun r w'=>r=.returned (.tuple #[.pointer none,.int .i64 (errS s)])/\Bl u w'):=fun u p' hn=>bD2 (hn.at_ h.ok z) he
 have HR:Hid (∀ u,Bl W0 u->Calls Tryz.prog 31 #[.agg (suC s p)] u fun r w'=>r=.returned (.tuple #[.pointer none,.int .i64 (errS s)])/\Bl u w'):=fun u hu=>bq8 (HX.out u hu).1 he
 have HSP:Hid (∀ u0 u p',SuNw (W0.heap.size+1) u0 s p'->Bl u0 u->Calls Tryz.prog 32 #[.agg (suC s p')] u fun r w'=>r=.returned (.tuple #[])/\Hid (Spl (W0.heap.size+1) u0 u w')):=fun u0 u p' hn hu=>aM9 hn z hu
 obtain⟨e,hee⟩:∃ e,errS s=e:=⟨_,rfl⟩
 rw[hee]at HN HR he;have heb:(e == 0)=false:=by simpa using he
 clear h z he hee;go_enter Tryz.func10,Tryz.ntmps10
 go_upto_region 1 with fail
 rw[show w.alloc (.cells (suC s p) 28)=W0 from hW0.symm];clear hW0;obtain⟨x0,x1,x2,x3,x4,x5,x6,x7⟩:=a43 HB.out.2
 go_upto_region 2 with(go_at_call 30;refine HL.out.mono ?_;rintro r u1 ⟨p',rfl,q⟩;have H1:=zH q.out;clear q HL x0 x1 x2 x3 x4 x5 x6 x7)
 obtain⟨g1,hg1⟩:∃ g1,u1.heap.size=g1:=⟨_,rfl⟩
 obtain⟨v1,hv1⟩:∃ v1,v1=u1.alloc (suO s p'):=⟨_,rfl⟩
 rw[show u1.alloc (.cells (suC s p') 28)=v1 from hv1.symm,hg1];have HV:Hid (Bl u1 v1/\v1.heap[g1]?=some (suO s p')):=by rw[hv1,<- hg1];exact⟨below_alloc _ _,zN _ _⟩
 have HV1:Hid (Bl W0 v1/\SuNw (W0.heap.size+1) v1 s p'):=⟨a07 H1.out.2 HV.out.1,H1.out.1.on (Kt.of_below HV.out.1)⟩;clear hv1 hg1;obtain⟨x0,x1,x2,x3,x4,x5,x6,x7⟩:=a43 HV.out.2
 go_wp2_with (first
  | (go_at_call 32;refine(HSP.out u1 u3 p' H1.out.1 (a07 (a07 HV.out.1 H2.out) H3.out)).mono ?_;rintro r u4 ⟨rfl,q⟩;have H4:=zH q.out;clear q HSP x0 x1 x2 x3 x4 x5 x6 x7)
  | (go_at_call 31;refine(HR.out u2 (a07 HV1.out.1 H2.out)).mono ?_;rintro r u3 ⟨rfl,q⟩;have H3:=zH q;clear q HR x0 x1 x2 x3 x4 x5 x6 x7;obtain⟨x0,x1,x2,x3,x4,x5,x6,x7⟩:=a43 (((a07 H2.out H3.out).block _ (lt_of_block HV.out.2)).trans HV.out.2))
  | (go_at_call 28;refine(HN.out v1 p' HV1.out.2).mono ?_;rintro r u2 ⟨rfl,q⟩;have H2:=zH q;clear q HN x0 x1 x2 x3 x4 x5 x6 x7;obtain⟨x0,x1,x2,x3,x4,x5,x6,x7⟩:=a43 (HX.out u2 (a07 HV1.out.1 H2.out)).2))
 have HE:Hid (Bl w u4):=by
  have sp:=H4.out;have b3:=a07 HB.out.1 (a07 HV1.out.1 (a07 H2.out H3.out));have s0:=HB.out.1.size;have s3:=b3.size;exact⟨sp.os.trans b3.os,sp.tape.trans b3.tape,sp.output.trans b3.output,zQ s3 sp.size,fun k hk=>(sp.out k (by omega) (.inl (by omega))).trans (b3.block k hk)⟩
 exact bodyPost_ret (v:=.tuple #[.pointer none,.pointer none,.bool true]) (by simp[results,Tryz.results10,go_sem]) rfl ⟨rfl,HE.out⟩
end
attribute [local go_sem] a00
theorem aI4 {w u:World} (h:Same w u) (p:Addr):u.cell? p=w.cell? p:=by unfold World.cell?;rw[h.heap]
section
variable {B:Nat} {w u:World} {g n:Nat} {s:Su} {Z:Es} {D:Nat->Rr.Dd}
def zz:Array Value:=#[.int .i64 0,.int .i64 0,.int .i64 0,.int .i64 0,.slice none 0 0,.int .i64 0,.int .i64 0,.slice none 0 0,.slice none 0 0,.slice none 0 0,.int .i64 0,.int .i64 0,.int .i64 0,.int .i64 0,.int .i64 0,.int .i64 0,.int .i64 0,.int .i64 0,.int .i64 0]
attribute [local go_sem] a00
end
section
variable {w:World} {s:Su} {Z:Es} {B1 B2 g1 g2 n:Nat} {D1 D2:Nat->Rr.Dd}
theorem DdsAt.cells (h:DdsAt w B1 g1 n n s Z D1) {k:Nat} (hk:k<n):∀ j,j<19->w.cell? ⟨g1,k*19+j,none⟩=(as2 s Z k (D1 k) (Z.X.R:Int))[j]?:=fun _ hj=>h.row.cell hk hj
end
section
variable {w:World} {f1 f2:Ex} {v1 v2:Ev} {s:Su} {Z:Es}
theorem a89 {u:World} {g:Nat} {ws:List Int} (h:Md.RowAt u g ws) {k:Nat} (hk:k<ws.length):u.cell? ⟨g,k,none⟩=some (.int .u64 (ws.getD k 0))/\g<u.heap.size:=by
 refine⟨?_,lt_of_block h⟩;rw[zR u g k _ _ _ h]
 simp[u64s,hk]
end
def updE {α:Type} (f:Nat->α) (i:Nat) (x:α):Nat->α:=fun k=>if k=i then x else f k
theorem a45 {α:Type} (f:Nat->α) (i:Nat) (x:α):updE f i x i=x:=if_pos rfl
theorem a60 {α:Type} (f:Nat->α) {i k:Nat} (x:α) (h:k≠i):updE f i x k=f k:=if_neg h
structure Many (W w:World) (n:Nat) (F:Nat->Ex) (V:Nat->Ev) (s:Su) (Z:Nat->Es) (G:List (Nat × Obj)):Prop where
 bl:Bl W w
 en:∀ i,i<n->Eng w (F i) (V i) s (Z i)
 ap:∀ i j,i<n->j<n->i≠j->Apt (F i) (V i) (F j) (V j)
 fr:∀ i,i<n->Frs W.heap.size (F i) (V i)
 ot:∀ g∈G,w.heap[g.1]?=some g.2/\∀ i,i<n->g.1∉fF (F i) (V i)
section
variable {W w w':World} {n i:Nat} {F:Nat->Ex} {V:Nat->Ev} {s:Su} {Z:Nat->Es} {G:List (Nat × Obj)}
theorem ac7 {u:World} {g:Nat} {o:Obj} (h:u.heap[g]?=some o):g<u.heap.size:=(Array.getElem?_eq_some_iff.1 h).1
theorem bm4 (F:Nat->Ex) (V:Nat->Ev) (s:Su) (Z:Nat->Es) (b:Bl W w):Many W w 0 F V s Z []:=⟨b,fun _ h=>absurd h (zI _),fun _ _ h=>absurd h (zI _),fun _ h=>absurd h (zI _),fun _ h=>(by cases h)⟩
theorem Many.on (h:Many W w n F V s Z G) (k:Bl w w'):Many W w' n F V s Z G :=
 ⟨a07 h.bl k,fun i hi=>(h.en i hi).on k,h.ap,h.fr,fun g hg=>⟨(k.block _ (ac7 (h.ot g hg).1)).trans (h.ot g hg).1,(h.ot g hg).2⟩⟩
theorem Many.old (h:Many W w n F V s Z G) (hi:i<n) {k:Nat} (hk:k∈fF (F i) (V i)):k<w.heap.size:=by
 obtain⟨j,_,_,q⟩:=as4.1 hk;exact(h.en i hi).blws j k q
theorem Many.more (h:Many W w n F V s Z G) (k:Bl w w') {G':List (Nat × Obj)} (hG:∀ y∈G',w.heap.size<=y.1/\w'.heap[y.1]?=some y.2):Many W w' n F V s Z (G' ++ G):=by
 have m:=h.on k;refine⟨m.bl,m.en,m.ap,m.fr,fun g' hg=>?_⟩
 rcases List.mem_append.1 hg with q | q
 ·exact⟨(hG _ q).2,fun i hi z=>by have:=h.old hi z;have:=(hG _ q).1;omega⟩
 ·exact m.ot g' q
theorem Many.cong (h:Many W w n F V s Z G) {V':Nat->Ev} {Z':Nat->Es} (hV:∀ i,i<n->V' i=V i) (hZ:∀ i,i<n->Z' i=Z i):Many W w n F V' s Z' G :=
 ⟨h.bl,fun i hi=>by rw[hV i hi,hZ i hi];exact h.en i hi,fun i j hi hj e=>by rw[hV i hi,hV j hj];exact h.ap i j hi hj e,fun i hi=>by rw[hV i hi];exact h.fr i hi,fun g hg=>⟨(h.ot g hg).1,fun i hi=>by rw[hV i hi];exact(h.ot g hg).2 i hi⟩⟩
theorem Many.step (h:Many W w n F V s Z G) (hi:i<n) {v':Ev} {Z':Es} (x:Ext (F i) (V i) v' w w') (e:Eng w' (F i) v' s Z'):Many W w' n F (updE V i v') s (updE Z i Z') G:=by
 obtain⟨f1,f2⟩:=(h.fr i hi).ext h.bl.size x;refine⟨h.bl.trans f2,fun j hj=>?_,fun j k hj hk ne=>?_,fun j hj=>?_,fun g hg=>⟨(x.turn.block _ (ac7 (h.ot g hg).1) ((h.ot g hg).2 i hi)).trans (h.ot g hg).1,fun j hj=>?_⟩⟩
 ·by_cases c:j=i
  ·subst c
   rw[a45,a45];exact e
  ·rw[a60 _ _ c,a60 _ _ c]
   exact((h.ap i j hi hj (fun q=>c q.symm)).step (h.en j hj) x e).2
 ·by_cases c:j=i
  ·subst c
   rw[a45,a60 _ _ (fun q=>ne q.symm)];exact((h.ap j k hi hk ne).step (h.en k hk) x e).1
  ·rw[a60 _ _ c]
   by_cases c2:k=i
   ·subst c2
    rw[a45];exact((h.ap k j hi hj (fun q=>ne q.symm)).step (h.en j hj) x e).1.symm
   ·rw[a60 _ _ c2]
    exact h.ap j k hj hk ne
 ·by_cases c:j=i
  ·subst c
   rw[a45];exact f1
  ·rw[a60 _ _ c]
   exact h.fr j hj
 ·by_cases c:j=i
  ·subst c
   rw[a45];intro q
   rcases x.turn.own _ q with z | z
   ·exact(h.ot g hg).2 j hi z
   ·have:=ac7 (h.ot g hg).1
    omega
  ·rw[a60 _ _ c]
   exact(h.ot g hg).2 j hj
theorem Many.begins (h:Many W w n F V s Z G) (hT:Shaped5 W) {f:Ex} {v:Ev} {p:Sp} {bd:Nat} (b:Bgn w w' f v s p bd):∃ bw gs tp tc,Many W w' (n+1) (updE F n f) (updE V n v) s (updE Z n (Z0 s)) ((bd,reO s p (3+s.b) (3+s.b+3*s.a) bw gs (tp,tc) s.n)::G):=by
 have l0:=h.bl.size;have apn:∀ j,j<n->Apt (F j) (V j) f v:=fun j hj=>by7 (h.en j hj) b.fr (fun q=>by
  have:=(h.fr j hj).own _ q;have:=aW9 hT;omega) (fun j k hj hk=>b.en.inF hj hk)
 obtain⟨bw,gs,tp,tc,hbx⟩:=b.bx;refine⟨bw,gs,tp,tc,a07 h.bl b.bl,fun j hj=>?_,fun j k hj hk ne=>?_,fun j hj=>?_,fun g hg=>?_⟩
 ·by_cases c:j=n
  ·subst c
   rw[a45,a45,a45];exact b.en
  ·rw[a60 _ _ c,a60 _ _ c,a60 _ _ c]
   exact(h.en j (by omega)).on b.bl
 ·by_cases c:j=n
  ·subst c
   rw[a45,a45,a60 _ _ (fun q=>ne q.symm),a60 _ _ (fun q=>ne q.symm)];exact(apn k (by omega)).symm
  ·rw[a60 _ _ c,a60 _ _ c]
   by_cases c2:k=n
   ·subst c2
    rw[a45,a45];exact apn j (by omega)
   ·rw[a60 _ _ c2,a60 _ _ c2]
    exact h.ap j k (by omega) (by omega) ne
 ·by_cases c:j=n
  ·subst c
   rw[a45,a45];exact⟨fun k hk=>zQ l0 (b.fr.own k hk),fun k hk=>(b.fr.ro k hk).imp id (zQ l0)⟩
  ·rw[a60 _ _ c,a60 _ _ c]
   exact h.fr j (by omega)
 ·rcases List.mem_cons.1 hg with rfl | q
  ·refine⟨hbx,fun j hj z=>?_⟩
   by_cases c:j=n
   ·subst c
    rw[a45,a45]at z;exact b.nf z
   ·rw[a60 _ _ c,a60 _ _ c]at z
    have q0:bd<w.heap.size:=h.old (by omega) z;have:=b.lo;omega
  ·obtain⟨q1,q2⟩:=h.ot g q
   refine⟨(b.bl.block _ (ac7 q1)).trans q1,fun j hj z=>?_⟩
   by_cases c:j=n
   ·subst c
    rw[a45,a45]at z;have:=b.fr.own _ z;have:=ac7 q1;omega
   ·rw[a60 _ _ c,a60 _ _ c]at z
    exact q2 j (by omega) z
end
def yOf (s:Su) (x:Nat->Int) (i:Nat):Nat:=(x i % s.b).toNat
theorem bh4 {s:Su} (hs:SuIn s) (x:Nat->Int) (i:Nat):x i % s.b=(yOf s x i:Int)/\yOf s x i<s.n:=by
 have b8:=hs.b8;have nb:=hs.nb;have h1:=Int.emod_nonneg (x i) (show s.b≠0 by omega);have h2:=Int.emod_lt_of_pos (x i) (show 0<s.b by omega);unfold yOf;omega
section
variable {W w:World} {n i:Nat} {F:Nat->Ex} {V:Nat->Ev} {s:Su} {Z:Nat->Es} {G:List (Nat × Obj)}
theorem Many.run (h:Many W w n F V s Z G) (hs:SuIn s) (hi:i<n) {p:Option Addr} {m c:Nat} {x:Nat->Int} (hx:Sd.IntsAt w p m x) (hm:m<=65536) (hN:(Z i).X.H.N+65536<4611686018427387904) :
  Calls Tryz.prog 12 #[.pointer (some ⟨(F i).b,0,none⟩),.slice p m c] w fun r w'=>r=.returned (.tuple #[.int .i64 (didZ s (Z i) (yOf s x) m:Int),.int .i64 0])/\Hid (∃ V',Many W w' n F V' s (updE Z i (runZ s (Z i) (yOf s x) m)) G):=by
 refine(bF7 (h.en i hi) hs hx hm hN (fun k _=>bh4 hs x k)).mono ?_;rintro r w' ⟨rfl,q⟩;obtain⟨v',q1,q2⟩:=q.out;exact⟨rfl,_,h.step hi q2 q1⟩
end
def z3 (a b c:Es):Nat->Es:=fun i=>if i=0 then a else if i=1 then b else c
def Mz (n:Nat) (W u:World) (F:Nat->Ex) (s:Su) (G:List (Nat × Obj)) (a b c:Es):Prop:=∃ V,Many W u n F V s (z3 a b c) G
section
variable {n:Nat} {W u u':World} {F:Nat->Ex} {s:Su} {G:List (Nat × Obj)} {a b c:Es}
theorem bI6 (a:Es) (i:Nat):z3 a a a i=a:=by
 unfold z3
 split
 ·rfl
 ·split <;> rfl
theorem z3_0 (a b c a':Es):∀ i,z3 a' b c i=updE (z3 a b c) 0 a' i:=fun i=>by
 unfold z3 updE
 by_cases h:i=0
 ·rw[if_pos h,if_pos h]
 ·rw[if_neg h,if_neg h]
  exact(if_neg h).symm
theorem Mz.bl (h:Mz n W u F s G a b c):Bl W u:=by
 obtain⟨V,h⟩:=h;exact h.bl
theorem Mz.on (h:Mz n W u F s G a b c) (k:Bl u u'):Mz n W u' F s G a b c:=by
 obtain⟨V,h⟩:=h;exact⟨V,h.on k⟩
theorem Mz.ot (h:Mz n W u F s G a b c) {g:Nat × Obj} (hg:g∈G):u.heap[g.1]?=some g.2:=by
 obtain⟨V,h⟩:=h;exact(h.ot g hg).1
theorem Mz.more (h:Mz n W u F s G a b c) (k:Bl u u') {G':List (Nat × Obj)} (hG:∀ y∈G',u.heap.size<=y.1/\u'.heap[y.1]?=some y.2):Mz n W u' F s (G' ++ G) a b c:=by
 obtain⟨V,h⟩:=h;exact⟨V,h.more k hG⟩
theorem Mz.run0 (h:Mz n W u F s G a b c) (hs:SuIn s) (hn:0<n) {p:Option Addr} {m k:Nat} {x:Nat->Int} (hx:Sd.IntsAt u p m x) (hm:m<=65536) (hN:a.X.H.N+65536<4611686018427387904) :
  Calls Tryz.prog 12 #[.pointer (some ⟨(F 0).b,0,none⟩),.slice p m k] u fun r w'=>r=.returned (.tuple #[.int .i64 (didZ s a (yOf s x) m:Int),.int .i64 0])/\Hid (Mz n W w' F s G (runZ s a (yOf s x) m) b c):=by
 obtain⟨V,h⟩:=h;refine(h.run hs hn hx hm hN).mono ?_;rintro r w' ⟨rfl,q⟩;obtain⟨V',q⟩:=q.out;exact⟨rfl,V',q.cong (fun _ _=>rfl) (fun i _=>z3_0 _ _ _ _ i)⟩
theorem aV7 (hT:Shaped5 W) {f:Ex} {v:Ev} {p:Sp} {bd:Nat} (b:Bl W u) (h:Bgn u u' f v s p bd):∃ bw gs tp tc,Mz 1 W u' (fun _=>f) s [(bd,reO s p (3+s.b) (3+s.b+3*s.a) bw gs (tp,tc) s.n)] (Z0 s) (Z0 s) (Z0 s):=by
 obtain⟨bw,gs,tp,tc,q⟩:=(bm4 (fun _=>f) (fun _=>v) s (fun _=>Z0 s) b).begins hT h;refine⟨bw,gs,tp,tc,fun _=>v,?_⟩;have e1:updE (fun _:Nat=>f) 0 f=fun _=>f:=by funext i;unfold updE;split <;> rfl
 have e2:updE (fun _:Nat=>v) 0 v=fun _=>v:=by funext i;unfold updE;split <;> rfl
 have e3:updE (fun _:Nat=>Z0 s) 0 (Z0 s)=z3 (Z0 s) (Z0 s) (Z0 s):=by funext i;rw[bI6];unfold updE;split <;> rfl
 rw[e1,e2,e3]at q;exact q
end
def smA:List Ins:=[⟨1,0,4617315517961601024⟩,⟨1,0,0⟩,⟨17,0,0⟩,⟨20,0,0⟩]
def smB:List Ins:=[⟨1,0,0⟩,⟨16,0,0⟩,⟨18,0,0⟩,⟨20,0,0⟩]
def sm:Su:=⟨1,2,20,1,[],[(2,smA),(1,smB)],[[(0,[])],[(1,[])]]⟩
def alls (w:World):List Obj->World
 | []=>w
 | o::l=>alls (w.alloc o) l
theorem aO4:∀ (l:List Obj) (w:World),Bl w (alls w l)
 | [],_=>zF _ _
 | o::l,w=>(below_alloc w o).trans ((aO4 l (w.alloc o)).mono (below_alloc w o).size)
theorem aD1:∀ (l:List Obj) (w:World) (i:Nat) (o:Obj),l[i]?=some o->(alls w l).heap[w.heap.size+i]?=some o
 | [],_,_,_,h=>by simp at h
 | o::l,w,0,o',h=>by
  obtain rfl:o=o':=by simpa using h
  have e:=zN w o;exact((aO4 l (w.alloc o)).block _ (by rw[Array.getElem?_eq_some_iff]at e;exact e.1)).trans e
 | o::l,w,i+1,o',h=>by
  have:=aD1 l (w.alloc o) i o' (by simpa using h);have e:(w.alloc o).heap.size=w.heap.size+1:=by simp
  rw[e]at this;rw[show w.heap.size+(i+1)=w.heap.size+1+i by omega];exact this
def smP (n:Nat):Sp:=⟨none,0,some ⟨n+5,0,none⟩,2,some ⟨n+8,0,none⟩,2⟩
def insA (l:List Ins):Array Value:=(l.flatMap fun i=>[Value.int .i64 i.op,.int .i64 i.n,.float .f64 i.x]).toArray
def smO (n:Nat):List Obj :=
 [.cells #[.int .i64 1,.int .i64 2,.int .i64 20,.int .i64 1,.slice none 0 0,.slice (some ⟨n+5,0,none⟩) 2 2,.slice (some ⟨n+8,0,none⟩) 2 2] 28,
  .cells (insA smA) 133,.cells #[.int .i64 2,.slice (some ⟨n+1,0,none⟩) 4 4] 136,
  .cells (insA smB) 133,.cells #[.int .i64 1,.slice (some ⟨n+3,0,none⟩) 4 4] 136,
  .cells #[.int .i64 2,.slice (some ⟨n+1,0,none⟩) 4 4,.int .i64 1,.slice (some ⟨n+3,0,none⟩) 4 4] 136,
  .cells #[.int .i64 0,.slice none 0 0] 138,.cells #[.int .i64 1,.slice none 0 0] 138,
  .cells #[.slice (some ⟨n+6,0,none⟩) 1 1,.slice (some ⟨n+7,0,none⟩) 1 1] 59]
theorem four {i:Nat} (h:i<4):i=0∨i=1∨i=2∨i=3:=by omega
theorem be6 {u:World} {g:Nat} {l:List Ins} (hl:l.length=4) (h:u.heap[g]?=some (.cells (insA l) 133 (0,0))):a36 u (some ⟨g,0,none⟩) l:=by
 match l,hl with
 | [a,b,c,d],_ =>
  intro i hi;refine⟨g,0,rfl,lt_of_block h,?_⟩
  rcases four hi with rfl | rfl | rfl | rfl
  ·exact⟨(zR u g _ _ _ _ h).trans rfl,(zR u g _ _ _ _ h).trans rfl,(zR u g _ _ _ _ h).trans rfl⟩
  ·exact⟨(zR u g _ _ _ _ h).trans rfl,(zR u g _ _ _ _ h).trans rfl,(zR u g _ _ _ _ h).trans rfl⟩
  ·exact⟨(zR u g _ _ _ _ h).trans rfl,(zR u g _ _ _ _ h).trans rfl,(zR u g _ _ _ _ h).trans rfl⟩
  ·exact⟨(zR u g _ _ _ _ h).trans rfl,(zR u g _ _ _ _ h).trans rfl,(zR u g _ _ _ _ h).trans rfl⟩
theorem bU9 (w:World):SuAt (alls w (smO w.heap.size)) sm (smP w.heap.size):=by
 obtain⟨n,hn⟩:∃ n,w.heap.size=n:=⟨_,rfl⟩
 have g:∀ i o,(smO n)[i]?=some o->(alls w (smO n)).heap[n+i]?=some o:=fun i o h=>by
  rw[<- hn]at h ⊢;exact aD1 _ w i o h
 rw[hn];obtain⟨u,hu⟩:∃ u,alls w (smO n)=u:=⟨_,rfl⟩
 rw[hu]at g ⊢;have h1:=g 1 _ rfl;have h3:=g 3 _ rfl;have h5:=g 5 _ rfl;have h6:=g 6 _ rfl;have h7:=g 7 _ rfl;have h8:=g 8 _ rfl;clear g hu;refine⟨fun i hi=>absurd hi (zI _),fun i hi=>?_,fun i hi=>?_,by decide,by decide,by decide,⟨fun x hx=>(by cases hx),fun q hq k hk=>?_,fun l hl x hx v hv=>?_⟩⟩
 ·have hi:i<2:=hi
  obtain rfl | rfl:i=0∨i=1:=by omega
  ·exact⟨n+5,0,some ⟨n+1,0,none⟩,4,rfl,lt_of_block h5,(zR u _ _ _ _ _ h5).trans rfl,(zR u _ _ _ _ _ h5).trans rfl,be6 rfl h1,.inr ⟨_,_,_,rfl⟩,by decide⟩
  ·exact⟨n+5,0,some ⟨n+3,0,none⟩,4,rfl,lt_of_block h5,(zR u _ _ _ _ _ h5).trans rfl,(zR u _ _ _ _ _ h5).trans rfl,be6 rfl h3,.inr ⟨_,_,_,rfl⟩,by decide⟩
 ·have hi:i<2:=hi
  obtain rfl | rfl:i=0∨i=1:=by omega
  ·refine⟨n+8,0,some ⟨n+6,0,none⟩,1,rfl,lt_of_block h8,(zR u _ _ _ _ _ h8).trans rfl,fun j hj=>?_,by decide⟩
   have hj:j<1:=hj;obtain rfl:j=0:=by omega
   exact⟨n+6,0,none,0,rfl,lt_of_block h6,(zR u _ _ _ _ _ h6).trans rfl,(zR u _ _ _ _ _ h6).trans rfl,fun k hk=>absurd hk (zI _),.inl ⟨rfl,rfl,rfl⟩,by decide⟩
  ·refine⟨n+8,0,some ⟨n+7,0,none⟩,1,rfl,lt_of_block h8,(zR u _ _ _ _ _ h8).trans rfl,fun j hj=>?_,by decide⟩
   have hj:j<1:=hj;obtain rfl:j=0:=by omega
   exact⟨n+7,0,none,0,rfl,lt_of_block h7,(zR u _ _ _ _ _ h7).trans rfl,(zR u _ _ _ _ _ h7).trans rfl,fun k hk=>absurd hk (zI _),.inl ⟨rfl,rfl,rfl⟩,by decide⟩
 ·have hq:q=(2,smA)∨q=(1,smB):=by simpa[sm]using hq
  rcases hq with rfl | rfl
  ·rcases four hk with rfl | rfl | rfl | rfl <;> decide
  ·rcases four hk with rfl | rfl | rfl | rfl <;> decide
 ·have hl:l=[(0,[])]∨l=[(1,[])]:=by simpa[sm]using hl
  rcases hl with rfl | rfl
  ·rw[List.mem_singleton.1 hx]at hv
   cases hv
  ·rw[List.mem_singleton.1 hx]at hv
   cases hv
section
variable {w:World}
attribute [local go_sem] a00
theorem be7:Calls Tryz.prog 29 #[] w fun r w'=>∃ p,r=.returned (.agg (suC sm p))/\Hid (SuAt w' sm p/\Bl w w'):=by
 go_enter Tryz.func29,Tryz.ntmps29;go_wp2_with fail;have HF:Hid (SuAt (alls w (smO w.heap.size)) sm (smP w.heap.size)/\Bl w (alls w (smO w.heap.size))):=⟨bU9 w,aO4 _ _⟩;have HG:Hid ((alls w (smO w.heap.size)).heap[w.heap.size]?=some (.cells (suC sm (smP w.heap.size)) 28)):=aD1 _ w 0 _ rfl;exact bodyPost_ret (w:=alls w (smO w.heap.size)) (results_cell_row rfl _ _ w.heap.size _ _ _ _ rfl HG.out Tryz.underlying28 rfl (by kernel_rfl)) rfl ⟨smP w.heap.size,rfl,HF.out⟩
end
theorem bN5:errS sm=0:=by decide +kernel
structure SmF (Z1 Z2 Z3:Es):Prop where
 r1:runZ sm (Z0 sm) (fun _=>1) 3=Z1
 r2:runZ sm Z1 (fun _=>0) 14=Z2
 r3:runZ sm Z2 (fun _=>1) 8=Z3
 d1:didZ sm (Z0 sm) (fun _=>1) 3=3
 d2:didZ sm Z1 (fun _=>0) 14=14
 d3:didZ sm Z2 (fun _=>1) 8=6
 n0:(Z0 sm).X.H.N<=100
 n1:Z1.X.H.N<=100
 n2:Z2.X.H.N<=100
 st:a76 sm Z2.X.H.E.ws=[4617315517961601024]
 ov:ovB Z3.X.H.E sm.n=true
 dn:Z3.X.H.dn=2
 th:(Z3.X.H.D 0).th=1
 mrk:bm5 (Z3.X.H.D 0).tx=0
 out:(macT (Z3.X.H.D 0).tx).out=[0]
 num:numT (Z3.X.H.D 1).tx=1
 sps:aX1 (Z3.X.H.D 1).tx=14
 en:(Z3.X.H.D 1).en=17
def smZ1:Es:=runZ sm (Z0 sm) (fun _=>1) 3
def smZ2:Es:=runZ sm smZ1 (fun _=>0) 14
def smZ3:Es:=runZ sm smZ2 (fun _=>1) 8
theorem sm_1:didZ sm (Z0 sm) (fun _=>1) 3=3/\(Z0 sm).X.H.N<=100/\smZ1.X.H.N<=100:=by decide +kernel
theorem sm_2:didZ sm smZ1 (fun _=>0) 14=14/\smZ2.X.H.N<=100:=by decide +kernel
theorem sm_3:didZ sm smZ2 (fun _=>1) 8=6:=by decide +kernel
theorem bV0:a76 sm smZ2.X.H.E.ws=[4617315517961601024]:=by decide +kernel
theorem bN6:ovB smZ3.X.H.E sm.n=true/\smZ3.X.H.dn=2:=by decide +kernel
theorem bG2:(smZ3.X.H.D 0).th=1/\bm5 (smZ3.X.H.D 0).tx=0/\(macT (smZ3.X.H.D 0).tx).out=[0]:=by decide +kernel
theorem bG3:numT (smZ3.X.H.D 1).tx=1/\aX1 (smZ3.X.H.D 1).tx=14/\(smZ3.X.H.D 1).en=17:=by decide +kernel
theorem bN4:∃ Z1 Z2 Z3,SmF Z1 Z2 Z3:=⟨smZ1,smZ2,smZ3,rfl,rfl,rfl,sm_1.1,sm_2.1,sm_3,sm_1.2.1,sm_1.2.2,sm_2.2,bV0,bN6.1,bN6.2,bG2.1,bG2.2.1,bG2.2.2,bG3.1,bG3.2.1,bG3.2.2⟩
theorem bM2 {W w w':World} {f:Ex} {v:Ev} {s:Su} {Z:Es} (b:Bl W w) (k:Bl w w') (e:Eng w' f v s Z) (r:Frs w.heap.size f v):Mz 1 W w' (fun _=>f) s [] Z Z Z:=by
 have l:=b.size;refine⟨fun _=>v,a07 b k,fun i hi=>?_,fun i j hi hj ne=>absurd ne (by omega),fun i hi=>⟨fun k hk=>zQ l (r.own k hk),fun k hk=>(r.ro k hk).imp id (zQ l)⟩,fun g hg=>(by cases hg)⟩;obtain rfl:i=0:=by omega
 exact e
theorem bl9 (u:World) (n:Nat) (c:Int):Sd.IntsAt (u.alloc (.cells (Array.replicate n (.int .i64 c)) 3)) (some ⟨u.heap.size,0,none⟩) n (fun _=>c):=fun i hi=>⟨u.heap.size,0,rfl,by simp,by
 rw[zR _ _ _ _ _ _ (zN _ _)]
 simp[hi]⟩
theorem bs3:SuIn sm:=by
 refine suIn ⟨fun x hx=>(by cases hx),fun q hq k hk=>?_,fun l hl x hx v hv=>?_⟩ bN5
 ·have hq:q=(2,smA)∨q=(1,smB):=by simpa[sm]using hq
  rcases hq with rfl | rfl
  ·rcases four hk with rfl | rfl | rfl | rfl <;> decide
  ·rcases four hk with rfl | rfl | rfl | rfl <;> decide
 ·have hl:l=[(0,[])]∨l=[(1,[])]:=by simpa[sm]using hl
  rcases hl with rfl | rfl
  ·rw[List.mem_singleton.1 hx]at hv
   cases hv
  ·rw[List.mem_singleton.1 hx]at hv
   cases hv
section
variable {w:World}
theorem aF5 {G:List (Nat × Obj)} {u:World} {f:Ex} {Z Z' zz:Es} {n d:Nat} {c:Int} {y:Nat->Nat} (hu:Mz 1 w u (fun _=>f) sm G Z zz zz) (hn:n<=14) (hN:Z.X.H.N<=100) (hy:yOf sm (fun _=>c)=y) (hd:didZ sm Z y n=d) (hZ:runZ sm Z y n=Z') {arr:Array Value} (ha:Array.replicate n (Value.int .i64 c)=arr) {e:Int} (he:(d:Int)=e) :
  Calls Tryz.prog 12 #[.pointer (some ⟨Ex.b f,0,none⟩),.slice (some ⟨u.heap.size,0,none⟩) n n] (u.alloc (.cells arr 3)) fun r w'=>r=.returned (.tuple #[.int .i64 e,.int .i64 0])/\Hid (Mz 1 w w' (fun _=>f) sm G Z' zz zz):=by
 have:=(hu.on (below_alloc u (.cells arr 3))).run0 (k:=n) bs3 (by decide) (by rw[<- ha];exact bl9 u n c) (by omega) (by omega);rwa[hy,hd,hZ,he]at this
theorem be9 {u:World} {g:Nat} {x:Nat} (h:RowAt 71 u (some ⟨g,0,none⟩) 1 (fls [x])):∃ o:Obj,u.heap[g]?=some o/\∀ u':World,u'.heap[g]?=some o->u'.cell? ⟨g,0,none⟩=some (.float .f64 x)/\g<u'.heap.size:=by
 rcases h.own.2 with⟨e,_⟩ | ⟨g',cap,cur,hv,hb,hg,hn,_,hs,ht⟩
 ·cases e
 ·injection hv with e1 _ _
  injection e1 with e1;injection e1 with e1;subst e1;refine⟨_,hg,fun u' hu=>⟨?_,ac7 hu⟩⟩;rw[zR u' g 0 _ _ _ hu];have ht:cur.toList.take 1=fls [x]:=ht;have:(cur.toList.take 1)[0]?=some (Value.float .f64 x):=by
   rw[ht]
   rfl
  rw[List.getElem?_take,if_pos (by omega)]at this
  simpa using this
structure LvD (u:World) (g g2 o2 c2:Nat):Prop where
 a0:u.cell? ⟨g,0,none⟩=some (.int .i64 1)
 a5:u.cell? ⟨g,5,none⟩=some (.int .i64 0)
 a9:u.cell? ⟨g,9,none⟩=some (.slice (some ⟨g2,o2,none⟩) 1 c2)
 b0:u.cell? ⟨g2,o2,none⟩=some (.float .f64 0)
 b6:u.cell? ⟨g,25,none⟩=some (.int .i64 1)
 b14:u.cell? ⟨g,33,none⟩=some (.int .i64 17)
 b15:u.cell? ⟨g,34,none⟩=some (.int .i64 14)
 lg:g<u.heap.size
 lh:g2<u.heap.size
theorem b02 {Z1 Z2 Z3:Es} (hF:SmF Z1 Z2 Z3) {u:World} {B g:Nat} {D:Nat->Rr.Dd} (h:DdsAt u B g Z3.X.H.dn Z3.X.H.dn sm Z3 D):∃ g2 o2 c2,LvD u g g2 o2 c2:=by
 rw[hF.dn]at h;have d0:=h.cells (k:=0) (by decide);have d1:=h.cells (k:=1) (by decide);have fl:=(h.dd 0 (by decide)).o.fl;rw[hF.out]at fl;obtain⟨g2,o2,e,l2,c⟩:=fl 0 (by decide);refine⟨g2,o2,(D 0).co,?_,?_,?_,by simpa using c,?_,?_,?_,zK u _ ((d0 0 (by decide)).trans rfl),l2⟩
 ·have:=d0 0 (by decide)
  simp only[Nat.zero_mul,Nat.zero_add]at this;rw[this]
  show some (Value.int .i64 ((Z3.X.H.D 0).th:Int))=_
  rw[hF.th]
  rfl
 ·have:=d0 5 (by decide)
  simp only[Nat.zero_mul,Nat.zero_add]at this;rw[this]
  show some (Value.int .i64 (bm5 (Z3.X.H.D 0).tx))=_
  rw[hF.mrk]
 ·have:=d0 9 (by decide)
  simp only[Nat.zero_mul,Nat.zero_add]at this;rw[this]
  show some (Value.slice (D 0).po (macT (Z3.X.H.D 0).tx).out.length (D 0).co)=_
  rw[hF.out,e]
  rfl
 ·have:=d1 6 (by decide)
  simp only[Nat.one_mul]at this;rw[this]
  show some (Value.int .i64 (numT (Z3.X.H.D 1).tx))=_
  rw[hF.num]
 ·have:=d1 14 (by decide)
  simp only[Nat.one_mul]at this;rw[this]
  show some (Value.int .i64 ((Z3.X.H.D 1).en:Int))=_
  rw[hF.en]
  rfl
 ·have:=d1 15 (by decide)
  simp only[Nat.one_mul]at this;rw[this]
  show some (Value.int .i64 (aX1 (Z3.X.H.D 1).tx))=_
  rw[hF.sps]
attribute [local go_sem] a46
theorem bm0 (hT:Shaped5 w):Calls Tryz.prog 9 #[] w fun r w'=>r=.returned (.bool true)/\Bl w w':=by
 obtain⟨Z1,Z2,Z3,hF⟩:=bN4;obtain⟨zz,hzz⟩:∃ zz,Z0 sm=zz:=⟨_,rfl⟩
 have f1:=hF.r1;have f2:=hF.d1;have f3:=hF.n0;rw[hzz]at f1 f2 f3;have HS:=zH (be7 (w:=w));have HN:Hid (∀ u p,Bl w u->SuAt u sm p->Calls Tryz.prog 28 #[.agg (suC sm p)] u fun r w'=>∃ f,r=.returned (.tuple #[.pointer (some ⟨Ex.b f,0,none⟩),.int .i64 0])/\Hid (Mz 1 w w' (fun _=>f) sm [] zz zz zz)):=fun u p hu hp=>by
  refine(bw9 hp (hT.on hu) bN5).mono ?_;rintro r w' ⟨f,v,rfl,q⟩;have q:=q.out;rw[hzz]at q;exact⟨f,rfl,bM2 hu q.2.2 q.1 q.2.1⟩
 have HR1:Hid (∀ u f,Mz 1 w u (fun _=>f) sm [] zz zz zz->Calls Tryz.prog 12 #[.pointer (some ⟨Ex.b f,0,none⟩),.slice (some ⟨u.heap.size,0,none⟩) 3 3] (u.alloc (.cells #[.int .i64 1,.int .i64 1,.int .i64 1] 3)) fun r w'=>r=.returned (.tuple #[.int .i64 3,.int .i64 0])/\Hid (Mz 1 w w' (fun _=>f) sm [] Z1 zz zz)):=fun u f hu=>aF5 (c:=1) (y:=fun _=>1) hu (by decide) f3 rfl f2 f1 rfl rfl
 have HR2:Hid (∀ u f,Mz 1 w u (fun _=>f) sm [] Z1 zz zz->Calls Tryz.prog 12 #[.pointer (some ⟨Ex.b f,0,none⟩),.slice (some ⟨u.heap.size,0,none⟩) 14 14] (u.alloc (.cells #[.int .i64 0,.int .i64 0,.int .i64 0,.int .i64 0,.int .i64 0,.int .i64 0,.int .i64 0,.int .i64 0,.int .i64 0,.int .i64 0,.int .i64 0,.int .i64 0,.int .i64 0,.int .i64 0] 3)) fun r w'=>r=.returned (.tuple #[.int .i64 14,.int .i64 0])/\Hid (Mz 1 w w' (fun _=>f) sm [] Z2 zz zz)):=fun u f hu=>aF5 (c:=0) (y:=fun _=>0) hu (by decide) hF.n1 rfl hF.d2 hF.r2 rfl rfl
 have HR3:Hid (∀ u f G,Mz 1 w u (fun _=>f) sm G Z2 zz zz->Calls Tryz.prog 12 #[.pointer (some ⟨Ex.b f,0,none⟩),.slice (some ⟨u.heap.size,0,none⟩) 8 8] (u.alloc (.cells #[.int .i64 1,.int .i64 1,.int .i64 1,.int .i64 1,.int .i64 1,.int .i64 1,.int .i64 1,.int .i64 1] 3)) fun r w'=>r=.returned (.tuple #[.int .i64 6,.int .i64 0])/\Hid (Mz 1 w w' (fun _=>f) sm G Z3 zz zz)):=fun u f G hu=>aF5 (c:=1) (y:=fun _=>1) hu (by decide) hF.n2 rfl hF.d3 hF.r3 rfl rfl
 have HST:Hid (∀ u f,Mz 1 w u (fun _=>f) sm [] Z2 zz zz->Calls Tryz.prog 26 #[.pointer (some ⟨Ex.b f,0,none⟩)] u fun r w'=>∃ g,r=.returned (.slice (some ⟨g,0,none⟩) 1 1)/\Hid (∃ o,Mz 1 w w' (fun _=>f) sm [(g,o)] Z2 zz zz/\∀ u':World,u'.heap[g]?=some o->u'.cell? ⟨g,0,none⟩=some (.float .f64 4617315517961601024)/\g<u'.heap.size)):=fun u f hu=>by
  obtain⟨V,h⟩:=id hu;have h0:Eng u f (V 0) sm Z2:=h.en 0 (by decide);refine(aN1 h0 bs3).mono ?_;rintro r w' ⟨g,rfl,q⟩;obtain⟨q1,q2,q3⟩:=q.out;rw[hF.st]at q2;obtain⟨o,o1,o2⟩:=be9 q2;refine⟨g,rfl,o,hu.more q3 (G':=[(g,o)]) (fun y hy=>?_),o2⟩;rw[List.mem_singleton.1 hy];exact⟨q1,o1⟩
 have HD:Hid (∀ u f G,Mz 1 w u (fun _=>f) sm G Z3 zz zz->Calls Tryz.prog 24 #[.pointer (some ⟨Ex.b f,0,none⟩)] u fun r w'=>∃ g,r=.returned (.slice (some ⟨g,0,none⟩) 2 2)/\Hid (Mz 1 w w' (fun _=>f) sm G Z3 zz zz/\∃ g2 o2 c2,LvD w' g g2 o2 c2)):=fun u f G hu=>by
  obtain⟨V,h⟩:=id hu;have h0:Eng u f (V 0) sm Z3:=h.en 0 (by decide);refine(aJ2 h0 bs3).mono ?_;rintro r w' ⟨g,rfl,q⟩;obtain⟨D,q1,q2⟩:=q.out;exact⟨g,by rw[hF.dn],hu.on q2,b02 hF q1⟩
 have HO:Hid (∀ u f G,Mz 1 w u (fun _=>f) sm G Z3 zz zz->Calls Tryz.prog 23 #[.pointer (some ⟨Ex.b f,0,none⟩)] u fun r w'=>r=.returned (.bool true)/\Hid (Same u w'/\Bl w w')):=fun u f G hu=>by
  obtain⟨V,h⟩:=hu;have h0:Eng u f (V 0) sm Z3:=h.en 0 (by decide);refine(over_any h0 bs3).mono ?_;rintro r w' ⟨rfl,q⟩;exact⟨by rw[hF.ov],q,h.bl.trans (q.below _)⟩
 clear f1 f2 f3 hzz hF;clear hT;go_enter Tryz.func9,Tryz.ntmps9
 go_upto_region 9 with(first
  | (go_at_call 24;refine(HD.out u6 f _ H6.out).mono ?_;rintro r u7 ⟨g7,rfl,q⟩;have H7:=zH q.out;clear q)
  | (go_at_call 12;refine(HR3.out u5 f _ H5.out.1).mono ?_;rintro r u6 ⟨rfl,q⟩;have H6:=zH q.out;clear q)
  | (go_at_call 26;refine(HST.out u4 f H4.out).mono ?_;rintro r u5 ⟨g5,rfl,q⟩;obtain⟨o5,q⟩:=q.out;have H5:=zH q;clear q)
  | (go_at_call 12;refine(HR2.out u3 f H3.out).mono ?_;rintro r u4 ⟨rfl,q⟩;have H4:=zH q.out;clear q)
  | (go_at_call 12;refine(HR1.out u2 f H2.out).mono ?_;rintro r u3 ⟨rfl,q⟩;have H3:=zH q.out;clear q)
  | (go_at_call 28;refine(HN.out u1 p H1.out.2 H1.out.1).mono ?_;rintro r u2 ⟨f,rfl,q⟩;have H2:=zH q.out;clear q)
  | (go_at_call 29;refine HS.out.mono ?_;rintro r u1 ⟨p,rfl,q⟩;have H1:=zH q.out;clear q))
 clear HS HN HR1 HR2 HR3 HST HD;obtain⟨k1,k2⟩:=H5.out.2 u7 (H7.out.1.ot (List.mem_singleton.2 rfl))
 go_upto_region 11 with(go_at_call 23;refine(HO.out u7 f _ H7.out.1).mono ?_;rintro r u8 ⟨rfl,q⟩;have H8:=zH q.out;clear q)
 obtain⟨g2,o2,c2,a0,a5,a9,b0,b6,b14,b15,lg,lh⟩:=H7.out.2;rw[<- aI4 H8.out.1]at a0 a5 a9 b0 b6 b14 b15;rw[<- H8.out.1.heap]at lg lh;clear H7 H5 H6 HO k1 k2;go_wp2_with fail;go_ret;exact⟨rfl,H8.out.2⟩
end
section
variable {W:World} {s:Su} {p:Sp}
theorem b95 {w w':World} {B n:Nat} {q:Option Addr} {x:Nat->Int} (h:Sd.IntsAt w q n x) (k:Below B w w') (hB:w.heap.size<=B):Sd.IntsAt w' q n x:=fun i hi=>by
 obtain⟨g,o,e,hg,c⟩:=h i hi;exact⟨g,o,e,zL hg k.size,(k.cell (p:=⟨g,_,none⟩) (zL hg hB)).trans c⟩
theorem aQ3 (hT:Shaped5 W) (h:SuAt W s p) (z:SuSz s) {W0:World} (hW0:W0=W.alloc (suO s p)) :
  (∀ u,Bl W0 u->u.heap[W.heap.size]?=some (suO s p)/\Bl W u) /\
  (∀ u,Bl W0 u->Calls Tryz.prog 9 #[] u fun r w'=>r=.returned (.bool true)/\Hid (Bl W0 w')) /\
  (errS s=0->∀ u,Bl W0 u->Calls Tryz.prog 10 #[.agg (suC s p)] u fun r w'=>∃ f bd,r=.returned (.tuple #[.pointer (some ⟨Ex.b f,0,none⟩),.pointer (some ⟨bd,0,none⟩),.bool true])/\Hid (∃ v,Bgn u w' f v s p bd)) /\
  (¬ errS s=0->∀ u,Bl W0 u->Calls Tryz.prog 10 #[.agg (suC s p)] u fun r w'=>r=.returned (.tuple #[.pointer none,.pointer none,.bool true])/\Hid (Bl W0 w'))/\Shaped5 W0:=by
 have b:=(at2 W s p).1;have e:=(at2 W s p).2;rw[<- hW0]at b e;refine⟨fun u hu=>⟨(hu.block _ (ac7 e)).trans e,a07 b hu⟩,fun u hu=>(bm0 ((hT.on b).on hu)).mono ?_,fun he u hu=>(bi5 ((h.on b).on hu) z ((hT.on b).on hu) he).mono ?_,fun he u hu=>(b48 ((h.on b).on hu) z he).mono ?_,hT.on b⟩
 ·rintro r w' ⟨rfl,q⟩
  exact⟨rfl,a07 hu q⟩
 ·rintro r w' ⟨f,v,bd,rfl,q⟩
  exact⟨f,bd,rfl,v,q.out⟩
 ·rintro r w' ⟨rfl,q⟩
  exact⟨rfl,a07 hu q⟩
end
end Go.Proofs.YtlkldgopliablaaGreatDoor.En
