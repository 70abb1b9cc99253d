import Derived.Test.YtipakfjpfjehmaaGreatDoorJ5
import Derived.Test.YtipakfjpfjehmaaGreatDoorJ3
import Derived.Test.YtipakfjpfjehmaaGreatDoorJ1
import Derived.Test.YtipakfjpfjehmaaGreatDoorJ2
import Derived.RangeFuncNested
import Derived.RangeFuncLeaves
import Derived.Shelf.Abstract
import Derived.OwnWalkIn
import Derived.TacticsInMore
import Derived.LoopNIn
import Derived.LoopIn
import Derived.Deep.CutBlock
import Derived.Deep.DeepCutAuto
set_option maxRecDepth 100000
set_option maxHeartbeats 8000000
namespace Go.Proofs.YtipakfjpfjehmaaGreatDoor.En
open Go.ChangeShapes Go.WideShapes Go.ChangeAt Go.RowKit Num Ww
open Rr (Rx a19 InX okW u64B Alike step_in newX a43)
theorem aE9 {ws:List Int} {i x:Int} (h:okW ws) (hx:u64B x):okW (Md.poked ws i x)/\(Md.poked ws i x).length=ws.length:=by
 unfold Md.poked
 split
 ·refine⟨fun v hv=>?_,List.length_set ..⟩
  rcases List.mem_or_eq_of_mem_set hv with q | q
  ·exact h v q
  ·rw[q];exact hx
 ·exact⟨h,rfl⟩
theorem bf5 {x:Nat} (h:x<18446744073709551616):u64B (fixB x:Int):=by
 have:=(a83 h).2;unfold u64B;omega
theorem aK4 {ws:List Int} {p:Int} {l:List Nat} (h:okW ws) (hl:∀ x∈l,x<18446744073709551616):∀ k,okW (Md.Ce.startL ws p l k)/\(Md.Ce.startL ws p l k).length=ws.length
 | 0=>⟨h,rfl⟩
 | k+1=>by
  obtain⟨h1,h2⟩:=aK4 h hl k;have hx:u64B (fixB (l.getD k 0):Int):=bf5 (by
   rw[zG]
   cases e:l[k]? with
   | none=>decide
   | some x=>exact hl x (List.mem_of_getElem? e))
  have z:u64B 0:=by unfold u64B;omega
  have a:=aE9 (i:=Md.Ce.placeI p k 0) h1 z;have b:=aE9 (i:=Md.Ce.placeI p k 1) a.1 hx;have c:=aE9 (i:=Md.Ce.placeI p k 2) b.1 z;exact⟨c.1,c.2.trans (b.2.trans (a.2.trans h2))⟩
theorem ap4 {s:Su} (hs:SuIn s):okW (a98 s)/\((a98 s).length:Int)=3+s.b+3*s.a:=by
 have hz:okW (List.replicate (3+s.b+3*s.a).toNat 0):=fun v hv=>by
  rw[(List.mem_replicate.1 hv).2];unfold u64B;omega
 have:=hs.b8;have:=hs.a256;unfold a98 Md.Ce.startW
 split
 ·obtain⟨h1,h2⟩:=aK4 (p:=3+s.b) hz hs.st s.st.length
  refine⟨h1,?_⟩;rw[h2,List.length_replicate];omega
 ·refine⟨hz,?_⟩
  rw[List.length_replicate];omega
theorem br7:∀ n,su (fun _=>0) n=0
 | 0=>rfl
 | n+1=>by show su (fun _=>0) n+0=0;rw[br7 n]
theorem WI0 {s:Su} (hs:SuIn s):WI s (X0 s) :=
 ⟨rfl,rfl,rfl,(ap4 hs).1,(ap4 hs).2,fun t y _ h=>(by cases h),fun t _=>zV _,(br7 _).symm,fun t y _ h=>(by cases h),fun i hi=>absurd hi (zI _),fun i hi=>absurd hi (zI _)⟩
section
variable {w:World} {s:Su} {p:Sp}
theorem bw5 (h:SuAt w s p) (he:¬ errS s=0):Calls Tryz.prog 10 #[.agg (suC s p)] w fun r w'=>r=.returned (.tuple #[.pointer none,.int .i64 (errS s)])/\Bl w w':=by
 have HB:=zH (ay3 w s p);have HF:=zH (aH4 (h.on HB.out.1));obtain⟨e,hee⟩:∃ e,errS s=e:=⟨_,rfl⟩
 rw[hee]at HF he ⊢;have heb:(e != 0)=true:=by simpa using he
 clear h hee he;go_enter Tryz.func10,Tryz.ntmps10
 go_wp2_with (go_at_call 26;refine HF.out.mono ?_;rintro r u1 ⟨rfl,q⟩;have H1:=zH q;clear q HF)
 go_ret2;exact⟨rfl,HB.out.1.trans (H1.out.mono HB.out.1.size)⟩
theorem bv6 {z:Array Value} {sz m k j:Nat} (hz:z.size=sz) (hk:k<m) (hj:j<sz):(madeCells z (m*sz))[k*sz+j]?=z[j]?:=by
 have hi:=aZ9 hk hj (zE _);have hm:(k*sz+j) % sz=j:=by rw[Nat.mul_comm,Nat.mul_add_mod,Nat.mod_eq_of_lt hj]
 rw[Array.getElem?_eq_getElem (by rw[size_madeCells];exact hi),Array.getElem?_eq_getElem (by omega)];simp only[madeCells,Array.getElem_map,Array.getElem_range,hz,hm];rw[getElem!_pos z j (by omega)]
theorem bC4 (n:Nat) (hn:n<=8):∃ arr:Array Value,arr.size=n*3/\(∀ i j,i<n->j<3->arr[i*3+j]?=(#[Value.slice none 0 0,.int .i64 0,.int .i64 0]:Array Value)[j]?)/\∀ w:World,(Instr.makeSlice 75 (.int .i64 (n:Int)) (.int .i64 (n:Int))).run Tryz.prog w=.ok (.slice (some ⟨w.heap.size,0,none⟩) n n) (w.alloc (.cells arr 80)):=by
 have info:(Tryz.prog.info? 80).map (fun i=>(i.zero,i.size,i.bytes))=some (some (.agg #[.slice none 0 0,.int .i64 0,.int .i64 0]),3,40):=by kernel_rfl
 obtain⟨i,hi,hz0,hz1,hz2⟩:=info_parts info;refine⟨madeCells (Value.agg #[.slice none 0 0,.int .i64 0,.int .i64 0]).cells (n*i.size),by rw[size_madeCells,hz1],fun k j hk hj=>?_,fun w=>?_⟩
 ·rw[hz1]
  exact bv6 (z:=#[.slice none 0 0,.int .i64 0,.int .i64 0]) rfl hk hj
 ·rw[run_make w 75 80 i _ Tryz.underlying75 hi hz0 .i64 .i64 n n (by omega) (zW _) (by rw[hz2];omega) (by omega)]
  rw[Int.toNat_natCast]
end
def Su.upto (s:Su) (i:Nat):Su:={ s with cl:=s.cl.take i }
theorem am0 (s:Su) (i t:Nat):(s.upto i).cs t=if t<i then s.cs t else []:=by
 show (s.cl.take i).getD t []=if t<i then s.cl.getD t [] else []
 rw[zG,List.getElem?_take]
 by_cases q:t<i
 ·rw[if_pos q,if_pos q,zG]
 ·rw[if_neg q,if_neg q];rfl
theorem aF5 {s:Su} {i:Nat} (h:s.cl.length<=i):s.upto i=s:=by
 unfold Su.upto;rw[List.take_of_length_le h]
def rdI (s:Su) (i:Nat):Sd.Rd:={ n:=s.n,g:=fun k=>decide (k<s.n) && !(decide (k<i) && decide ((s.cs k).length=0)),s:=Sd.noneF,o:=0 }
theorem by0 {s:Su} {i:Nat} (hi:i<s.n):Alk (if (s.cs i).length=0 then Sd.finN (rdI s i) i else rdI s i) (rdI s (i+1)):=by
 have hg:(rdI s i).g i=true:=by
  show (decide (i<s.n) && !(decide (i<i) && _))=true
  rw[zT hi,zU (Nat.lt_irrefl i)]
  rfl
 have G:∀ k,k≠i->(rdI s (i+1)).g k=(rdI s i).g k:=fun k hk=>by
  show (decide (k<s.n) && !(decide (k<i+1) && _))=(decide (k<s.n) && !(decide (k<i) && _))
  rw[show decide (k<i+1)=decide (k<i) from decide_eq_decide.2 ⟨fun q=>by omega,fun q=>by omega⟩]
 by_cases q:(s.cs i).length=0
 ·rw[if_pos q]
  have gi:(rdI s (i+1)).g i=false:=by
   show (decide (i<s.n) && !(decide (i<i+1) && decide ((s.cs i).length=0)))=false
   rw[zT (Nat.lt_succ_self i),zT q]
   simp
  unfold Sd.finN;rw[if_pos hg];have no:Sd.overB { rdI s i with g:=Sd.putF (rdI s i).g i false,s:=Sd.putF (rdI s i).s i false }=false:=by
   rw[Bool.eq_false_iff];unfold Sd.overB;rw[Ne,Bool.and_eq_true,Sd.eq8_iff];rintro⟨z1,z2⟩;rw[Bool.not_eq_true',Bool.eq_false_iff]at z1
   apply z1
   refine(Sd.eq8_iff _ _).2 fun k hk=>?_
   have:=z2 k hk;rw[<- this]
   show (if k=i then false else false)=false
   simp
  unfold Sd.settleM;rw[no,if_neg Bool.false_ne_true];refine⟨rfl,rfl,fun k hk=>?_,fun k hk=>?_⟩
  ·show (if k=i then false else (rdI s i).g k)=_
   by_cases e:k=i
   ·rw[if_pos e,e,gi]
   ·rw[if_neg e,G k e]
  ·show (if k=i then false else false)=false
   simp
 ·rw[if_neg q]
  refine⟨rfl,rfl,fun k hk=>?_,fun k hk=>rfl⟩
  by_cases e:k=i
  ·rw[e,hg]
   show true=(decide (i<s.n) && !(decide (i<i+1) && decide ((s.cs i).length=0)))
   rw[zT hi,zU q]
   simp
  ·exact(G k e).symm
theorem bx9 (s:Su):Alk (rdI s s.n) (rdZ s (X0 s)):=by
 refine⟨rfl,rfl,fun k hk=>?_,fun k hk=>?_⟩
 ·show (decide (k<s.n) && !(decide (k<s.n) && decide ((s.cs k).length=0)))=(decide (k<s.n) && !finB (X0 s).H.E k)
  have e:finB (X0 s).H.E k=decide ((s.cs k).length=0):=by
   rw[av4 rfl]
   show decide (0=(s.cs k).length)=_
   exact decide_eq_decide.2 ⟨fun q=>q.symm,fun q=>q.symm⟩
  rw[e]
  cases decide (k<s.n) <;> rfl
 ·show false=(decide (k<s.n) && (false && _))
  simp
section
variable {w w':World} {f:Ex} {v:Ev} {s:Su} {d:Ed} {i:Nat}
theorem EnAt.setK (h:EnAt w f v (s.upto i) d) (hi:i<s.n) (hil:i<s.cl.length) {R:List Nat} {gl:Nat} (k:Bl w w') (a:Abv w.heap.size R) (b:Blw w' R) (hR:∀ j,j<(s.cs i).length->ClIn w' R (some ⟨gl,0,none⟩) j ((s.cs i).getD j (0,[]))) {n c:Nat} (hn:(s.cs i).length=n) :
  EnAt (w'.setCell ⟨f.gc,i*3,none⟩ (.slice (some ⟨gl,0,none⟩) n c)) f { v with R:=R ++ v.R } (s.upto (i+1)) { d with cr:=updA d.cr i ((d.cr i).setIfInBounds 0 (.slice (some ⟨gl,0,none⟩) n c)) }/\Ext f v { v with R:=R ++ v.R } w (w'.setCell ⟨f.gc,i*3,none⟩ (.slice (some ⟨gl,0,none⟩) n c)):=by
 obtain⟨h1,x1⟩:=h.grow k a b;have hin:i<(s.upto i).n:=hi;have tt:Turn (own f { v with R:=R ++ v.R } 3) (own f { v with R:=R ++ v.R } 3) w' (w'.setCell ⟨f.gc,i*3,none⟩ (.slice (some ⟨gl,0,none⟩) n c)):=a26 w' f.gc _ _;have kk:=h1.but tt;have k5:=kk 5 (by omega);have A:=h1.crs.put hin (j:=0) (by omega) (.slice (some ⟨gl,0,none⟩) n c);have hsz:=h1.crs.sz i hin;refine⟨⟨h1.kBox (kk 0 (by omega)),h1.kMem (kk 1 (by omega)),h1.kRds (kk 2 (by omega)),A,h1.kTrn (kk 4 (by omega)),h1.tsz,⟨ay0 h1.fx.tab k5 h1.fx.tin,h1.fx.tin,fun j hj=>(h1.fx.prg j hj).keep k5 fun _ q=>q,fun t ht=>?_⟩,fun _ _ e=>h1.kTx k5 e (kk _ (by omega)),h1.no,h1.kDl k5,h1.kBl k5,h1.apart⟩,x1.trans (av2 h1 (by omega) tt)⟩;rw[am0]
 by_cases q:t=i
 ·subst q
  rw[if_pos (Nat.lt_succ_self _)];refine⟨some ⟨gl,0,none⟩,c,?_,fun j hj=>?_⟩
  ·dsimp only
   rw[a25,Array.getElem?_setIfInBounds_self_of_lt (by omega),hn]
  ·have e:(s.upto (t+1)).call t j=(s.cs t).getD j (0,[]):=by
    show ((s.upto (t+1)).cs t).getD j (0,[])=_
    rw[am0,if_pos (Nat.lt_succ_self _)]
   rw[e];exact(hR j hj).keep ⟨k5.1,fun z hz=>k5.2 z (List.mem_append.2 (.inl hz))⟩ fun z hz=>List.mem_append.2 (.inl hz)
 ·obtain⟨qa,qc,e1,e2⟩:=h1.fx.cls t ht
  rw[am0]at e1 e2;have ec:(if t<i then s.cs t else [])=(if t<i+1 then s.cs t else []):=by
   by_cases z:t<i
   ·rw[if_pos z,if_pos (by omega)]
   ·rw[if_neg z,if_neg (by omega)]
  rw[<- ec];refine⟨qa,qc,?_,fun j hj=>?_⟩
  ·dsimp only
   rw[a35 _ _ q];exact e1
  ·have e:(s.upto (i+1)).call t j=(s.upto i).call t j:=by
    show ((s.upto (i+1)).cs t).getD j (0,[])=((s.upto i).cs t).getD j (0,[])
    rw[am0,am0,ec]
   rw[e];exact(e2 j hj).keep k5 fun _ z=>z
end
structure Frs (B:Nat) (f:Ex) (v:Ev):Prop where
 own:∀ k∈fF f v,B<=k
 ro:∀ k∈v.R,k=1∨B<=k
section
variable {w w':World} {f:Ex} {v v':Ev} {s:Su} {d:Ed} {B i:Nat}
theorem Frs.ext (h:Frs B f v) (hB:B<=w.heap.size) (x:Ext f v v' w w'):Frs B f v'/\Below B w w' :=
 ⟨⟨fun k hk=>(x.turn.own k hk).elim (h.own k) (zQ hB),fun k hk=>(x.ro k hk).elim (h.ro k) (fun q=>.inr (zQ hB q))⟩,
  ⟨x.turn.os,x.turn.tape,x.turn.output,x.turn.size,fun k hk=>x.turn.block k (zL hk hB) fun q=>by have:=h.own k q;omega⟩⟩
def d0 (s:Su):Ed:=⟨0,a98 s,0,rdI s 0,fun _=>#[.slice none 0 0,.int .i64 0,.int .i64 0],0,fun _=>#[],fun _=>none,fun _=>none⟩
def v0 (R:List Nat):Ev:=⟨none,0,fun _=>0,fun _=>[],1::R⟩
theorem br6 (h:Shaped5 w):1<w.heap.size:=zK w _ (h.shp 0 (by decide)).1
theorem be7 {b mb mg rb gc pp:Nat} {R:List Nat} (hb:w.heap[b]?=some (.cells (eBox s ⟨b,mb,mg,rb,gc,pp⟩ (v0 R) (d0 s)) 78 (0,0))) (hm:MemAt 106 w mb mg (a98 s) false 0) (hr:Sd.RdAt w rb (Sd.newR s.n)) (hc:Arr w gc 80 3 s.n s.n (d0 s).cr) (hT:Shaped5 w) (hp:∀ i,i<s.pg.length->PgIn w R pp i (s.pg.getD i (0,[]))) (hR:Blw w R)
  (n1:b≠mb/\b≠mg/\b≠rb/\b≠gc/\mb≠rb/\mb≠gc/\mg≠rb/\mg≠gc/\rb≠gc) (n2:∀ k∈1::R,k≠b/\k≠mb/\k≠mg/\k≠rb/\k≠gc):EnAt w ⟨b,mb,mg,rb,gc,pp⟩ (v0 R) (s.upto 0) (d0 s):=by
 have C:∃ c:Nat->Nat,∀ i k,k∈own ⟨b,mb,mg,rb,gc,pp⟩ (v0 R) i->c k=i:=by
  refine⟨fun k=>if k=b then 0 else if k=mb∨k=mg then 1 else if k=rb then 2 else if k=gc then 3 else 5,fun i k hk=>?_⟩;dsimp only
  match i,hk with
  | 0,hk =>
   have e:k=b:=by simpa[own]using hk
   rw[if_pos e]
  | 1,hk =>
   have e:k=mb∨k=mg:=by simpa[own]using hk
   rw[if_neg (by omega),if_pos e]
  | 2,hk =>
   have e:k=rb:=by simpa[own]using hk
   rw[if_neg (by omega),if_neg (by omega),if_pos e]
  | 3,hk =>
   have e:k=gc:=by simpa[own]using hk
   rw[if_neg (by omega),if_neg (by omega),if_neg (by omega),if_pos e]
  | 4,hk=>simp[own,v0,fpR]at hk
  | 5,hk =>
   obtain⟨z0,z1,z2,z3,z4⟩:=n2 k hk;rw[if_neg z0,if_neg (by omega),if_neg z3,if_neg z4]
  | t+6,hk=>simp[own,v0]at hk
 obtain⟨c,C⟩:=C;have al:Alk (Sd.newR s.n) (rdI s 0):=⟨rfl,rfl,fun k _=>by show decide (k<s.n)=(decide (k<s.n) && !(decide (k<0) && _));simp,fun _ _=>rfl⟩;refine⟨hb,⟨false,hm⟩,al.at_ hr,hc,World.ownsRow_nil _ _ _ _,fun i hi=>absurd hi (zI _),⟨hT,List.mem_cons_self ..,fun i hi=>(hp i hi).keep ⟨zE _,fun _ _=>rfl⟩ (fun k hk=>List.mem_cons_of_mem _ hk),fun t ht=>⟨none,0,?_,fun j hj=>?_⟩⟩,fun t y e=>(by cases e),fun _ _=>rfl,fun i D a m e=>(by cases e),fun k hk=>?_,fun i j hij k h1 h2=>hij ((C i k h1).symm.trans (C j k h2))⟩
 ·rw[am0,if_neg (zI _)]
  rfl
 ·rw[am0,if_neg (zI _)]at hj
  exact absurd hj (zI _)
 ·rcases List.mem_cons.1 hk with rfl | q
  ·exact br6 hT
  ·exact hR k q
structure Beg (w:World) (f:Ex) (v:Ev) (s:Su) (d:Ed) (i B:Nat):Prop where
 en:EnAt w f v (s.upto i) d
 N:d.N=0
 ws:d.ws=a98 s
 cnt:d.cnt=0
 rd:d.rd=rdI s i
 T:d.T=fun _=>none
 dn:d.dn=0
 lo:∀ t,t<i->∃ qa qc,d.cr t=#[.slice qa (s.cs t).length qc,.int .i64 0,.int .i64 (-1)]
 hi:∀ t,i<=t->d.cr t=#[.slice none 0 0,.int .i64 0,.int .i64 0]
 fr:Frs B f v
theorem beg0 {b mb mg rb gc pp:Nat} {R:List Nat} (h:EnAt w ⟨b,mb,mg,rb,gc,pp⟩ (v0 R) (s.upto 0) (d0 s)) (h1:B<=b/\B<=mb/\B<=mg/\B<=rb/\B<=gc) (h2:Abv B R):Beg w ⟨b,mb,mg,rb,gc,pp⟩ (v0 R) s (d0 s) 0 B:=by
 refine⟨h,rfl,rfl,rfl,rfl,rfl,rfl,fun t ht=>absurd ht (zI _),fun _ _=>rfl,⟨fun k hk=>?_,fun k hk=>?_⟩⟩
 ·obtain⟨j,_,_,hk⟩:=aH9.1 hk
  match j,hk with
  | 0,hk =>
   have e:k=b:=by simpa[own]using hk
   omega
  | 1,hk =>
   have e:k=mb∨k=mg:=by simpa[own]using hk
   omega
  | 2,hk =>
   have e:k=rb:=by simpa[own]using hk
   omega
  | 3,hk =>
   have e:k=gc:=by simpa[own]using hk
   omega
  | 4,hk=>simp[own,v0,fpR]at hk
  | 5,hk=>omega
  | t+6,hk=>simp[own,v0]at hk
 ·rcases List.mem_cons.1 hk with q | q
  ·exact .inl q
  ·exact .inr (h2 k q)
theorem SuIn.upto (h:SuIn s) (i:Nat):SuIn (s.upto i) :=
 ⟨⟨h.st,h.pg,fun l hl=>h.cl l (List.mem_of_mem_take hl)⟩,h.cfg,h.sl,h.pl,by have:=h.tl;show (((s.cl.take i).length:Nat):Int)<=s.b;rw[List.length_take];omega,fun l hl=>h.ml l (List.mem_of_mem_take hl),fun l hl=>h.may l (List.mem_of_mem_take hl)⟩
theorem Beg.all (h:Beg w f v s d s.n B) (hs:SuIn s):Eng w f v s (Z0 s):=by
 have e:=h.en;rw[aF5 (by have:=hs.tl;have:=hs.nb;omega)]at e;have al:=bx9 s;rw[<- h.rd]at al;refine⟨⟨_,e.reRd al,⟨h.N,h.ws,h.cnt,rfl,h.T,h.dn,fun t ht=>?_,fun i hi=>absurd hi (zI _),fun i hi=>absurd hi (zI _)⟩⟩,WI0 hs,zE _⟩;obtain⟨qa,qc,q⟩:=h.lo t ht;exact⟨qa,qc,q⟩
theorem Beg.mark (h:Beg w f v s d i B) (hi:i<s.n):∃ d',EnAt (w.setCell ⟨f.gc,i*3+2,none⟩ (.int .i64 (-1))) f v (s.upto i) d'/\Ext f v v w (w.setCell ⟨f.gc,i*3+2,none⟩ (.int .i64 (-1)))/\d'={ d with cr:=updA d.cr i #[.slice none 0 0,.int .i64 0,.int .i64 (-1)] }:=by
 obtain⟨e,x⟩:=h.en.setC (t:=i) (j:=2) hi (by omega) (by omega) (.int .i64 (-1));rw[h.hi i (zE _)]at e;exact⟨_,e,x,rfl⟩
theorem Beg.next {w1:World} {v1:Ev} {d1:Ed} {qa:Option Addr} {qc:Nat} (h:Beg w f v s d i B) (hi:i<s.n) (hd:d1={ d with cr:=updA d.cr i #[.slice qa (s.cs i).length qc,.int .i64 0,.int .i64 (-1)] }) (fr:Frs B f v1) (e:EnAt w1 f v1 (s.upto (i+1)) { d1 with rd:=if finI 0 (-1) (s.cs i).length then Sd.finN d1.rd i else d1.rd }):Beg w1 f v1 s { d1 with rd:=rdI s (i+1) } (i+1) B:=by
 subst hd;have al:=by0 (s:=s) hi;have ef:(if (s.cs i).length=0 then Sd.finN (rdI s i) i else rdI s i)=(if finI 0 (-1) (s.cs i).length then Sd.finN d.rd i else d.rd):=by
  rw[h.rd];unfold finI
  by_cases q:(s.cs i).length=0
  ·rw[if_pos q,if_pos (by simp;omega)]
  ·rw[if_neg q,if_neg (by simp;omega)]
 rw[ef]at al;refine⟨e.reRd al,h.N,h.ws,h.cnt,rfl,h.T,h.dn,fun t ht=>?_,fun t ht=>?_,fr⟩
 ·dsimp only
  by_cases q:t=i
  ·subst q
   rw[a25];exact⟨_,_,rfl⟩
  ·rw[a35 _ _ q]
   exact h.lo t (by omega)
 ·dsimp only
  rw[a35 _ _ (by omega)];exact h.hi t (by omega)
end
abbrev bxO (s:Su) (p4 n5:Int) (mb rb gc pp:Nat):Obj:=.cells #[.int .i64 s.a,.int .i64 s.b,.int .i64 s.c,.int .i64 s.e,.slice (some ⟨pp,0,none⟩) s.pg.length s.pg.length,.int .i64 0,.int .i64 1,.int .i64 2,.int .i64 3,.int .i64 p4,.int .i64 n5,.pointer (some ⟨mb,0,none⟩),.pointer (some ⟨rb,0,none⟩),.slice (some ⟨gc,0,none⟩) s.n s.n,.slice none 0 0,.int .i64 0] 78
structure Mde (u wc:World) (s:Su) (p4 n5:Int) (mb rb b gc pp:Nat) (R:List Nat):Prop where
 box:wc.heap[b]?=some (bxO s p4 n5 mb rb gc pp)
 crs:Arr wc gc 80 3 s.n s.n (d0 s).cr
 prg:∀ i,i<s.pg.length->PgIn wc R pp i (s.pg.getD i (0,[]))
 blw:Blw wc R
 abv:Abv u.heap.size R
 n1:gc∉R
 n2:b∉R
 l1:u.heap.size<=gc
 l2:u.heap.size<=b
 n3:b≠gc
 bel:Bl u wc
section
variable {u5 u6 v1:World} {s:Su} {p4 n5:Int} {mb rb pp:Nat} {R:List Nat} {arr0:Array Value}
theorem bM1 (hA:∀ u u':World,u'.heap[u.heap.size]?=some (.cells arr0 80 (0,0))->Arr u' u.heap.size 80 3 s.n s.n (d0 s).cr) (k6:Bl u5 u6) (r1:Abv u5.heap.size R) (r2:Blw u6 R) (r3:∀ j,j<s.pg.length->PgIn u6 R pp j (s.pg.getD j (0,[]))):Mde u5 ((u6.alloc (.cells arr0 80)).alloc (bxO s p4 n5 mb rb u6.heap.size pp)) s p4 n5 mb rb (u6.heap.size+1) u6.heap.size pp R:=by
 have b1:=below_alloc u6 (.cells arr0 80);have b2:=b1.alloc b1.size (bxO s p4 n5 mb rb u6.heap.size pp);have e1:(u6.alloc (.cells arr0 80)).heap.size=u6.heap.size+1:=by simp
 have x1:(u6.alloc (.cells arr0 80)).heap[u6.heap.size]?=some (.cells arr0 80 (0,0)):=zN _ _;have x2:((u6.alloc (.cells arr0 80)).alloc (bxO s p4 n5 mb rb u6.heap.size pp)).heap[u6.heap.size+1]?=some (bxO s p4 n5 mb rb u6.heap.size pp):=by rw[<- e1];exact zN _ _
 refine⟨x2,hA u6 _ ((Below.heap_alloc _ _ _ (lt_of_block x1)).trans x1),fun i hi=>(r3 i hi).keep (a27 b2 r2) fun _ q=>q,fun k hk=>zL (r2 k hk) b2.size,r1,fun q=>absurd (r2 _ q) (Nat.lt_irrefl _),fun q=>absurd (r2 _ q) (by omega),k6.size,by have:=k6.size;omega,by omega,k6.trans (b2.mono k6.size)⟩
theorem bM2 (hA:∀ u u':World,u'.heap[u.heap.size]?=some (.cells arr0 80 (0,0))->Arr u' u.heap.size 80 3 s.n s.n (d0 s).cr) (k5:Bl u5 v1) (hv:v1.heap[u5.heap.size]?=some (.cells arr0 80 (0,0))) (k6:Bl v1 u6) (r1:Abv v1.heap.size R) (r2:Blw u6 R) (r3:∀ j,j<s.pg.length->PgIn u6 R pp j (s.pg.getD j (0,[]))):Mde u5 (u6.alloc (bxO s p4 n5 mb rb u5.heap.size pp)) s p4 n5 mb rb u6.heap.size u5.heap.size pp R:=by
 have b2:=below_alloc u6 (bxO s p4 n5 mb rb u5.heap.size pp);have x2:(u6.alloc (bxO s p4 n5 mb rb u5.heap.size pp)).heap[u6.heap.size]?=some (bxO s p4 n5 mb rb u5.heap.size pp):=zN _ _;have l1:=lt_of_block hv;have l2:=k6.size;refine⟨x2,hA u5 _ ((b2.block _ (by omega)).trans ((k6.block _ l1).trans hv)),fun i hi=>(r3 i hi).keep (a27 b2 r2) fun _ q=>q,fun k hk=>zL (r2 k hk) b2.size,fun k hk=>by have:=r1 k hk;omega,fun q=>by have:=r1 _ q;omega,fun q=>absurd (r2 _ q) (Nat.lt_irrefl _),zE _,by omega,by omega,(k5.trans (k6.mono k5.size)).trans (b2.mono (by omega))⟩
end
section
variable {w w2:World} {f:Ex} {v:Ev} {s:Su} {d:Ed} {i B:Nat}
def Lai (w2:World) (f:Ex) (s:Su) (d:Ed) (i B:Nat):Prop:=∃ v1 qa qc,EnAt w2 f v1 (s.upto (i+1)) { d with cr:=updA d.cr i #[.slice qa (s.cs i).length qc,.int .i64 0,.int .i64 (-1)] }/\Frs B f v1
theorem bB3 (c:Nat->Array Value) (i:Nat) (x y:Array Value):updA (updA c i x) i y=updA c i y:=by
 funext k
 by_cases q:k=i
 ·rw[q,a25,a25]
 ·rw[a35 _ _ q,a35 _ _ q,a35 _ _ q]
theorem Beg.yes (h:Beg w f v s d i B) (hB:B<=w.heap.size) (hi:i<s.n) (hl:i<s.cl.length) {u:World} {R:List Nat} {gl:Nat} (k:Below (w.setCell ⟨f.gc,i*3+2,none⟩ (.int .i64 (-1))).heap.size (w.setCell ⟨f.gc,i*3+2,none⟩ (.int .i64 (-1))) u) (a:Abv (w.setCell ⟨f.gc,i*3+2,none⟩ (.int .i64 (-1))).heap.size R) (b:Blw u R) (hR:∀ j,j<(s.cs i).length->ClIn u R (some ⟨gl,0,none⟩) j ((s.cs i).getD j (0,[]))) :
  Lai (u.setCell ⟨f.gc,i*3,none⟩ (.slice (some ⟨gl,0,none⟩) (s.cs i).length (s.cs i).length)) f s d i B/\Below B w (u.setCell ⟨f.gc,i*3,none⟩ (.slice (some ⟨gl,0,none⟩) (s.cs i).length (s.cs i).length)):=by
 obtain⟨d1,e1,x1,hd⟩:=h.mark hi;obtain⟨e2,x2⟩:=e1.setK hi hl k a b hR rfl;obtain⟨f2,b2⟩:=h.fr.ext hB (x1.trans x2);subst hd;dsimp only at e2;rw[a25,bB3]at e2;exact⟨⟨_,_,_,e2,f2⟩,b2⟩
theorem Beg.no (h:Beg w f v s d i B) (hB:B<=w.heap.size) (hi:i<s.n) (hl:¬ i<s.cl.length):Lai (w.setCell ⟨f.gc,i*3+2,none⟩ (.int .i64 (-1))) f s d i B/\Below B w (w.setCell ⟨f.gc,i*3+2,none⟩ (.int .i64 (-1))):=by
 obtain⟨d1,e1,x1,hd⟩:=h.mark hi;obtain⟨f2,b2⟩:=h.fr.ext hB x1;subst hd;have e:s.upto i=s.upto (i+1):=by rw[aF5 (by omega),aF5 (by omega)]
 have c:s.cs i=[]:=by
  unfold Su.cs;rw[zG,List.getElem?_eq_none (by omega)]
  rfl
 rw[e]at e1;refine⟨⟨v,none,0,?_,f2⟩,b2⟩;rw[c];exact e1
theorem Lai.note (l:Lai w2 f s d i B) (h:Beg w f v s d i B) (hs:SuIn s) (hi:i<s.n) (hB:B<=w2.heap.size):Calls Tryz.prog 33 #[.pointer (some ⟨f.b,0,none⟩),.int .i64 (i:Int)] w2 fun r w3=>r=.returned (.tuple #[])/\Hid ((∃ v' d',Beg w3 f v' s d' (i+1) B)/\Below B w2 w3):=by
 obtain⟨v1,qa,qc,e,fr⟩:=l;refine(au1 e (hs.upto (i+1)) hi (by show d.rd.n=s.n;rw[h.rd];rfl) (by show d.rd.o<_;rw[h.rd];exact(by decide:0<9223372036854775807)) (a25 _ _ _)).mono ?_;rintro r w3 ⟨rfl,q⟩;obtain⟨f3,b3⟩:=fr.ext hB q.out.2;exact⟨rfl,⟨_,_,h.next hi rfl f3 q.out.1⟩,b3⟩
theorem Beg.reads (h:Beg w f v s d i B) (hi:i<s.n):w.cell? ⟨f.gc,i*3+2,none⟩=some (.int .i64 0)/\w.cell? ⟨f.gc,i*3,none⟩=some (.slice none 0 0)/\w.frozen? ⟨f.gc,i*3+2,none⟩=false/\w.frozen? ⟨f.gc,i*3,none⟩=false/\f.gc<w.heap.size:=by
 have c:=h.hi i (zE _);have e:∀ j,j<3->w.cell? ⟨f.gc,i*3+j,none⟩=(d.cr i)[j]?:=fun j hj=>h.en.crs.cell hi hj
 rw[c]at e;exact⟨(e 2 (by omega)).trans rfl,(e 0 (by omega)).trans rfl,h.en.crs.free _,h.en.crs.free _,h.en.crs.lt⟩
end
section
variable {w w':World} {f:Ex} {v:Ev} {s:Su} {d:Ed} {i:Nat}
theorem bq8 {p:Sp} (h:SuAt w s p) (hT:Shaped5 w) (he:errS s=0):Calls Tryz.prog 10 #[.agg (suC s p)] w fun r w'=>∃ f v,r=.returned (.tuple #[.pointer (some ⟨Ex.b f,0,none⟩),.int .i64 0])/\Hid (Eng w' f v s (Z0 s)/\Frs w.heap.size f v/\Bl w w'):=by
 have hs:=suIn h.ok he;have HS0:=zH hs;have HTT:=zH hT;have HB:=zH (ay3 w s p);have HF:=zH (aH4 (h.on HB.out.1));rw[he]at HF;have b8:=hs.b8;have a256:=hs.a256;have hnb:=hs.nb;have HX:Hid (∀ u,Below (w.alloc (suO s p)).heap.size (w.alloc (suO s p)) u->SuAt u s p/\u.heap[w.heap.size]?=some (suO s p)/\Bl w u):=fun u hu=>⟨(h.on HB.out.1).on hu,(hu.block _ (lt_of_block HB.out.2)).trans HB.out.2,HB.out.1.trans (hu.mono HB.out.1.size)⟩
 have HP:=zH (fun u=>Md.place_any s.a s.b s.c s.e u);simp only[hs.cfg]at HP;obtain⟨p4,hp4⟩:∃ p4,3+s.b=p4:=⟨_,rfl⟩
 obtain⟨n5,hn5⟩:∃ n5:Nat,p4+3*s.a=(n5:Int):=⟨(p4+3*s.a).toNat,by omega⟩
 rw[hp4,hn5]at HP;have HM:=zH (fun u=>Md.new_some n5 (by omega) (by omega) u);have HSD:=zH (fun u=>Sd.new_yes s.n (by omega) (by omega) u);rw[hnb]at HSD;have HST:Hid (∀ u mb mg,Below (w.alloc (suO s p)).heap.size (w.alloc (suO s p)) u->(w.alloc (suO s p)).heap.size<=mb->(w.alloc (suO s p)).heap.size<=mg->MemAt 106 u mb mg (List.replicate n5 0) false 0->Calls Tryz.prog 29 #[.pointer (some ⟨mb,0,none⟩),plV p4 (n5:Int),.slice p.ps s.st.length p.cs] u fun e w'=>e=.returned (.int .i64 (Md.Ce.startE (List.replicate n5 0) p4 s.st))/\MemAt 106 w' mb mg (a98 s) false 0/\Chg mb mg u w'):=fun u mb mg hu h1 h2 hm=>by
  have e0:a98 s=Md.Ce.startW (List.replicate n5 0) p4 s.st:=by unfold a98;rw[hp4,hn5,Int.toNat_natCast]
  rw[e0];refine Md.Ce.start_any hm (fun k hk=>?_) 0 1 2 3 p4 n5;obtain⟨g,o,e,hg,c⟩:=(HX.out u hu).1.st k hk;obtain⟨g',o',e',hg',_⟩:=h.st k hk;have eg:g=g':=by rw[e]at e';injection e' with e';injection e'
  have hb:=HB.out.1.size;refine⟨g,o,e,hg,fun q=>?_,c⟩;simp only[List.mem_cons,List.not_mem_nil,or_false]at q;omega
 have HOP:Hid (∀ u,Below (w.alloc (suO s p)).heap.size (w.alloc (suO s p)) u->Calls Tryz.prog 31 #[.slice p.pp s.pg.length p.cp] u fun r w'=>∃ g,r=.returned (.slice (some ⟨g,0,none⟩) s.pg.length s.pg.length)/\Hid (∃ R,Abv u.heap.size R/\Blw w' R/\(∀ j,j<s.pg.length->PgIn w' R g j (s.pg.getD j (0,[])))/\Bl u w')):=fun u hu=>by
  refine(ax4 (HX.out u hu).1.pg hs.pl).mono ?_;rintro r w' ⟨g,rfl,q⟩;obtain⟨⟨P,C,q1⟩,q2⟩:=q.out;obtain⟨R,r1,r2,_,r4⟩:=q1.in_ (fun j hj=>by obtain⟨_,_,_,_,_,_,_,_,_,_,e⟩:=h.pg j hj;omega);exact⟨g,rfl,R,r1,r2,r4,q2⟩
 have HOC:Hid (∀ u i,Below (w.alloc (suO s p)).heap.size (w.alloc (suO s p)) u->i<s.cl.length->∃ g o qa c,p.pt=some ⟨g,o,none⟩/\g<u.heap.size/\g<w.heap.size/\u.cell? ⟨g,o+i,none⟩=some (.slice qa (s.cs i).length c)/\∀ u',Below (w.alloc (suO s p)).heap.size (w.alloc (suO s p)) u'->Calls Tryz.prog 32 #[.slice qa (s.cs i).length c] u' fun r w'=>∃ g,r=.returned (.slice (some ⟨g,0,none⟩) (s.cs i).length (s.cs i).length)/\Hid (∃ R,Abv u'.heap.size R/\Blw w' R/\(∀ j,j<(s.cs i).length->ClIn w' R (some ⟨g,0,none⟩) j ((s.cs i).getD j (0,[])))/\Bl u' w')):=fun u i hu hi=>by
  obtain⟨g,o,qa,c,e1,e2,e3,e4,e5⟩:=h.cl i hi;refine⟨g,o,qa,c,e1,zL e2 (HX.out u hu).2.2.size,e2,((HX.out u hu).2.2.cell (p:=⟨g,_,none⟩) e2).trans e3,fun u' hu'=>?_⟩;have hlen:=hs.few i;refine(aI9 (l:=s.cs i) (e4.on (HX.out u' hu').2.2) hlen (fun j hj=>?_)).mono ?_
  ·have m:=Su.csIn (s:=s) (t:=i) (j:=j) hj
   have:=hs.may _ m.1 _ m.2;unfold a61 at this;simp only[Bool.and_eq_true,decide_eq_true_eq]at this;exact this.2
  ·rintro r w' ⟨g,rfl,q⟩
   obtain⟨⟨P,C,q1⟩,q2⟩:=q.out;obtain⟨R,r1,r2,r4⟩:=q1.in_;exact⟨g,rfl,R,r1,r2,r4,q2⟩
 obtain⟨arr0,ha1,ha2,hmk⟩:=bC4 s.n (by omega);rw[hnb]at hmk;have HAR:Hid (∀ u:World,∀ u',u'.heap[u.heap.size]?=some (.cells arr0 80 (0,0))->Arr u' u.heap.size 80 3 s.n s.n (d0 s).cr):=fun u u' hu=>⟨⟨arr0,hu,ha1,ha2⟩,zE _,fun _ _=>rfl⟩
 clear h he ha1 ha2 hs hT;go_enter Tryz.func10,Tryz.ntmps10
 go_upto_region 8 with(first
  | (go_at_call 30;refine(HSD.out _).mono ?_;rintro r u5 ⟨rfl,q1,q2⟩;have H5:Hid (Sd.RdAt u5 u4.heap.size (Sd.newR s.n)/\MemAt 106 u5 (u2.heap.size+1+1) (u2.heap.size+1) (a98 s) false 0/\Below (w.alloc (suO s p)).heap.size (w.alloc (suO s p)) u5/\u5.heap[u2.heap.size]?=some (plO p4 (n5:Int))/\u2.heap.size+1+1<u4.heap.size/\(w.alloc (suO s p)).heap.size<=u2.heap.size/\u4.heap.size<u5.heap.size):=⟨q1,H4.out.1.on q2,H4.out.2.1.trans (q2.mono H4.out.2.1.size),(q2.block _ (lt_of_block H4.out.2.2.1)).trans H4.out.2.2.1,H4.out.1.ltB,H4.out.2.2.2,q1.lt⟩;clear q1 q2 HSD H4 s1)
  | (go_at_call 29;refine(HST.out u3 (u2.heap.size+1+1) (u2.heap.size+1) H3.out.2.1 (by have:=H3.out.2.2.2;omega) (by have:=H3.out.2.2.2;omega) H3.out.1).mono ?_;rintro r u4 ⟨rfl,q1,q2⟩;have H4:Hid (MemAt 106 u4 (u2.heap.size+1+1) (u2.heap.size+1) (a98 s) false 0/\Below (w.alloc (suO s p)).heap.size (w.alloc (suO s p)) u4/\u4.heap[u2.heap.size]?=some (plO p4 (n5:Int))/\(w.alloc (suO s p)).heap.size<=u2.heap.size):=⟨q1,⟨q2.os.trans H3.out.2.1.os,q2.tape.trans H3.out.2.1.tape,q2.output.trans H3.out.2.1.output,zQ H3.out.2.1.size q2.size,fun j hj=>(q2.block j (zL hj H3.out.2.1.size) (by have:=H3.out.2.2.2;omega) (by have:=H3.out.2.2.2;omega)).trans (H3.out.2.1.block j hj)⟩,(q2.block _ (lt_of_block H3.out.2.2.1) (by omega) (by omega)).trans H3.out.2.2.1,H3.out.2.2.2⟩;clear q1 q2 HST H3 t0 t1 t2 t3 t4 t5 s4;obtain⟨_,s1,_,_,_,_,_,_⟩:=a75 (HX.out _ H4.out.2.1).2.1)
  | (go_at_call 28;refine(HM.out _).mono ?_;rintro r u3 ⟨rfl,q1,q2⟩;have e9:(u2.alloc (plO p4 (n5:Int))).heap.size=u2.heap.size+1:=(by simp);rw[e9]at q1;have q2:=q2.mono (Nat.le_of_eq e9.symm);have b9:Below (w.alloc (suO s p)).heap.size (w.alloc (suO s p)) (u2.alloc (plO p4 (n5:Int))):=H2.out.alloc H2.out.size _;have H3:Hid (MemAt 106 u3 (u2.heap.size+1+1) (u2.heap.size+1) (List.replicate n5 0) false 0/\Below (w.alloc (suO s p)).heap.size (w.alloc (suO s p)) u3/\u3.heap[u2.heap.size]?=some (plO p4 (n5:Int))/\(w.alloc (suO s p)).heap.size<=u2.heap.size):=⟨q1,b9.trans (q2.mono (by have:=b9.size;omega)),(q2.block _ (by omega)).trans (zN _ _),H2.out.size⟩;clear q1 q2 HM e9 b9;obtain⟨t0,t1,t2,t3,t4,t5⟩:=af0 H3.out.2.2.1;obtain⟨_,_,_,_,s4,_,_,_⟩:=a75 (HX.out _ H3.out.2.1).2.1)
  | (go_at_call 27;refine(HP.out _).mono ?_;rintro r u2 ⟨rfl,q⟩;have H2:=zH (a20 H1.out q);clear q HP s0 s1 s2 s3 s4 s5 s6 s7)
  | (go_at_call 26;refine HF.out.mono ?_;rintro r u1 ⟨rfl,q⟩;have H1:=zH q;obtain⟨s0,s1,s2,s3,s4,s5,s6,s7⟩:=a75 (HX.out _ q).2.1;clear q HF))
 obtain⟨g2,hg2⟩:∃ g2,u2.heap.size=g2:=⟨_,rfl⟩
 obtain⟨g4,hg4⟩:∃ g4,u4.heap.size=g4:=⟨_,rfl⟩
 rw[hg2,hg4]at H5 ⊢;clear H1 H2 hg2 hg4
 go_cut [11] (fun v11 wc=>∃ b gc pp R,v11=.pointer (some ⟨b,0,none⟩)/\Hid (Mde u5 wc s p4 (n5:Int) (g2+1+1) g4 b gc pp R))
 case first =>
  have HSS:Hid (∀ u,Bl u5 u->(u.cell? ⟨w.heap.size,0,none⟩=some (.int .i64 s.a)/\u.cell? ⟨w.heap.size,1,none⟩=some (.int .i64 s.b)/\u.cell? ⟨w.heap.size,2,none⟩=some (.int .i64 s.c)/\u.cell? ⟨w.heap.size,3,none⟩=some (.int .i64 s.e)/\u.cell? ⟨w.heap.size,5,none⟩=some (.slice p.pp s.pg.length p.cp))/\u.cell? ⟨g2,0,none⟩=some (.int .i64 0)/\u.cell? ⟨g2,1,none⟩=some (.int .i64 1)/\u.cell? ⟨g2,2,none⟩=some (.int .i64 2)/\u.cell? ⟨g2,3,none⟩=some (.int .i64 3)/\u.cell? ⟨g2,4,none⟩=some (.int .i64 p4)/\u.cell? ⟨g2,5,none⟩=some (.int .i64 (n5:Int))):=fun u hu=>by
   obtain⟨s0,s1,s2,s3,_,s5,_,_⟩:=a75 (HX.out _ (a20 H5.out.2.2.1 hu)).2.1;exact⟨⟨s0,s1,s2,s3,s5⟩,af0 ((hu.block _ (lt_of_block H5.out.2.2.2.1)).trans H5.out.2.2.2.1)⟩
  refine aF6 (fun u=>(u.cell? ⟨w.heap.size,0,none⟩=some (.int .i64 s.a)/\u.cell? ⟨w.heap.size,1,none⟩=some (.int .i64 s.b)/\u.cell? ⟨w.heap.size,2,none⟩=some (.int .i64 s.c)/\u.cell? ⟨w.heap.size,3,none⟩=some (.int .i64 s.e)/\u.cell? ⟨w.heap.size,5,none⟩=some (.slice p.pp s.pg.length p.cp))/\u.cell? ⟨g2,0,none⟩=some (.int .i64 0)/\u.cell? ⟨g2,1,none⟩=some (.int .i64 1)/\u.cell? ⟨g2,2,none⟩=some (.int .i64 2)/\u.cell? ⟨g2,3,none⟩=some (.int .i64 3)/\u.cell? ⟨g2,4,none⟩=some (.int .i64 p4)/\u.cell? ⟨g2,5,none⟩=some (.int .i64 (n5:Int))) [0,1,2,3,5,6,7,8,9,10] 4 [(11,false),(12,true),(13,false),(14,true)] 11 [(4,false),(12,true),(13,false),(14,true)] Md.Cv.follows13 (by kernel_rfl) (fun _ _ _ _ _ h=>h) (HSS.out _ ((Same.drew u5).below _)) ?_
  repeat (refine aY8 (v:=?_) rfl (by rfl) (fun wq hSq=>?_) ?_;rotate_left;(focus ((try dsimp only at hSq);go_simp;try with_reducible rfl));simp only[Act.put,zA,zB,zC])
  refine bc6 ?_ ?_
  ·(refine a04 rfl (by rfl) (fun KK hK=>?_);go_simp)
   refine(HOP.out _ (H5.out.2.2.1.trans ((Same.drew u5).below _))).mono ?_;rintro r u6 ⟨pp,rfl,q⟩;obtain⟨R,r1,r2,r3,r4⟩:=q.out;have k6:Bl u5 u6:=((Same.drew u5).below _).trans r4;refine hK.out _ _ (HSS.out _ k6) ?_
   (clear hK KK;try simp only[Act.put,zA,zB,zC])
   (refine a04 rfl (by rfl) (fun KK hK=>?_);go_simp)
   refine hK.out _ _ (HSS.out _ (k6.alloc k6.size _)) ?_
   (clear hK KK;try simp only[Act.put,zA,zB,zC])
   (repeat ((first | (refine a02 (v:=?_) rfl (by rfl) (fun wq hSq=>?_) ?_;rotate_left;(focus ((try dsimp only at hSq);go_simp;try with_reducible rfl))) | refine a03 rfl (by rfl) ?_);simp only[Act.put,zA,zB,zC]))
   (refine a04 rfl (by rfl) (fun KK hK=>?_);go_simp)
   have k7:=k6.alloc k6.size (.cells arr0 80);refine hK.out _ _ (HSS.out _ (k7.alloc k7.size _)) ?_
   (clear hK KK;try simp only[Act.put,zA,zB,zC])
   (repeat ((first | (refine a02 (v:=?_) rfl (by rfl) (fun wq hSq=>?_) ?_;rotate_left;(focus ((try dsimp only at hSq);go_simp;try with_reducible rfl))) | refine a03 rfl (by rfl) ?_);simp only[Act.put,zA,zB,zC]))
   refine a13 ?_;have HH:=zH (bM1 (p4:=p4) (n5:=(n5:Int)) (mb:=g2+1+1) (rb:=g4) HAR.out k6 r1 r2 r3);go_wp2_with fail
   go_meet
   exact⟨_,_,_,R,rfl,HH.out⟩
  ·(refine a04 rfl (by rfl) (fun KK hK=>?_);go_simp)
   obtain⟨v1,hv1⟩:∃ v1,v1=(u5.alloc (.cells arr0 80)).drew:=⟨_,rfl⟩
   have k5:Bl u5 v1:=by rw[hv1];exact(below_alloc _ _).trans ((Same.drew _).below _)
   have x5:v1.heap[u5.heap.size]?=some (.cells arr0 80 (0,0)):=by rw[hv1];exact zN _ _
   rw[<- hv1];clear hv1;refine hK.out _ _ (HSS.out _ k5) ?_
   (clear hK KK;try simp only[Act.put,zA,zB,zC])
   (refine a04 rfl (by rfl) (fun KK hK=>?_);go_simp)
   refine(HOP.out _ (a20 H5.out.2.2.1 k5)).mono ?_;rintro r u6 ⟨pp,rfl,q⟩;obtain⟨R,r1,r2,r3,r4⟩:=q.out;have k6:Bl u5 u6:=k5.trans (r4.mono k5.size);refine hK.out _ _ (HSS.out _ k6) ?_
   (clear hK KK;try simp only[Act.put,zA,zB,zC])
   (repeat ((first | (refine a02 (v:=?_) rfl (by rfl) (fun wq hSq=>?_) ?_;rotate_left;(focus ((try dsimp only at hSq);go_simp;try with_reducible rfl))) | refine a03 rfl (by rfl) ?_);simp only[Act.put,zA,zB,zC]))
   (refine a04 rfl (by rfl) (fun KK hK=>?_);go_simp)
   refine hK.out _ _ (HSS.out _ (k6.alloc k6.size _)) ?_
   (clear hK KK;try simp only[Act.put,zA,zB,zC])
   (repeat ((first | (refine a02 (v:=?_) rfl (by rfl) (fun wq hSq=>?_) ?_;rotate_left;(focus ((try dsimp only at hSq);go_simp;try with_reducible rfl))) | refine a03 rfl (by rfl) ?_);simp only[Act.put,zA,zB,zC]))
   refine a13 ?_;have HH:=zH (bM2 (p4:=p4) (n5:=(n5:Int)) (mb:=g2+1+1) (rb:=g4) HAR.out k5 x5 r4 r1 r2 r3);go_wp2_with fail
   go_meet
   exact⟨_,_,_,R,rfl,HH.out⟩
 case rest =>
  obtain⟨b,gc,pp,R,rfl,HMD⟩:=hcut;obtain⟨W0,hW0⟩:∃ W0,W0=w.alloc (suO s p):=⟨_,rfl⟩
  rw[<- hW0]at HX HB HOC H5;have HBG:Hid (Beg wc ⟨b,g2+1+1,g2+1,g4,gc,pp⟩ (v0 R) s (d0 s) 0 W0.heap.size/\Bl W0 wc):=by
   have m:=HMD.out;obtain⟨z1,z2,z3,z4,z5,z6,z7⟩:=H5.out;have l1:=m.l1;have l2:=m.l2;have lz:=z3.size;have hsh:Shaped5 wc:=(HTT.out.on HB.out.1).on (a20 z3 m.bel);have gv:1<w.heap.size:=br6 HTT.out;have lw:=HB.out.1.size;refine⟨beg0 (be7 ?_ (z2.on m.bel) (z1.on m.bel) m.crs hsh m.prg m.blw ?_ ?_) (by omega) (fun k hk=>by have:=m.abv k hk;omega),a20 z3 m.bel⟩
   ·rw[m.box]
    unfold eBox;dsimp only;rw[hp4,hn5]
    rfl
   ·have:=m.n3
    omega
   ·intro k hk
    rcases List.mem_cons.1 hk with rfl | q
    ·omega
    ·have:=m.abv k q
     have e1:k≠b:=fun e=>m.n2 (e ▸ q)
     have e2:k≠gc:=fun e=>m.n1 (e ▸ q)
     omega
  have HCC:Hid (∀ u v d i,Beg u ⟨b,g2+1+1,g2+1,g4,gc,pp⟩ v s d i W0.heap.size->Bl W0 u->u.cell? ⟨b,13,none⟩=some (.slice (some ⟨gc,0,none⟩) s.n s.n)/\u.cell? ⟨w.heap.size,6,none⟩=some (.slice p.pt s.cl.length p.ct)/\b<u.heap.size/\w.heap.size<u.heap.size):=fun u v d i h1 h2=>by
   obtain⟨_,_,_,_,_,_,c6,c7⟩:=a75 (HX.out u h2).2.1;exact⟨(h1.en.cell 13).trans rfl,c6,h1.en.ltB,c7⟩
  have hn8:(s.n:Int)<=8:=by omega
  have hcl:s.cl.length<=s.n:=by have:=HS0.out.tl;omega
  obtain⟨k13,k6,lb,ls⟩:=HCC.out _ _ _ _ HBG.out.1 HBG.out.2;clear H5 HOP HAR hmk HMD HTT hn5 hp4;go_wp2_with fail;clear k13 k6 lb ls
  go_loopw [61] (fun v61 wr=>∃ i:Nat,v61=.int .i64 (i:Int)/\i<=s.n/\Hid (∃ v d,Beg wr ⟨b,g2+1+1,g2+1,g4,gc,pp⟩ v s d i W0.heap.size/\Bl W0 wr)) (fun v61 _=>s.n - (intOf v61).toNat)
  case atStart=>exact⟨0,rfl,zV _,_,_,HBG.out⟩
  case round =>
   obtain⟨i,rfl,hin,HR⟩:=hrel;clear HBG;obtain⟨v,d,h1,h2⟩:=HR.out;have H1:=zH (And.intro h1 h2);obtain⟨k13,k6,lb,ls⟩:=HCC.out _ _ _ _ h1 h2
   by_cases hi:i<s.n
   ·have hi':(i:Int)<(s.n:Int):=by omega
    obtain⟨y1,y2,y3,y4,y5⟩:=h1.reads hi;dsimp only at y1 y2 y3 y4 y5;obtain⟨w1,hw1⟩:∃ w1,w1=wr.setCell ⟨gc,i*3+2,none⟩ (.int .i64 (-1)):=⟨_,rfl⟩
    have HL:Hid (∀ u,Bl w1 u->(u.cell? ⟨b,13,none⟩=some (.slice (some ⟨gc,0,none⟩) s.n s.n)/\u.cell? ⟨w.heap.size,6,none⟩=some (.slice p.pt s.cl.length p.ct))/\u.cell? ⟨gc,i*3,none⟩=some (.slice none 0 0)/\u.frozen? ⟨gc,i*3,none⟩=false/\gc<u.heap.size/\b<u.heap.size/\w.heap.size<u.heap.size/\Bl W0 u):=fun u hu=>by
     obtain⟨d1,e1,x1,hd1⟩:=h1.mark hi;have e1':EnAt w1 ⟨b,g2+1+1,g2+1,g4,gc,pp⟩ v (s.upto i) d1:=by rw[hw1];exact e1
     have bw:Bl W0 w1:=by rw[hw1];exact h2.trans (h1.fr.ext h2.size x1).2
     have eu:=e1'.on hu;have bu:=bw.trans (hu.mono bw.size);obtain⟨_,_,_,_,_,_,c6,c7⟩:=a75 (HX.out u bu).2.1;have ec:=eu.crs.cell (i:=i) (j:=0) hi (by omega);rw[hd1]at ec;dsimp only at ec;rw[a25]at ec;exact⟨⟨(eu.cell 13).trans rfl,c6⟩,ec.trans rfl,eu.crs.free _,eu.crs.lt,eu.ltB,c7,bu⟩
    have HNF:Hid (∀ w2,Lai w2 ⟨b,g2+1+1,g2+1,g4,gc,pp⟩ s d i W0.heap.size/\Below W0.heap.size wr w2->Calls Tryz.prog 33 #[.pointer (some ⟨b,0,none⟩),.int .i64 (i:Int)] w2 fun r w3=>r=.returned (.tuple #[])/\Hid (∃ v' d',Beg w3 ⟨b,g2+1+1,g2+1,g4,gc,pp⟩ v' s d' (i+1) W0.heap.size/\Bl W0 w3)):=fun w2 q=>by
     have b2:=h2.trans q.2;refine(q.1.note h1 HS0.out hi b2.size).mono ?_;rintro r w3 ⟨rfl,z⟩;obtain⟨⟨v',d',z1⟩,z2⟩:=z.out;exact⟨rfl,v',d',z1,b2.trans z2⟩
    by_cases hl:i<s.cl.length
    ·have hl':(i:Int)<(s.cl.length:Int):=by omega
     have HY:Hid (∀ u R gl,Bl w1 u->Abv w1.heap.size R->Blw u R->(∀ j,j<(s.cs i).length->ClIn u R (some ⟨gl,0,none⟩) j ((s.cs i).getD j (0,[])))->Lai (u.setCell ⟨gc,i*3,none⟩ (.slice (some ⟨gl,0,none⟩) (s.cs i).length (s.cs i).length)) ⟨b,g2+1+1,g2+1,g4,gc,pp⟩ s d i W0.heap.size/\Below W0.heap.size wr (u.setCell ⟨gc,i*3,none⟩ (.slice (some ⟨gl,0,none⟩) (s.cs i).length (s.cs i).length))):=by
      intro u R gl z1 z2 z3 z4;rw[hw1]at z1 z2;exact h1.yes h2.size hi hl z1 z2 z3 z4
     obtain⟨g,o,qa,c,ep,hg,hgw,c0,HCL0⟩:=HOC.out w1 i (HL.out w1 (zF _ _)).2.2.2.2.2.2 hl;have HCL:=zH HCL0;have HTC:Hid (∀ u,Bl w1 u->u.cell? ⟨g,o+i,none⟩=some (.slice qa (s.cs i).length c)/\g<u.heap.size):=fun u hu=>⟨(hu.cell (p:=⟨g,_,none⟩) hg).trans c0,zL hg hu.size⟩
     obtain⟨m,hm⟩:∃ m,(s.cs i).length=m:=⟨_,rfl⟩
     rw[hm]at HY HTC HCL;have HMM:=zH hm;rw[ep]at HL k6;clear h1 h2 HCL0 c0 hg hgw hm
     go_upto_region 13 with fail
     rw[<- hw1];clear hw1 k13 k6 lb ls y1 y2 y3 y4 y5;obtain⟨⟨k13,k6⟩,y2,y4,y5,lb,ls,_⟩:=HL.out w1 (zF _ _);obtain⟨c0,hg⟩:=HTC.out w1 (zF _ _)
     go_upto_region 14 with fail
     refine a47 (fun u=>u.cell? ⟨b,13,none⟩=some (.slice (some ⟨gc,0,none⟩) s.n s.n)/\u.cell? ⟨w.heap.size,6,none⟩=some (.slice (some ⟨g,o,none⟩) s.cl.length p.ct)/\u.cell? ⟨g,o+i,none⟩=some (.slice qa m c) )  ((0,true)::(1,true)::(2,true)::(3,true)::(4,true)::(5,true)::(6,true)::(7,true)::(8,true)::(9,true)::(10,false)::(11,true)::(12,true)::(13,false)::[])  Md.Cv.follows13 (by kernel_rfl) (fun _ _ _ _ _ h=>h)  ⟨k13,k6,c0⟩ ?_
     (repeat (refine a33 (v:=?_) rfl (by rfl) (fun wq hSq=>?_) ?_;rotate_left;(focus ((try dsimp only at hSq);go_simp;try with_reducible rfl));simp only[Act.put,zA,zB,zC]))
     (refine a29 rfl (by rfl) (fun KK hK=>?_);go_simp)
     refine(HCL.out _ ((HL.out w1 (zF _ _)).2.2.2.2.2.2.trans ((Same.drew w1).below _))).mono ?_;rintro r u2 ⟨gl,rfl,q⟩;obtain⟨R',r1,r2,r3,r4⟩:=q.out;have k2:Bl w1 u2:=((Same.drew w1).below _).trans r4;have HQ:=zH (HY.out u2 R' gl k2 r1 r2 r3);refine hK.out _ _ (fun _=>⟨(HL.out u2 k2).1.1,(HL.out u2 k2).1.2,(HTC.out u2 k2).1⟩) ?_;clear k13 k6 y2 y4 y5 lb ls c0 hg;obtain⟨_,y2,y4,y5,lb,ls,_⟩:=HL.out u2 k2
     (clear hK KK;try simp only[Act.put,zA,zB,zC])
     (repeat (refine a33 (v:=?_) rfl (by rfl) (fun wq hSq=>?_) ?_;rotate_left;(focus ((try dsimp only at hSq);go_simp;try with_reducible rfl));simp only[Act.put,zA,zB,zC]))
     (refine a29 rfl (by rfl) (fun KK hK=>?_);go_simp)
     refine hK.out _ _ (fun hn=>absurd rfl hn) ?_
     (clear hK KK;try simp only[Act.put])
     refine a78 ?_
     go_wp2_with (go_at_call 33;refine(HNF.out _ HQ.out).mono ?_;rintro r u3 ⟨rfl,q⟩;have H3:=zH q.out;clear q)
     exact⟨⟨i+1,by first | rfl | (congr 1),by omega,H3.out⟩,by simp[intOf];omega⟩
    ·have hl':¬ (i:Int)<(s.cl.length:Int):=by omega
     have HQ:Hid (Lai w1 ⟨b,g2+1+1,g2+1,g4,gc,pp⟩ s d i W0.heap.size/\Below W0.heap.size wr w1):=by rw[hw1];exact h1.no h2.size hi hl
     clear h1 h2
     go_upto_region 13 with fail
     rw[<- hw1];clear hw1 k13 k6 lb ls y1 y2 y3 y4 y5;obtain⟨⟨k13,k6⟩,y2,y4,y5,lb,ls,_⟩:=HL.out w1 (zF _ _)
     go_wp2_with (go_at_call 33;refine(HNF.out _ HQ.out).mono ?_;rintro r u3 ⟨rfl,q⟩;have H3:=zH q.out;clear q)
     exact⟨⟨i+1,by first | rfl | (congr 1),by omega,H3.out⟩,by simp[intOf];omega⟩
   ·have hi':¬ (i:Int)<(s.n:Int):=by omega
    have e:i=s.n:=by omega
    have HZ:Hid (Eng wr ⟨b,g2+1+1,g2+1,g4,gc,pp⟩ v s (Z0 s)/\Frs w.heap.size ⟨b,g2+1+1,g2+1,g4,gc,pp⟩ v/\Bl w wr):=by
     subst e;have l:=HB.out.1.size;exact⟨h1.all HS0.out,⟨fun k hk=>zQ l (h1.fr.own k hk),fun k hk=>(h1.fr.ro k hk).imp id (zQ l)⟩,(HX.out _ h2).2.2⟩
    clear h1 h2;go_wp2_with fail;go_ret2;exact⟨⟨b,g2+1+1,g2+1,g4,gc,pp⟩,rfl,v,HZ.out⟩
end
end Go.Proofs.YtipakfjpfjehmaaGreatDoor.En
namespace Go.Proofs.YtipakfjpfjehmaaGreatDoor.En
open Go.ChangeShapes Go.WideShapes Go.ChangeAt Go.RowKit Num Ww
def prAl (w:World):List Obj->World
 | []=>w
 | o::l=>prAl (w.alloc o) l
theorem aN6:∀ (l:List Obj) (w:World),Bl w (prAl w l)
 | [],_=>zF _ _
 | o::l,w=>(below_alloc w o).trans ((aN6 l (w.alloc o)).mono (below_alloc w o).size)
theorem aF0:∀ (l:List Obj) (w:World) (i:Nat) (o:Obj),l[i]?=some o->(prAl w l).heap[w.heap.size+i]?=some o
 | [],_,_,_,h=>by simp at h
 | o::l,w,0,o',h=>by
  obtain rfl:o=o':=by simpa using h
  have e:=zN w o;exact((aN6 l (w.alloc o)).block _ (by rw[Array.getElem?_eq_some_iff]at e;exact e.1)).trans e
 | o::l,w,i+1,o',h=>by
  have:=aF0 l (w.alloc o) i o' (by simpa using h);have e:(w.alloc o).heap.size=w.heap.size+1:=by simp
  rw[e]at this;rw[show w.heap.size+(i+1)=w.heap.size+1+i by omega];exact this
def prP (n:Nat):Sp:=⟨none,0,some ⟨n+5,0,none⟩,2,some ⟨n+11,0,none⟩,3⟩
def prI (l:List Ins):List Value:=l.flatMap fun i=>[Value.int .i64 i.op,.int .i64 i.n,.float .f64 i.x]
theorem br3:∀ (l:List Ins) (k:Nat),k<l.length->(prI l)[k*3]?=some (.int .i64 (ci l k).op)/\(prI l)[k*3+1]?=some (.int .i64 (ci l k).n)/\(prI l)[k*3+2]?=some (.float .f64 (ci l k).x)
 | [],_,h=>by simp at h
 | _::_,0,_=>⟨rfl,rfl,rfl⟩
 | i::l,k+1,h=>by
  have:=br3 l k (by simpa using h);rw[show (k+1)*3=k*3+3 by omega,show k*3+3+1=k*3+1+3 by omega,show k*3+3+2=k*3+2+3 by omega];exact this
theorem b79 {u:World} {g:Nat} {l:List Ins} (h:u.heap[g]?=some (.cells (prI l).toArray 124 (0,0))):a39 u (some ⟨g,0,none⟩) l:=fun i hi=>by
 obtain⟨h1,h2,h3⟩:=br3 l i hi;refine⟨g,0,rfl,lt_of_block h,?_,?_,?_⟩ <;> rw[zR u g _ _ _ _ h] <;> simpa using by assumption
def prO (n:Nat):List Obj :=
 [.cells #[.int .i64 2,.int .i64 3,.int .i64 30,.int .i64 2,.slice none 0 0,.slice (some ⟨n+5,0,none⟩) 2 2,.slice (some ⟨n+11,0,none⟩) 3 3] 28,
  .cells (prI prA).toArray 124,.cells #[.int .i64 2,.slice (some ⟨n+1,0,none⟩) 13 13] 121,
  .cells (prI prB).toArray 124,.cells #[.int .i64 1,.slice (some ⟨n+3,0,none⟩) 7 7] 121,
  .cells #[.int .i64 2,.slice (some ⟨n+1,0,none⟩) 13 13,.int .i64 1,.slice (some ⟨n+3,0,none⟩) 7 7] 121,
  .cells #[.float .f64 4617315517961601024] 49,.cells #[.int .i64 0,.slice (some ⟨n+6,0,none⟩) 1 1] 84,.cells #[.int .i64 1,.slice none 0 0] 84,
  .cells #[.float .f64 4611686018427387904] 49,.cells #[.int .i64 0,.slice (some ⟨n+9,0,none⟩) 1 1] 84,
  .cells #[.slice (some ⟨n+7,0,none⟩) 1 1,.slice (some ⟨n+8,0,none⟩) 1 1,.slice (some ⟨n+10,0,none⟩) 1 1] 60]
theorem b81:SuOk prS:=⟨by decide,by decide +kernel,by decide +kernel⟩
theorem bj6:SuIn prS:=suIn b81 bF7
theorem bN3 (w:World):SuAt (prAl w (prO w.heap.size)) prS (prP w.heap.size):=by
 obtain⟨n,hn⟩:∃ n,w.heap.size=n:=⟨_,rfl⟩
 have g:∀ i o,(prO n)[i]?=some o->(prAl w (prO n)).heap[n+i]?=some o:=fun i o h=>by
  rw[<- hn]at h ⊢;exact aF0 _ w i o h
 rw[hn];obtain⟨u,hu⟩:∃ u,prAl w (prO n)=u:=⟨_,rfl⟩
 rw[hu]at g ⊢;have h1:=g 1 _ rfl;have h3:=g 3 _ rfl;have h5:=g 5 _ rfl;have h6:=g 6 _ rfl;have h7:=g 7 _ rfl;have h8:=g 8 _ rfl;have h9:=g 9 _ rfl;have h10:=g 10 _ rfl;have h11:=g 11 _ rfl;clear g hu;have f:∀ (g x:Nat),u.heap[g]?=some (.cells #[.float .f64 x] 49 (0,0))->FlAt u (some ⟨g,0,none⟩) [x]:=fun g x h k hk=>by
  have hk:k<1:=hk;obtain rfl:k=0:=by omega
  exact⟨g,0,rfl,lt_of_block h,(zR u g _ _ _ _ h).trans rfl⟩
 refine⟨fun i hi=>absurd hi (zI _),fun i hi=>?_,fun i hi=>?_,by decide,by decide,by decide,b81⟩
 ·have hi:i<2:=hi
  obtain rfl | rfl:i=0∨i=1:=by omega
  ·exact⟨n+5,0,some ⟨n+1,0,none⟩,13,rfl,lt_of_block h5,(zR u _ _ _ _ _ h5).trans rfl,(zR u _ _ _ _ _ h5).trans rfl,b79 h1,.inr ⟨_,_,_,rfl⟩,by decide⟩
  ·exact⟨n+5,0,some ⟨n+3,0,none⟩,7,rfl,lt_of_block h5,(zR u _ _ _ _ _ h5).trans rfl,(zR u _ _ _ _ _ h5).trans rfl,b79 h3,.inr ⟨_,_,_,rfl⟩,by decide⟩
 ·have hi:i<3:=hi
  obtain rfl | rfl | rfl:i=0∨i=1∨i=2:=by omega
  ·refine⟨n+11,0,some ⟨n+7,0,none⟩,1,rfl,lt_of_block h11,(zR u _ _ _ _ _ h11).trans rfl,fun j hj=>?_,by decide⟩
   have hj:j<1:=hj;obtain rfl:j=0:=by omega
   exact⟨n+7,0,some ⟨n+6,0,none⟩,1,rfl,lt_of_block h7,(zR u _ _ _ _ _ h7).trans rfl,(zR u _ _ _ _ _ h7).trans rfl,f _ _ h6,.inr ⟨_,_,_,rfl⟩,by decide⟩
  ·refine⟨n+11,0,some ⟨n+8,0,none⟩,1,rfl,lt_of_block h11,(zR u _ _ _ _ _ h11).trans rfl,fun j hj=>?_,by decide⟩
   have hj:j<1:=hj;obtain rfl:j=0:=by omega
   exact⟨n+8,0,none,0,rfl,lt_of_block h8,(zR u _ _ _ _ _ h8).trans rfl,(zR u _ _ _ _ _ h8).trans rfl,fun k hk=>absurd hk (zI _),.inl ⟨rfl,rfl,rfl⟩,by decide⟩
  ·refine⟨n+11,0,some ⟨n+10,0,none⟩,1,rfl,lt_of_block h11,(zR u _ _ _ _ _ h11).trans rfl,fun j hj=>?_,by decide⟩
   have hj:j<1:=hj;obtain rfl:j=0:=by omega
   exact⟨n+10,0,some ⟨n+9,0,none⟩,1,rfl,lt_of_block h10,(zR u _ _ _ _ _ h10).trans rfl,(zR u _ _ _ _ _ h10).trans rfl,f _ _ h9,.inr ⟨_,_,_,rfl⟩,by decide⟩
section
variable {w:World}
attribute [local go_sem] a00
theorem bj1:Calls Tryz.prog 41 #[] w fun r w'=>∃ p,r=.returned (.agg (suC prS p))/\Hid (SuAt w' prS p/\Bl w w'):=by
 go_enter Tryz.func41,Tryz.ntmps41;go_wp2_with fail;have HF:Hid (SuAt (prAl w (prO w.heap.size)) prS (prP w.heap.size)/\Bl w (prAl w (prO w.heap.size))):=⟨bN3 w,aN6 _ _⟩;have HG:Hid ((prAl w (prO w.heap.size)).heap[w.heap.size]?=some (.cells (suC prS (prP w.heap.size)) 28)):=aF0 _ w 0 _ rfl;exact bodyPost_ret (w:=prAl w (prO w.heap.size)) (results_cell_row rfl _ _ w.heap.size _ _ _ _ rfl HG.out Tryz.underlying28 rfl (by kernel_rfl)) rfl ⟨prP w.heap.size,rfl,HF.out⟩
end
end Go.Proofs.YtipakfjpfjehmaaGreatDoor.En
namespace Go.Proofs.YtipakfjpfjehmaaGreatDoor.En
open Go.ChangeShapes Go.WideShapes Go.ChangeAt Go.RowKit Num Ww
open Rr (Rx a19 InX okW u64B Alike step_in newX a43)
theorem aK2 (s:Su) (Z:Es) {y y':Nat->Nat}:∀ n,(∀ i,i<n->y i=y' i)->runZ s Z y n=runZ s Z y' n
 | 0,_=>rfl
 | n+1,h=>by
  show oneZ s (runZ s Z y n) (y n)=oneZ s (runZ s Z y' n) (y' n)
  rw[aK2 s Z n (fun i hi=>h i (by omega)),h n (by omega)]
theorem af1 (ws:List Int) (i x:Int):(Md.poked ws i x).length=ws.length:=by
 unfold Md.poked
 split
 ·exact List.length_set ..
 ·rfl
theorem aE8 {ws:List Int} {i:Int} (x:Int) (h0:0<=i) (h1:i<(ws.length:Int)) (j:Int) (hj:0<=j):wordAt (Md.poked ws i x) j=if j=i then x else wordAt ws j:=by
 unfold Md.poked hasB;rw[if_pos (zT ⟨h0,h1⟩)];unfold wordAt;rw[zG,List.getElem?_set]
 by_cases e:j=i
 ·subst e
  rw[if_pos rfl,if_pos (by omega),if_pos rfl]
  rfl
 ·rw[if_neg (by omega),if_neg e,zG]
theorem aj7 {p c j:Int} (h:0<=p/\p<=4096):Md.Ce.placeI p c j=p+3*c+j:=if_pos h
theorem aS9 {N:Nat} {p:Int} {l:List Nat} (hp:0<=p/\p<=4096):∀ k:Nat,p+3*(k:Int)<=(N:Int)->(Md.Ce.startL (List.replicate N 0) p l k).length=N/\∀ j:Int,0<=j->wordAt (Md.Ce.startL (List.replicate N 0) p l k) j=if p<=j/\(j - p) % 3=1/\(j - p) / 3<(k:Int) then (fixB (l.getD ((j - p) / 3).toNat 0):Int) else 0
 | 0,_=>⟨List.length_replicate,fun j hj=>by
   rw[if_neg (by omega)]
   show wordAt (List.replicate N 0) j=0
   unfold wordAt;rw[zG,List.getElem?_replicate]
   split <;> rfl⟩
 | k+1,hk=>by
  obtain⟨h1,h2⟩:=aS9 (N:=N) (l:=l) hp k (by omega);obtain⟨ws,hws⟩:∃ ws,Md.Ce.startL (List.replicate N 0) p l k=ws:=⟨_,rfl⟩
  have e:Md.Ce.startL (List.replicate N 0) p l (k+1)=Md.poked (Md.poked (Md.poked ws (p+3*(k:Int)+0) 0) (p+3*(k:Int)+1) (fixB (l.getD k 0):Int)) (p+3*(k:Int)+2) 0:=by
   show Md.Ce.laidC (Md.Ce.startL (List.replicate N 0) p l k) p k (l.getD k 0)=_
   unfold Md.Ce.laidC;rw[hws,aj7 hp,aj7 hp,aj7 hp]
  rw[hws]at h1 h2;rw[e];refine⟨by rw[af1,af1,af1,h1],fun j hj=>?_⟩;rw[aE8 _ (by omega) (by rw[af1,af1,h1];omega) j hj,aE8 _ (by omega) (by rw[af1,h1];omega) j hj,aE8 _ (by omega) (by rw[h1];omega) j hj,h2 j hj]
  by_cases c2:j=p+3*(k:Int)+2
  ·rw[if_pos c2,if_neg (by omega)]
  ·rw[if_neg c2]
   by_cases c1:j=p+3*(k:Int)+1
   ·rw[if_pos c1,if_pos (by omega),show ((j - p) / 3).toNat=k by omega]
   ·rw[if_neg c1]
    by_cases c0:j=p+3*(k:Int)+0
    ·rw[if_pos c0,if_neg (by omega)]
    ·rw[if_neg c0]
     by_cases q:p<=j/\(j - p) % 3=1/\(j - p) / 3<(k:Int)
     ·rw[if_pos q,if_pos (by omega)]
     ·rw[if_neg q,if_neg (by omega)]
theorem ap3 {s:Su} (hs:SuIn s) (j:Int) (hj:0<=j):wordAt (a98 s) j=if 3+s.b<=j/\(j - (3+s.b)) % 3=1/\(j - (3+s.b)) / 3<(s.st.length:Int) then (fixB (s.st.getD ((j - (3+s.b)) / 3).toNat 0):Int) else 0:=by
 have b8:=hs.b8;have a256:=hs.a256;have sl:=hs.sl;have e0:Md.Ce.startE (List.replicate (3+s.b+3*s.a).toNat 0) (3+s.b) s.st=0:=by
  unfold Md.Ce.startE;rw[if_neg (by omega),if_pos];rw[List.all_eq_true];intro i hi;have hi:=List.mem_range.1 hi;unfold Md.Ce.okP hasB;rw[aj7 ⟨by omega,by omega⟩,aj7 ⟨by omega,by omega⟩,aj7 ⟨by omega,by omega⟩,List.length_replicate]
  simp
  omega
 unfold a98 Md.Ce.startW;rw[if_pos e0];exact(aS9 ⟨by omega,by omega⟩ _ (by omega)).2 j hj
def S0 (s:Su):List Nat:=(List.range s.a.toNat).map fun c=>fixB (s.st.getD c 0)
theorem bz5 {s:Su} (hs:SuIn s) (c:Nat):s.st.getD c 0<18446744073709551616:=by
 rw[zG]
 cases e:s.st[c]? with
 | none=>decide
 | some x=>exact hs.st x (List.mem_of_getElem? e)
theorem EI0 {s:Su} (hs:SuIn s):EI (E0 s) (fun _=>S0 s) 0:=by
 have b8:=hs.b8;have a256:=hs.a256;have nb:=hs.nb;refine EI.fresh (fun _=>rfl) (fun _=>rfl) rfl rfl hs.nb.symm (ap4 hs).2 (ap4 hs).1 (fun p p0 p1=>?_) (fun c c0 c1=>?_) ⟨?_,fun x hx=>?_⟩ (fun c c0 c1=>?_) (fun t j ht hj=>?_) ?_
 ·have p1:p<3+s.b:=p1
  show wordAt (a98 s) p=0
  rw[ap3 hs p p0,if_neg (by omega)]
 ·have c1:c<s.a:=c1
  show wordAt (a98 s) (3+s.b+3*c)=0
  rw[ap3 hs _ (by omega),if_neg (by omega)]
 ·show ((S0 s).length:Int)=s.a
  simp[S0]
  omega
 ·obtain⟨c,_,rfl⟩:=List.mem_map.1 hx
  exact a83 (bz5 hs c)
 ·have c1:c<s.a:=c1
  have e:Sx.getV (S0 s) c=fixB (s.st.getD c.toNat 0):=by
   unfold Sx.getV Sx.hasN S0
   simp[show c.toNat<s.a.toNat by omega,show 0<=c from c0,show c<max s.a 0 by omega]
  show fixB (wordAt (a98 s) (3+s.b+3*c+1)).toNat=_
  rw[ap3 hs _ (by omega),e]
  by_cases q:c<(s.st.length:Int)
  ·rw[if_pos (by omega),show ((3+s.b+3*c+1 - (3+s.b)) / 3).toNat=c.toNat by omega,Int.toNat_natCast]
   exact(a83 (bz5 hs c.toNat)).1
  ·rw[if_neg (by omega),zG,List.getElem?_eq_none (by omega)]
   rfl
 ·have hj:j<(s.cs t).length:=hj
  obtain⟨n1,_⟩:=bi5 hs ht hj
  show br8 ⟨s.a,s.b⟩ t (some (newT s t (s.call t j)))
  revert n1
  unfold newT
  split
  ·rintro⟨k1,k2,k3,k4,_⟩
   exact .inr ⟨_,rfl,k1,k2,k3,k4,rfl,rfl,rfl⟩
  ·rintro⟨k1,k2,k3,k4⟩
   exact .inl ⟨_,rfl,k1,k2,k3,k4,rfl,rfl,rfl⟩
 ·show su (fun t=>(s.cs t).length) s.n<=1000000
  have:=ba7 (f:=fun t=>(s.cs t).length) (m:=64) s.n (fun i _=>hs.few i);omega
theorem HA0 {s:Su} (hs:SuIn s):HA (X0 s).H (fun _=>S0 s) 0 (fun _=>0) (fun _=>0):=by
 obtain⟨h1,h2,h3⟩:=HI.fresh (H:=(X0 s).H) (EI0 hs) (fun _=>rfl) (fun _=>rfl) rfl rfl;have b8:=hs.b8;have a256:=hs.a256;refine⟨h1,h2,h3,fun i m x hi=>absurd hi (zI _),fun c c0 c1=>?_,fun t j m x ht hj e=>?_⟩
 ·have c1:c<s.a:=c1
  show okN (wordAt (a98 s) (3+s.b+3*c+1)).toNat
  rw[ap3 hs _ (by omega)]
  split
  ·rw[Int.toNat_natCast]
   exact a83 (bz5 hs _)
  ·exact⟨by decide,by decide⟩
 ·have e:some (newT s t (s.call t j))=Tx.wr m x:=e
  have e:=Option.some.inj e;unfold newT at e
  split at e
  ·cases e
   rfl
  ·cases e
def HAE (H:Hs):Prop:=∃ S k pt ld,HA H S k pt ld
theorem bF5 {s:Su} {Z:Es} {t:Nat} (wi:WI s Z.X) (h:HAE Z.X.H) (ht:t<s.n):HAE (oneZ s Z t).X.H:=by
 unfold oneZ
 cases hf:finB Z.X.H.E t with
 | true=>exact h
 | false =>
  obtain⟨S,k,pt,ld,h⟩:=h;obtain⟨S',k',pt',ld',q,_⟩:=h.step (by rw[wi.n];exact ht) (zM hf);exact⟨S',k',pt',ld',q⟩
theorem br4 {s:Su} (hs:SuIn s) {Z:Es} (wi:WI s Z.X) (h:HAE Z.X.H) {y:Nat->Nat}:∀ k,(∀ i,i<k->y i<s.n)->HAE (runZ s Z y k).X.H
 | 0,_=>h
 | k+1,hy=>bF5 (al7 hs wi k (fun i hi=>hy i (by omega))).1 (br4 hs wi h k (fun i hi=>hy i (by omega))) (hy k (by omega))
def TgOk:Ty->Prop
 | .inl (_,x)=>x.tag≠2
 | .inr (_,x)=>x.tag=2
structure TG (s:Su) (X:Rs):Prop where
 T:∀ t y,t<s.n->X.H.E.T t=some y->TgOk y
 D:∀ i,i<X.H.dn->TgOk (X.H.D i).tx
theorem bH2 (s:Su) (t:Nat) (x:Int × List Nat):TgOk (newT s t x):=by
 unfold newT
 split
 ·next h=>exact h
 ·next h=>exact h
theorem bH1 {s:Su} {t:Nat} {N:Int} {y:Ty} {ws:List Int} (h:TIn s t N y) (ho:a51 y=false) (hw:okW ws) (g:TgOk y):TgOk (goS y ws):=by
 rcases y with⟨m,x⟩ | ⟨m,x⟩
 ·have:=(step_in h.1 (zM ho) hw).2.1.tag
  show (a19 x ws).1.tag≠2
  rw[this];exact g
 ·have:=(a94 h.1 (zM ho) hw).2.1.tag
  show (a09 x ws).1.tag=2
  rw[this];exact g
section
variable {s:Su} {Z:Es} {t:Nat}
theorem TG.came {X':Rs} {y:Ty} {T:Nat->Tx} {B at_:Nat->Nat} {D:Nat->Dd} {dn i:Nat} (c:Came Z.X X' t y T B at_ D dn i) (hT:∀ u y',u≠t->u<s.n->T u=some y'->TgOk y') (hD:∀ k,k≠i->k<dn->TgOk (D k).tx) (hy:TgOk (goS y Z.X.H.E.ws)):TG s X':=by
 refine⟨fun u y' hu q=>?_,fun k hk=>?_⟩
 ·rw[c.T]at q
  by_cases e:u=t
  ·subst e
   rw[a08]at q
   split at q
   ·cases q
   ·cases q
    exact hy
  ·rw[a24 _ _ e]at q
   exact hT u y' e hu q
 ·rw[c.dn]at hk
  rw[c.D]
  by_cases e:k=i
  ·subst e
   rw[a18];exact hy
  ·rw[a40 _ _ e]
   exact hD k e hk
theorem TG.one (hs:SuIn s) (wi:WI s Z.X) (g:TG s Z.X) (ht:t<s.n):TG s (oneZ s Z t).X:=by
 unfold oneZ
 cases hf:finB Z.X.H.E t with
 | true=>exact g
 | false =>
  show TG s (stepR Z.X t)
  have hf:=zM hf
  cases hT:Z.X.H.E.T t with
  | none =>
   have hl:=wi.less ht hf hT;obtain⟨n1,n2⟩:=bi5 hs ht hl;refine TG.came (am3 wi hT rfl) (fun u y' c hu q=>?_) (fun k c hk=>?_) (bH1 n1 n2 wi.ok (bH2 s t _))
   ·rw[a24 _ _ c]at q
    exact g.T u y' hu q
   ·rw[a40 _ _ c]
    exact g.D k (by omega)
  | some y =>
   obtain⟨n1,n2⟩:=wi.T t y ht hT;exact TG.came (aj1 hT) (fun u y' _ hu q=>g.T u y' hu q) (fun k _ hk=>g.D k hk) (bH1 n1 n2 wi.ok (g.T t y ht hT))
theorem tg0 (s:Su):TG s (X0 s):=⟨fun t y _ h=>(by cases h),fun i hi=>absurd hi (zI _)⟩
theorem TG.run (hs:SuIn s) (wi:WI s Z.X) (g:TG s Z.X) {y:Nat->Nat}:∀ k,(∀ i,i<k->y i<s.n)->TG s (runZ s Z y k).X
 | 0,_=>g
 | k+1,hy=>TG.one hs (al7 hs wi k (fun i hi=>hy i (by omega))).1 (TG.run hs wi g k (fun i hi=>hy i (by omega))) (hy k (by omega))
end
end Go.Proofs.YtipakfjpfjehmaaGreatDoor.En
namespace Go.Proofs.YtipakfjpfjehmaaGreatDoor.Ww
open Go.ChangeShapes Go.WideShapes Go.ChangeAt Go.RowKit Num Rr
end Go.Proofs.YtipakfjpfjehmaaGreatDoor.Ww
namespace Go.Proofs.YtipakfjpfjehmaaGreatDoor.En
open Go.ChangeShapes Go.WideShapes Go.ChangeAt Go.RowKit Num Ww
open Rr (Rx a19 InX okW u64B Alike step_in newX a43)
end Go.Proofs.YtipakfjpfjehmaaGreatDoor.En
namespace Go.Proofs.YtipakfjpfjehmaaGreatDoor.Bo
open Go.ChangeShapes Go.WideShapes Go.ChangeAt Go.RowKit Go.Shelf Md En
attribute [local go_sem] Oper.semAt_some
theorem deedInfo:(Tryz.prog.info? 48).map (·.size)=some 19:=by kernel_rfl
attribute [local go_sem] Oper.semAt_some
attribute [local go_sem] Oper.semAt_some
attribute [local go_sem] Oper.semAt_some
attribute [local go_sem] Oper.semAt_some
end Go.Proofs.YtipakfjpfjehmaaGreatDoor.Bo
namespace Go.Proofs.YtipakfjpfjehmaaGreatDoor.En
open Go.ChangeShapes Go.WideShapes Go.ChangeAt Go.RowKit Num Ww
open Rr (Rx a19 InX okW u64B Alike step_in newX a43)
def aW2 (s:Su) (n:Nat):Bool:=anyU (fun i=>decide (64<(s.cl.getD i []).length)) n
theorem bh0 (s:Su):az5 s=(decide (64<s.pg.length) || decide (s.b<(s.cl.length:Int)) || aW2 s s.cl.length):=by unfold az5 aW2;rw[aZ6 s.cl []]
section
variable {w w':World} {s:Su} {p:Sp}
theorem aL2 (h:SuAt w s p):Calls Tryz.prog 11 #[.agg (suC s p)] w fun r w'=>r=.returned (.int .i64 (errS s))/\Bl w w':=by
 have HB:=zH (ay3 w s p);have HX:Hid (∀ u,Below (w.alloc (suO s p)).heap.size (w.alloc (suO s p)) u->SuAt u s p/\u.heap[w.heap.size]?=some (suO s p)/\Bl w u):=fun u hu=>⟨(h.on HB.out.1).on hu,(hu.block _ (lt_of_block HB.out.2)).trans HB.out.2,HB.out.1.trans (hu.mono HB.out.1.size)⟩
 have HP:=zH (fun u=>Md.refPlace_any s.a s.b s.c s.e u);have l1:=h.l1;have l2:=h.l2;have l3:=h.l3;have HE:=zH (b28 s);have HMA:=zH (bh0 s);clear h
 cases hc:Md.cfgB s.a s.b s.c s.e with
 | false =>
  rw[hc]at HP;simp only[if_neg Bool.false_ne_true]at HP;have HE2:Hid (errS s=1):=by rw[HE.out,hc];trivial
  clear HE HMA;go_enter Tryz.func11,Tryz.ntmps11
  go_wp2_with (go_at_call 34;refine(HP.out _).mono ?_;rintro r u1 ⟨rfl,q⟩;have H1:=zH q;clear q HP)
  go_ret;have:=(HX.out _ H1.out).2.2;exact⟨by rw[HE2.out];rfl,this.alloc this.size _⟩
 | true =>
  rw[hc]at HP;simp only[if_pos]at HP
  by_cases q1:(s.st.length:Int)<=s.a
  ·have q1':¬ s.a<(s.st.length:Int):=by omega
   by_cases q2:64<s.pg.length
   ·have q2':(64:Int)<(s.pg.length:Int):=by omega
    have HE2:Hid (errS s=160):=by rw[HE.out,hc,HMA.out,zT q1,zT q2];trivial
    clear HE HMA;go_enter Tryz.func11,Tryz.ntmps11
    go_wp2_with (go_at_call 34;refine(HP.out _).mono ?_;rintro r u1 ⟨rfl,q⟩;have H1:=zH q;obtain⟨s0,s1,s2,s3,s4,s5,s6,s7⟩:=a75 (HX.out _ q).2.1;clear q HP)
    go_ret;have:=(HX.out _ H1.out).2.2;exact⟨by rw[HE2.out];rfl,this.alloc this.size _⟩
   ·have q2':¬ (64:Int)<(s.pg.length:Int):=by omega
    by_cases q3:s.b<(s.cl.length:Int)
    ·have HE2:Hid (errS s=160):=by rw[HE.out,hc,HMA.out,zT q1,zT q3,Bool.or_true,Bool.true_or];trivial
     clear HE HMA;go_enter Tryz.func11,Tryz.ntmps11
     go_wp2_with (go_at_call 34;refine(HP.out _).mono ?_;rintro r u1 ⟨rfl,q⟩;have H1:=zH q;obtain⟨s0,s1,s2,s3,s4,s5,s6,s7⟩:=a75 (HX.out _ q).2.1;clear q HP)
     go_ret;have:=(HX.out _ H1.out).2.2;exact⟨by rw[HE2.out];rfl,this.alloc this.size _⟩
    ·have HE2:Hid (errS s=if aW2 s s.cl.length then 160 else if badT s s.cl.length then 1 else 0):=by rw[HE.out,hc,HMA.out,zT q1,zU q2,zU q3,Bool.false_or,Bool.false_or];trivial
     clear HE HMA;go_enter Tryz.func11,Tryz.ntmps11
     go_wp2_with (go_at_call 34;refine(HP.out _).mono ?_;rintro r u1 ⟨rfl,q⟩;have H1:=zH (fun o=>q.alloc q.size o);obtain⟨s0,s1,s2,s3,s4,s5,s6,s7⟩:=a75 (HX.out _ q).2.1;clear q HP)
     clear s0 s1 s2 s3 s4 s5 s6 s7
     go_loopw [2,44] (fun v2 v44 wr=>∃ k:Nat,v44=.int .i64 (k:Int)/\v2=.int .i64 0/\k<=s.cl.length/\Hid (Below (w.alloc (suO s p)).heap.size (w.alloc (suO s p)) wr/\aW2 s k=false)) (fun v2 v44 _=>s.cl.length - (intOf v44).toNat)
     case atStart=>exact⟨0,rfl,rfl,zV _,H1.out _,rfl⟩
     case round =>
      obtain⟨k,rfl,rfl,hk,HR⟩:=hrel;clear H1
      by_cases hlt:k<s.cl.length
      ·have hlt':(k:Int)<(s.cl.length:Int):=by omega
       obtain⟨g,o,qa,c,e,hg,c0,_,ln⟩:=(HX.out _ HR.out.1).1.cl k hlt;obtain⟨m,hm⟩:∃ m,(s.cl.getD k []).length=m:=⟨_,rfl⟩
       rw[hm]at c0 ln
       by_cases q:64<m
       ·have q':(64:Int)<(m:Int):=by omega
        have HY:Hid (aW2 s s.cl.length=true):=(ad7 _ _).2 ⟨k,hlt,zT (by omega)⟩;clear hm;rw[e];go_wp2_with fail;go_ret;exact⟨by rw[HE2.out,HY.out];rfl,(HX.out _ HR.out.1).2.2⟩
       ·have q':¬ (64:Int)<(m:Int):=by omega
        have HY:Hid (aW2 s (k+1)=false):=by
         show (anyU _ k || decide _)=false
         rw[zU (by omega),Bool.or_false];exact HR.out.2
        clear hm;rw[e];go_wp2_with fail;exact⟨⟨k+1,by first | rfl | (congr 1),rfl,by omega,HR.out.1,HY.out⟩,by simp[intOf];omega⟩
      ·have hk':k=s.cl.length:=by omega
       have hlt':¬ (k:Int)<(s.cl.length:Int):=by omega
       have HE3:Hid (errS s=if badT s s.cl.length then 1 else 0):=by rw[HE2.out,<- hk',HR.out.2];trivial
       obtain⟨s0,s1,s2,s3,s4,s5,s6,s7⟩:=a75 (HX.out _ HR.out.1).2.1;have HR1:=zH HR.out.1;clear HE2 hk';go_wp2_with fail;clear s0 s1 s2 s3 s4 s5 s6 s7 HR hlt hlt' hk
       go_loopw [2,55] (fun v2 v55 wr=>∃ k:Nat,v55=.int .i64 (k:Int)/\v2=.int .i64 0/\k<=s.cl.length/\Hid (Below (w.alloc (suO s p)).heap.size (w.alloc (suO s p)) wr/\badT s k=false)) (fun v2 v55 _=>s.cl.length - (intOf v55).toNat)
       case atStart=>exact⟨0,rfl,rfl,zV _,HR1.out,rfl⟩
       case round =>
        obtain⟨k,rfl,rfl,hk,HR⟩:=hrel;clear HR1
        by_cases hlt:k<s.cl.length
        ·have hlt':(k:Int)<(s.cl.length:Int):=by omega
         obtain⟨g,o,qa,c,e,hg,c0,ca,ln⟩:=(HX.out _ HR.out.1).1.cl k hlt;have HY:Hid ((badC s (s.cl.getD k []) (s.cl.getD k []).length=true->errS s=1)/\(badC s (s.cl.getD k []) (s.cl.getD k []).length=false->badT s (k+1)=false)):=by
          refine⟨fun q=>?_,fun q=>?_⟩
          ·rw[HE3.out,show badT s s.cl.length=true from(ad7 _ _).2 ⟨k,hlt,q⟩]
           rfl
          ·show (anyU _ k || badC s (s.cl.getD k []) (s.cl.getD k []).length)=false
           rw[q,Bool.or_false];exact HR.out.2
         obtain⟨l,hl⟩:∃ l,s.cl.getD k []=l:=⟨_,rfl⟩
         rw[hl]at c0 ca ln HY;obtain⟨m,hm⟩:∃ m,l.length=m:=⟨_,rfl⟩
         rw[hm]at c0 ln HY;have HCA:=zH ca;have HM:=zH hm;obtain⟨wo,hwo⟩:∃ wo,wo=wr:=⟨_,rfl⟩
         rw[<- hwo]at HR c0 hg HCA ⊢;clear hl hm ca hwo;rw[e];go_wp2_with fail
         go_loopw [2,61] (fun v2 v61 wi=>∃ j:Nat,v61=.int .i64 (j:Int)/\v2=.int .i64 0/\j<=m/\Hid (Bl wo wi/\badC s l j=false)) (fun v2 v61 _=>m - (intOf v61).toNat)
         case atStart=>exact⟨0,rfl,rfl,zV _,zF _ _,rfl⟩
         case round =>
          obtain⟨j,rfl,rfl,hj,HI⟩:=hrel;have HBW:=zH (HR.out.1.trans (HI.out.1.mono HR.out.1.size))
          by_cases hjt:j<m
          ·have hjt':(j:Int)<(m:Int):=by omega
           obtain⟨g2,o2,po,cc,e2,hg2,d0,d1,_,_,lx⟩:=(HCA.out.on HI.out.1) j (by rw[HM.out];exact hjt);obtain⟨x,hx⟩:∃ x,l.getD j (0,[])=x:=⟨_,rfl⟩
           have HZ:Hid ((a61 s.pg.length x=true->badC s l (j+1)=false)/\(a61 s.pg.length x=false->errS s=1)):=by
            refine⟨fun q=>?_,fun q=>HY.out.1 ((ad7 _ _).2 ⟨j,hjt,by rw[hx,q];rfl⟩)⟩
            show (anyU _ j || !a61 s.pg.length (l.getD j (0,[])))=false
            rw[hx,q,Bool.not_true,Bool.or_false];exact HI.out.2
           rw[hx]at d0 d1 lx;have HMY:Hid (a61 s.pg.length x=(decide (0<=x.1) && decide (x.1<(s.pg.length:Int)) && decide (x.2.length<=8))):=rfl;obtain⟨n2,hn2⟩:∃ n2,x.2.length=n2:=⟨_,rfl⟩
           obtain⟨x1,hx1⟩:∃ x1,x.1=x1:=⟨_,rfl⟩
           rw[hn2]at HMY d1 lx;rw[hx1]at HMY d0;clear hx hn2 hx1;have HAL:Hid (∀ ob,Below (w.alloc (suO s p)).heap.size (w.alloc (suO s p)) (wr.alloc ob)/\Bl wo (wr.alloc ob)):=fun ob=>⟨HBW.out.alloc HBW.out.size ob,HI.out.1.alloc HI.out.1.size ob⟩
           obtain⟨s0,s1,s2,s3,s4,s5,s6,s7⟩:=a75 (HX.out _ (HAL.out (.cells #[.int .i64 x1,.slice po n2 cc] 84)).1).2.1;clear s0 s1 s2 s3 s4 s6;subst e2
           by_cases y1:x1<0
           ·have hb:a61 s.pg.length x=false:=by rw[HMY.out,zU (by omega)];rfl
            go_wp2_with fail;go_ret;exact⟨by rw[HZ.out.2 hb];rfl,(HX.out _ (HAL.out (.cells #[.int .i64 x1,.slice po n2 cc] 84)).1).2.2⟩
           ·by_cases y2:(s.pg.length:Int)<=x1
            ·have hb:a61 s.pg.length x=false:=by rw[HMY.out,zU (show ¬ x1<(s.pg.length:Int) by omega),Bool.and_false];rfl
             go_wp2_with fail;go_ret;exact⟨by rw[HZ.out.2 hb];rfl,(HX.out _ (HAL.out (.cells #[.int .i64 x1,.slice po n2 cc] 84)).1).2.2⟩
            ·by_cases y3:8<n2
             ·have y3':(8:Int)<(n2:Int):=by omega
              have hb:a61 s.pg.length x=false:=by rw[HMY.out,zU (show ¬ n2<=8 by omega),Bool.and_false]
              go_wp2_with fail;go_ret;exact⟨by rw[HZ.out.2 hb];rfl,(HX.out _ (HAL.out (.cells #[.int .i64 x1,.slice po n2 cc] 84)).1).2.2⟩
             ·have y3':¬ (8:Int)<(n2:Int):=by omega
              have hb:a61 s.pg.length x=true:=by rw[HMY.out,zT (show 0<=x1 by omega),zT (show x1<(s.pg.length:Int) by omega),zT (show n2<=8 by omega)];rfl
              go_wp2_with fail;exact⟨⟨j+1,by first | rfl | (congr 1),rfl,by omega,(HAL.out _).2,HZ.out.1 hb⟩,by simp[intOf];omega⟩
          ·have hjm:j=m:=by omega
           have hjt':¬ (j:Int)<(m:Int):=by omega
           go_wp2_with fail;exact⟨⟨k+1,by first | rfl | (congr 1),rfl,by omega,HBW.out,HY.out.2 (by rw[<- hjm];exact HI.out.2)⟩,by simp[intOf];omega⟩
        ·have hk':k=s.cl.length:=by omega
         have hlt':¬ (k:Int)<(s.cl.length:Int):=by omega
         go_wp2_with fail;go_ret;exact⟨by rw[HE3.out,<- hk',HR.out.2];rfl,(HX.out _ HR.out.1).2.2⟩
  ·have q1':s.a<(s.st.length:Int):=by omega
   have HE2:Hid (errS s=1):=by rw[HE.out,zU q1,Bool.and_false];trivial
   clear HE HMA;go_enter Tryz.func11,Tryz.ntmps11
   go_wp2_with (go_at_call 34;refine(HP.out _).mono ?_;rintro r u1 ⟨rfl,q⟩;have H1:=zH q;obtain⟨s0,s1,s2,s3,s4,s5,s6,s7⟩:=a75 (HX.out _ q).2.1;clear q HP)
   go_ret;have:=(HX.out _ H1.out).2.2;exact⟨by rw[HE2.out];rfl,this.alloc this.size _⟩
end
def yS (s:Su) (x:Nat->Int) (i:Nat):Nat:=(x i % s.b).toNat
theorem bB8 {s:Su} (hs:SuIn s) (x:Nat->Int) (i:Nat):x i % s.b=(yS s x i:Int)/\yS s x i<s.n:=by
 have b8:=hs.b8;have nb:=hs.nb;have h1:=Int.emod_nonneg (x i) (show s.b≠0 by omega);have h2:=Int.emod_lt_of_pos (x i) (show 0<s.b by omega);unfold yS;omega
theorem bv2 {w w':World} {B n:Nat} {q:Option Addr} {x:Nat->Int} (h:Sd.IntsAt w q n x) (k:Below B w w') (hB:w.heap.size<=B):Sd.IntsAt w' q n x:=fun i hi=>by
 obtain⟨g,o,e,hg,c⟩:=h i hi;exact⟨g,o,e,zL hg k.size,(k.cell (p:=⟨g,_,none⟩) (zL hg hB)).trans c⟩
section
variable {W:World} {s:Su} {p:Sp}
theorem bF8 (h:SuAt W s p) (hT:Shaped5 W) {W0:World} (hW0:W0=W.alloc (suO s p)):(∀ u,Bl W0 u->u.heap[W.heap.size]?=some (suO s p)/\Bl W u/\SuAt u s p/\Shaped5 u)/\W.heap.size<=W0.heap.size:=by
 have b:=(ay3 W s p).1;have e:=(ay3 W s p).2;rw[<- hW0]at b e;exact⟨fun u hu=>⟨(hu.block _ (lt_of_block e)).trans e,a20 b hu,(h.on b).on hu,(hT.on b).on hu⟩,b.size⟩
end
end Go.Proofs.YtipakfjpfjehmaaGreatDoor.En
namespace Go.Proofs.YtipakfjpfjehmaaGreatDoor.En
open Go.ChangeShapes Go.WideShapes Go.ChangeAt Go.RowKit Num Ww
def OF (W:World) (f:Ex) (s:Su) (Z:Es) (G:List (Nat × Obj)) (w:World):Prop:=Bl W w/\∃ v,Eng w f v s Z/\Frs W.heap.size f v/\∀ y∈G,w.heap[y.1]?=some y.2/\y.1∉fF f v
section
variable {W w w':World} {f:Ex} {s:Su} {Z:Es} {n c:Nat} {G:List (Nat × Obj)} {q:Option Addr} {x:Nat->Int}
theorem OF.on (h:OF W f s Z G w) (k:Bl w w'):OF W f s Z G w':=by
 obtain⟨b,v,h1,h2,h3⟩:=h;exact⟨a20 b k,v,h1.on k,h2,fun y hy=>⟨(k.block _ (lt_of_block (h3 y hy).1)).trans (h3 y hy).1,(h3 y hy).2⟩⟩
theorem bF3 {p:Sp} (b:Bl W w) (hp:SuAt w s p) (hT:Shaped5 w) (he:errS s=0):Calls Tryz.prog 10 #[.agg (suC s p)] w fun r w'=>∃ f,r=.returned (.tuple #[.pointer (some ⟨Ex.b f,0,none⟩),.int .i64 0])/\Hid (OF W f s (Z0 s) [] w'):=by
 refine(bq8 hp hT he).mono ?_;rintro r w' ⟨f,v,rfl,k⟩;obtain⟨k1,k2,k3⟩:=k.out;have l:=b.size;exact⟨f,rfl,zH ⟨a20 b k3,v,k1,⟨fun k hk=>zQ l (k2.own k hk),fun k hk=>(k2.ro k hk).imp id (zQ l)⟩,fun g hg=>by cases hg⟩⟩
theorem OF.run (h:OF W f s Z G w) (hs:SuIn s) (hx:Sd.IntsAt w q n x) (hn:n<=65536) (hN:Z.X.H.N<=900000) :
  Calls Tryz.prog 12 #[.pointer (some ⟨f.b,0,none⟩),.slice q n c] w fun r w'=>∃ k:Int,r=.returned (.tuple #[.int .i64 k,.int .i64 0])/\Hid (OF W f s (runZ s Z (yS s x) n) G w'/\(runZ s Z (yS s x) n).X.H.N<=Z.X.H.N+n):=by
 obtain⟨b,v,h1,h2,h3⟩:=h;refine(bz1 h1 hs hx hn (by omega) (fun i _=>bB8 hs x i)).mono ?_;rintro r w' ⟨rfl,k⟩;obtain⟨v',k1,k2⟩:=k.out;have hy:∀ i,i<n->yS s x i<s.n:=fun i _=>(bB8 hs x i).2
 obtain⟨z1,z2⟩:=h2.ext b.size k2;refine⟨_,rfl,zH ⟨⟨b.trans z2,v',k1,z1,fun y hy=>?_⟩,(al7 hs h1.wi n hy).2⟩⟩;obtain⟨e1,e2⟩:=h3 y hy;have lt:=lt_of_block e1;refine⟨(k2.turn.block _ lt e2).trans e1,fun z=>?_⟩
 rcases k2.turn.own _ z with u | u
 ·exact e2 u
 ·omega
theorem OF.over (h:OF W f s Z G w) (hs:SuIn s):Calls Tryz.prog 15 #[.pointer (some ⟨f.b,0,none⟩)] w fun r w'=>r=.returned (.bool (ovB Z.X.H.E s.n))/\Same w w':=by
 obtain⟨_,v,h1,_⟩:=h;exact over_any h1 hs
theorem OF.deeds (h:OF W f s Z G w) (hs:SuIn s):Calls Tryz.prog 14 #[.pointer (some ⟨f.b,0,none⟩)] w fun r w'=>∃ g,r=.returned (.slice (some ⟨g,0,none⟩) Z.X.H.dn Z.X.H.dn)/\Hid (∃ D,DdsAt w' w.heap.size g Z.X.H.dn Z.X.H.dn s Z D/\Bl w w'):=by
 obtain⟨_,v,h1,_⟩:=h;exact b24 h1 hs
theorem OF.state (h:OF W f s Z G w) (hs:SuIn s):Calls Tryz.prog 43 #[.pointer (some ⟨f.b,0,none⟩)] w fun r w'=>∃ g,r=.returned (.slice (some ⟨g,0,none⟩) s.a.toNat s.a.toNat)/\Hid (FlAt w' (some ⟨g,0,none⟩) (aB2 s Z.X.H.E.ws)/\Bl w w'):=by
 obtain⟨_,v,h1,_⟩:=h;refine(ba4 h1 hs).mono ?_;rintro r w' ⟨g,rfl,k⟩;exact⟨g,rfl,zH ⟨k.out.2.1.fl,k.out.2.2⟩⟩
end
theorem bG6 {w u:World} (h:Same w u) (p:Addr):u.cell? p=w.cell? p:=by unfold World.cell?;rw[h.heap]
section
variable {w:World}
attribute [local go_sem] bits_run
theorem bE2 {pa pb:Option Addr} {ca cb n:Nat} {l:List Nat} (hn:l.length=n) (hm:n<=9223372036854775807) (ha:FlAt w pa l) (hb:FlAt w pb l):Calls Tryz.prog 42 #[.slice pa n ca,.slice pb n cb] w fun e w'=>e=.returned (.bool true)/\Same w w':=by
 have HA:=zH ha;have HB:=zH hb;have HN:=zH hn;have hmi:(n:Int)<=9223372036854775807:=by omega
 clear ha hb hn;go_enter Tryz.func42,Tryz.ntmps42;go_wp2_with fail
 go_loopw [4,13] (fun v4 v13 u=>∃ k:Nat,v13=.int .i64 (k:Int)/\v4=.bool false/\k<=n/\Hid (Same w u)) (fun _ v13 _=>n - (intOf v13).toNat)
 case atStart=>exact⟨0,rfl,rfl,zV _,Same.refl w⟩
 case round =>
  obtain⟨k,rfl,rfl,hk,HR⟩:=hrel
  by_cases hlt:k<n
  ·have hlt':(k:Int)<(n:Int):=by omega
   obtain⟨g1,o1,e1,l1,c1⟩:=HA.out k (by rw[HN.out];exact hlt);obtain⟨g2,o2,e2,l2,c2⟩:=HB.out k (by rw[HN.out];exact hlt);obtain⟨x,hx⟩:∃ x,l.getD k 0=x:=⟨_,rfl⟩
   rw[hx]at c1 c2;clear hx;replace c1:=(bG6 HR.out _).trans c1;replace c2:=(bG6 HR.out _).trans c2;rw[<- HR.out.heap]at l1 l2;subst e1 e2;clear HA HB HN
   go_upto_region 6 with fail
   refine a06 (fun u=>u.cell? ⟨g1,o1+k,none⟩=some (.float .f64 x)/\u.cell? ⟨g2,o2+k,none⟩=some (.float .f64 x) )  ((0,true)::(1,true)::(2,true)::(3,true)::(5,true)::(6,true)::(7,true)::(8,true)::(4,false)::(9,false)::(10,true)::[])  Md.Cv.follows13 (by kernel_rfl) (fun _ _ _ _ _ h=>h)  ⟨c1,c2⟩ ?_
   (repeat ((first | (refine a02 (v:=?_) rfl (by rfl) (fun wq hSq=>?_) ?_;rotate_left;(focus ((try dsimp only at hSq);go_simp;try with_reducible rfl))) | refine a03 rfl (by rfl) ?_);simp only[Act.put,zA,zB,zC]))
   (refine a04 rfl (by rfl) (fun KK hK=>?_);go_simp)
   refine hK.out _ _ ⟨c1,c2⟩ ?_
   (clear hK KK;try simp only[Act.put,zA,zB,zC])
   (repeat ((first | (refine a02 (v:=?_) rfl (by rfl) (fun wq hSq=>?_) ?_;rotate_left;(focus ((try dsimp only at hSq);go_simp;try with_reducible rfl))) | refine a03 rfl (by rfl) ?_);simp only[Act.put,zA,zB,zC]))
   (refine a04 rfl (by rfl) (fun KK hK=>?_);go_simp)
   refine hK.out _ _ ⟨c1,c2⟩ ?_
   (clear hK KK;try simp only[Act.put,zA,zB,zC])
   (repeat ((first | (refine a02 (v:=?_) rfl (by rfl) (fun wq hSq=>?_) ?_;rotate_left;(focus ((try dsimp only at hSq);go_simp;try with_reducible rfl))) | refine a03 rfl (by rfl) ?_);simp only[Act.put,zA,zB,zC]))
   refine a13 ?_;go_wp2_with fail;exact⟨⟨k+1,by first | rfl | (congr 1),rfl,by omega,HR.out.trans (Same.drew _)⟩,by simp[intOf];omega⟩
  ·have hlt':¬ (k:Int)<(n:Int):=by omega
   go_wp2_with fail;go_ret;exact⟨rfl,HR.out⟩
end
theorem bx6 {u:World} {n:Nat} {l:List Int} (hl:l.length=n):Sd.IntsAt (u.alloc (.cells (l.map (Value.int .i64)).toArray 3)) (some ⟨u.heap.size,0,none⟩) n (fun i=>l.getD i 0):=fun i hi=>⟨u.heap.size,0,rfl,by simp,by
 rw[zR _ _ _ _ _ _ (zN _ _)];have:i<l.length:=by omega
 simp[this]⟩
theorem bN4 {w:World} {g x y:Nat} (h:w.heap[g]?=some (.cells #[.float .f64 x,.float .f64 y] 49 (0,0))):FlAt w (some ⟨g,0,none⟩) [x,y]:=fun k hk=>by
 refine⟨g,0,rfl,lt_of_block h,?_⟩;rw[zR _ _ _ _ _ _ h]
 match k,hk with
 | 0,_=>rfl
 | 1,_=>rfl
structure PrD (u:World) (g:Nat) (po:Option Addr) (co:Nat):Prop where
 a5:u.cell? ⟨g,5,none⟩=some (.int .i64 0)
 a9:u.cell? ⟨g,9,none⟩=some (.slice po 2 co)
 fl:FlAt u po [0,0]
 b6:u.cell? ⟨g,25,none⟩=some (.int .i64 1)
 c6:u.cell? ⟨g,44,none⟩=some (.int .i64 2)
 lg:g<u.heap.size
theorem PrD.on {u w:World} {g co:Nat} {po:Option Addr} (h:PrD u g po co) (k:Bl u w):PrD w g po co :=
 ⟨(k.cell (p:=⟨g,_,none⟩) h.lg).trans h.a5,(k.cell (p:=⟨g,_,none⟩) h.lg).trans h.a9,h.fl.on k,(k.cell (p:=⟨g,_,none⟩) h.lg).trans h.b6,(k.cell (p:=⟨g,_,none⟩) h.lg).trans h.c6,zL h.lg k.size⟩
theorem bj5 {Z1 Z2 Z3:Es} (hF:PrF Z1 Z2 Z3) {u:World} {B g:Nat} {D:Nat->Rr.Dd} (h:DdsAt u B g Z3.X.H.dn Z3.X.H.dn prS Z3 D):∃ po co,PrD u g po co:=by
 rw[hF.dn]at h;have d0:=fun j=>h.row.cell (i:=0) (by decide) (j:=j)
 have d1:=fun j=>h.row.cell (i:=1) (by decide) (j:=j)
 have d2:=fun j=>h.row.cell (i:=2) (by decide) (j:=j)
 have fl:=(h.dd 0 (by decide)).o.fl;rw[hF.out]at fl;refine⟨(D 0).po,(D 0).co,?_,?_,fl,?_,?_,h.row.lt⟩
 ·refine(d0 5 (by decide)).trans ?_
  show some (Value.int .i64 (bh1 (Z3.X.H.D 0).tx))=_
  rw[hF.mrk]
 ·refine(d0 9 (by decide)).trans ?_
  show some (Value.slice (D 0).po (macT (Z3.X.H.D 0).tx).out.length (D 0).co)=_
  rw[hF.out]
  rfl
 ·refine(d1 6 (by decide)).trans ?_
  show some (Value.int .i64 (numT (Z3.X.H.D 1).tx))=_
  rw[hF.n1]
 ·refine(d2 6 (by decide)).trans ?_
  show some (Value.int .i64 (numT (Z3.X.H.D 2).tx))=_
  rw[hF.n2]
section
variable {w:World}
theorem b80 {u:World} {f:Ex} {Z Z':Es} {l:List Int} {n N:Nat} {y:Nat->Nat} {arr:Array Value} (h:OF w f prS Z [] u/\Z.X.H.N<=N) (hl:l.length=n) (hn:n<=6) (hN:N<=1000) (hy:∀ i,i<n->yS prS (fun i=>l.getD i 0) i=y i) (ha:(l.map (Value.int .i64)).toArray=arr) (hZ:runZ prS Z y n=Z') :
  Calls Tryz.prog 12 #[.pointer (some ⟨f.b,0,none⟩),.slice (some ⟨u.heap.size,0,none⟩) n n] (u.alloc (.cells arr 3)) fun r w'=>∃ k:Int,r=.returned (.tuple #[.int .i64 k,.int .i64 0])/\Hid (OF w f prS Z' [] w'/\Z'.X.H.N<=N+n):=by
 have:=(h.1.on (below_alloc u (.cells arr 3))).run (c:=n) bj6 (by rw[<- ha];exact bx6 hl) (by omega) (by have:=h.2;omega);rw[aK2 prS Z n hy,hZ]at this;refine this.mono ?_;rintro r w' ⟨k,rfl,q⟩;exact⟨k,rfl,zH ⟨q.out.1,by have:=h.2;have:=q.out.2;omega⟩⟩
theorem aA8 (hT:Shaped5 w):Calls Tryz.prog 16 #[] w fun r w'=>r=.returned (.bool true)/\Bl w w':=by
 obtain⟨Z1,Z2,Z3,hF⟩:=bF6;obtain⟨zz,hzz⟩:∃ zz,Z0 prS=zz:=⟨_,rfl⟩
 have f1:=hF.r1;rw[hzz]at f1;have n0:zz.X.H.N=0:=by rw[<- hzz];rfl
 have HS:=zH (bj1 (w:=w));have HN:Hid (∀ u p,Bl w u->SuAt u prS p->Calls Tryz.prog 10 #[.agg (suC prS p)] u fun r w'=>∃ f,r=.returned (.tuple #[.pointer (some ⟨Ex.b f,0,none⟩),.int .i64 0])/\Hid (OF w f prS zz [] w')):=fun u p hu hp=>by rw[<- hzz];exact bF3 hu hp (hT.on hu) bF7
 have HR1:Hid (∀ u f,OF w f prS zz [] u->Calls Tryz.prog 12 #[.pointer (some ⟨Ex.b f,0,none⟩),.slice (some ⟨u.heap.size,0,none⟩) 6 6] (u.alloc (.cells #[.int .i64 1,.int .i64 1,.int .i64 1,.int .i64 1,.int .i64 1,.int .i64 1] 3)) fun r w'=>∃ k:Int,r=.returned (.tuple #[.int .i64 k,.int .i64 0])/\Hid (OF w f prS Z1 [] w'/\Z1.X.H.N<=0+6)):=fun u f hu=>b80 (l:=[1,1,1,1,1,1]) (y:=fun _=>1) ⟨hu,by omega⟩ rfl (by decide) (by decide) (by decide) rfl f1
 have HR2:Hid (∀ u f k,k<60->OF w f prS (itZ prS pr3 3 Z1 k) [] u/\(itZ prS pr3 3 Z1 k).X.H.N<=6+k*3->Calls Tryz.prog 12 #[.pointer (some ⟨Ex.b f,0,none⟩),.slice (some ⟨u.heap.size,0,none⟩) 3 3] (u.alloc (.cells #[.int .i64 0,.int .i64 2,.int .i64 0] 3)) fun r w'=>∃ i:Int,r=.returned (.tuple #[.int .i64 i,.int .i64 0])/\Hid (OF w f prS (itZ prS pr3 3 Z1 (k+1)) [] w'/\(itZ prS pr3 3 Z1 (k+1)).X.H.N<=6+k*3+3)):=fun u f k hk hu=>b80 (l:=[0,2,0]) (y:=pr3) hu rfl (by decide) (by omega) (by decide) rfl rfl
 have HR3:Hid (∀ u f k,k<60->OF w f prS (itZ prS pr2 2 Z2 k) [] u/\(itZ prS pr2 2 Z2 k).X.H.N<=186+k*2->Calls Tryz.prog 12 #[.pointer (some ⟨Ex.b f,0,none⟩),.slice (some ⟨u.heap.size,0,none⟩) 2 2] (u.alloc (.cells #[.int .i64 1,.int .i64 2] 3)) fun r w'=>∃ i:Int,r=.returned (.tuple #[.int .i64 i,.int .i64 0])/\Hid (OF w f prS (itZ prS pr2 2 Z2 (k+1)) [] w'/\(itZ prS pr2 2 Z2 (k+1)).X.H.N<=186+k*2+2)):=fun u f k hk hu=>b80 (l:=[1,2]) (y:=pr2) hu rfl (by decide) (by omega) (by decide) rfl rfl
 have HD:Hid (∀ u f,OF w f prS Z3 [] u->Calls Tryz.prog 14 #[.pointer (some ⟨Ex.b f,0,none⟩)] u fun r w'=>∃ g,r=.returned (.slice (some ⟨g,0,none⟩) 3 3)/\Hid (OF w f prS Z3 [] w'/\∃ po co,PrD w' g po co)):=fun u f hu=>by
  refine(hu.deeds bj6).mono ?_;rintro r w' ⟨g,rfl,q⟩;obtain⟨D,q1,q2⟩:=q.out;exact⟨g,by rw[hF.dn],hu.on q2,bj5 hF q1⟩
 have HO:Hid (∀ u f,OF w f prS Z3 [] u->Calls Tryz.prog 15 #[.pointer (some ⟨Ex.b f,0,none⟩)] u fun r w'=>r=.returned (.bool true)/\Hid (Bl u w')):=fun u f hu=>by
  refine(hu.over bj6).mono ?_;rintro r w' ⟨rfl,q⟩;exact⟨by rw[hF.ov],q.below _⟩
 have HST:Hid (∀ u f,OF w f prS Z3 [] u->Calls Tryz.prog 43 #[.pointer (some ⟨Ex.b f,0,none⟩)] u fun r w'=>∃ g,r=.returned (.slice (some ⟨g,0,none⟩) 2 2)/\Hid (FlAt w' (some ⟨g,0,none⟩) [4619567317775286272,4619567317775286272]/\Bl u w')):=fun u f hu=>by
  refine(hu.state bj6).mono ?_;rintro r w' ⟨g,rfl,q⟩;have q2:=q.out;rw[hF.st]at q2;exact⟨g,rfl,q2⟩
 have HE:Hid (∀ u po co x,FlAt u po [x,x]->Calls Tryz.prog 42 #[.slice po 2 co,.slice (some ⟨u.heap.size,0,none⟩) 2 2] (u.alloc (.cells #[.float .f64 x,.float .f64 x] 49)) fun r w'=>r=.returned (.bool true)/\Hid (Bl u w')):=fun u po co x h=>by
  refine(bE2 (l:=[x,x]) (n:=2) rfl (by omega) (h.on (below_alloc u _)) (bN4 (zN u _))).mono ?_;rintro r w' ⟨rfl,q⟩;exact⟨rfl,zH ((below_alloc u _).trans (q.below _))⟩
 have f2:=hF.r2;have f3:=hF.r3;have HF2:=zH f2;have HF3:=zH f3;clear f1 f2 f3 n0 hzz hF;clear hT;go_enter Tryz.func16,Tryz.ntmps16
 go_wp2_with (first
  | (go_at_call 12;refine(HR1.out u2 f H2.out).mono ?_;rintro r u3 ⟨kk,rfl,q⟩;have H3:=zH q.out;clear q)
  | (go_at_call 10;refine(HN.out u1 p H1.out.2 H1.out.1).mono ?_;rintro r u2 ⟨f,rfl,q⟩;have H2:=zH q.out;clear q)
  | (go_at_call 41;refine HS.out.mono ?_;rintro r u1 ⟨p,rfl,q⟩;have H1:=zH q.out;clear q))
 go_loopw [3] (fun i u=>∃ k:Nat,k<=60/\i=.int .i64 k/\Hid (OF w f prS (itZ prS pr3 3 Z1 k) [] u/\(itZ prS pr3 3 Z1 k).X.H.N<=6+k*3)) (fun i _=>60 - (intOf i).toNat)
 case atStart=>exact⟨0,zV _,rfl,H3.out⟩
 case round =>
  obtain⟨k,hk,rfl,HK⟩:=hrel
  by_cases hlt:k<60
  ·go_wp2_with (go_at_call 12;refine(HR2.out _ f k hlt HK.out).mono ?_;rintro r u4 ⟨kk,rfl,q⟩;have H4:=zH q.out;clear q)
   go_roundw
   case rel=>exact⟨k+1,by omega,by simp,H4.out.1,by have:=H4.out.2;omega⟩
   case measure=>simp[intOf];omega
  ·obtain rfl:k=60:=by omega
   rw[show ((60:Nat):Int)=60 from rfl];have H4:=zH HK.out;rw[HF2.out]at H4
   go_wp2
   go_loopw [4] (fun i u=>∃ k:Nat,k<=60/\i=.int .i64 k/\Hid (OF w f prS (itZ prS pr2 2 Z2 k) [] u/\(itZ prS pr2 2 Z2 k).X.H.N<=186+k*2)) (fun i _=>60 - (intOf i).toNat)
   case atStart=>exact⟨0,zV _,rfl,H4.out⟩
   case round =>
    obtain⟨k,hk,rfl,HK⟩:=hrel
    by_cases hlt:k<60
    ·go_wp2_with (go_at_call 12;refine(HR3.out _ f k hlt HK.out).mono ?_;rintro r u5 ⟨kk,rfl,q⟩;have H5:=zH q.out;clear q)
     go_roundw
     case rel=>exact⟨k+1,by omega,by simp,H5.out.1,by have:=H5.out.2;omega⟩
     case measure=>simp[intOf];omega
    ·obtain rfl:k=60:=by omega
     rw[show ((60:Nat):Int)=60 from rfl];have H5:=zH HK.out;rw[HF3.out]at H5
     go_upto_region 14 with(go_at_call 14;refine(HD.out wr f H5.out.1).mono ?_;rintro r u6 ⟨g,rfl,q⟩;have H6:=zH q.out;clear q)
     clear HS HN HR1 HR2 HR3 HD HK H5 H4 H3 H2 H1
     go_wp2_with (first
      | (go_at_call 42;refine(HE.out u9 _ _ _ HL9.out).mono ?_;rintro r u10 ⟨rfl,q⟩;have HB:=zH (a20 H9.out.1 q.out);obtain⟨a5,a9,fl,b6,c6,lg⟩:=HP9.out.on q.out;clear q fl)
      | (go_at_call 42;refine(HE.out u8 _ _ _ H8.out).mono ?_;rintro r u9 ⟨rfl,q⟩;obtain⟨po,co,d⟩:=HP8.out.2;have HP9:=zH (d.on q.out);have HL9:=zH HP9.out.fl;have H9:=zH (HP8.out.1.on q.out);obtain⟨a9,lg⟩:=And.intro HP9.out.a9 HP9.out.lg;clear q d)
      | (go_at_call 43;refine(HST.out u7 f H7.out.1).mono ?_;rintro r u8 ⟨gs,rfl,q⟩;have H8:=zH q.out.1;have HP8:Hid (OF w f prS Z3 [] u8/\∃ po co,PrD u8 g po co):=⟨H7.out.1.on q.out.2,by obtain⟨po,co,d⟩:=H7.out.2;exact⟨po,co,d.on q.out.2⟩⟩;clear q)
      | (go_at_call 15;refine(HO.out u6 f H6.out.1).mono ?_;rintro r u7 ⟨rfl,q⟩;have H7:Hid (OF w f prS Z3 [] u7/\∃ po co,PrD u7 g po co):=⟨H6.out.1.on q.out,by obtain⟨po,co,d⟩:=H6.out.2;exact⟨po,co,d.on q.out⟩⟩;clear q))
     go_ret;exact⟨rfl,HB.out⟩
end
section
variable {W w:World} {s:Su} {p:Sp}
theorem bw9 (b:Bl W w) (hp:SuAt w s p) (hT:Shaped5 w) (he:errS s=0):Calls Tryz.prog 10 #[.agg (suC s p)] w fun r w'=>∃ f,r=.returned (.tuple #[.pointer (some ⟨Ex.b f,0,none⟩),.int .i64 0])/\Hid (OF W f s (Z0 s) [] w'/\Bl w w'):=by
 refine(bq8 hp hT he).mono ?_;rintro r w' ⟨f,v,rfl,k⟩;obtain⟨k1,k2,k3⟩:=k.out;have l:=b.size;exact⟨f,rfl,zH ⟨⟨a20 b k3,v,k1,⟨fun k hk=>zQ l (k2.own k hk),fun k hk=>(k2.ro k hk).imp id (zQ l)⟩,fun g hg=>by cases hg⟩,k3⟩⟩
theorem as5 (b:Bl W w) (h:SuAt W s p) (hT:Shaped5 W) (he:errS s=0):Calls Tryz.prog 17 #[.agg (suC s p)] w fun r w'=>∃ f,r=.returned (.tuple #[.pointer (some ⟨Ex.b f,0,none⟩),.bool true])/\Hid (OF W f s (Z0 s) [] w'):=by
 obtain⟨W0,hW0⟩:∃ W0,W0=w.alloc (suO s p):=⟨_,rfl⟩
 obtain⟨k0,k1⟩:=ay3 w s p;rw[<- hW0]at k0 k1;have b0:=a20 b k0;have HN:=zH (bw9 (p:=p) b0 (h.on b0) (hT.on b0) he);have HW:Hid (∀ u,SuAt u s p->Calls Tryz.prog 11 #[.agg (suC s p)] u fun r w'=>r=.returned (.int .i64 0)/\Bl u w'):=zH (fun u hu=>by rw[<- he];exact aL2 hu);have HS:=zH h;have HX:Hid (∀ u,Bl W0 u->u.heap[w.heap.size]?=some (suO s p)):=zH fun u hu=>(hu.block _ (lt_of_block k1)).trans k1
 obtain⟨x0,x1,x2,x3,x4,x5,x6,x7⟩:=a75 k1;clear h hT he b b0 k0 k1;go_enter Tryz.func17,Tryz.ntmps17
 go_upto_region 1 with fail
 rw[show w.alloc (.cells (suC s p) 28)=W0 from hW0.symm];clear hW0
 go_wp2_with (first
  | (go_at_call 10;refine HN.out.mono ?_;rintro r u1 ⟨f,rfl,q⟩;have H1:=zH q.out;clear q x0 x1 x2 x3 x4 x5 x6 x7;obtain⟨x0,x1,x2,x3,x4,x5,x6,x7⟩:=a75 (HX.out u1 H1.out.2))
  | (go_at_call 11;refine(HW.out u1 (HS.out.on H1.out.1.1)).mono ?_;rintro r u2 ⟨rfl,q⟩;have H2:=zH (H1.out.1.on q);clear q))
 go_ret2;exact⟨f,rfl,H2⟩
theorem b02 (b:Bl W w) (h:SuAt W s p) (he:errS s≠0):Calls Tryz.prog 17 #[.agg (suC s p)] w fun r w'=>r=.returned (.tuple #[.pointer none,.bool true])/\Bl W w':=by
 obtain⟨e,hz⟩:∃ e,errS s=e:=⟨_,rfl⟩
 have hne:(e == 0)=false:=by rw[<- hz];simpa using he
 obtain⟨W0,hW0⟩:∃ W0,W0=w.alloc (suO s p):=⟨_,rfl⟩
 obtain⟨k0,k1⟩:=ay3 w s p;rw[<- hW0]at k0 k1;have b0:=a20 b k0;have HN:Hid (Calls Tryz.prog 10 #[.agg (suC s p)] W0 fun r w'=>r=.returned (.tuple #[.pointer none,.int .i64 e])/\Bl W0 w'):=zH (by rw[<- hz];exact bw5 (h.on b0) he);have HW:Hid (∀ u,SuAt u s p->Calls Tryz.prog 11 #[.agg (suC s p)] u fun r w'=>r=.returned (.int .i64 e)/\Bl u w'):=zH (fun u hu=>by rw[<- hz];exact aL2 hu);have HS:=zH h;have HB:=zH b0;have HX:Hid (∀ u,Bl W0 u->u.heap[w.heap.size]?=some (suO s p)):=zH fun u hu=>(hu.block _ (lt_of_block k1)).trans k1
 obtain⟨x0,x1,x2,x3,x4,x5,x6,x7⟩:=a75 k1;clear h he b b0 hz k0 k1;go_enter Tryz.func17,Tryz.ntmps17
 go_upto_region 1 with fail
 rw[show w.alloc (.cells (suC s p) 28)=W0 from hW0.symm];clear hW0
 go_wp2_with (first
  | (go_at_call 10;refine HN.out.mono ?_;rintro r u1 ⟨rfl,q⟩;have H1:=zH (a20 HB.out q);clear x0 x1 x2 x3 x4 x5 x6 x7;obtain⟨x0,x1,x2,x3,x4,x5,x6,x7⟩:=a75 (HX.out u1 q);clear q)
  | (go_at_call 11;refine(HW.out u1 (HS.out.on H1.out)).mono ?_;rintro r u2 ⟨rfl,q⟩;have H2:=zH (a20 H1.out q);clear q))
 go_ret2;exact⟨rfl,H2.out⟩
end
end Go.Proofs.YtipakfjpfjehmaaGreatDoor.En
namespace Go.Proofs.YtipakfjpfjehmaaGreatDoor.En
open Go.ChangeShapes Go.WideShapes Go.ChangeAt Go.RowKit Num Ww
open Rr (Rx a19 InX okW u64B Alike step_in newX a43)
def Rd1 (s:List Nat) (m:Mac):Prop:=m.buf=[]->∀ t∈m.reads,t.2=fixB (Sx.getV s t.1)
theorem bk0 (l:Wr) (c:Int) (x:Nat):putC l c x≠[]:=by
 intro h;have:=congrArg List.length h;have e:a05 (putC l c x)=[]:=by rw[h];rfl
 rw[ab0]at e
 split at e
 ·next q=>rw[show l=[] from by simpa[a05]using e]at q;simp[hasC,aw7]at q
 ·simp at e
theorem bg0 (c:Int):hasC [] c=false:=by simp[hasC,aw7]
theorem bG1:∀ f∈doT,∀ (m:Mac) (i:Ins),(f m i).1.buf=[]->m.buf=[]/\(f m i).1.reads=m.reads:=by
 intro f hf m i;simp only[doT,List.mem_cons,List.not_mem_nil,or_false]at hf
 rcases hf with rfl | rfl | rfl | rfl | rfl | rfl | rfl | rfl | rfl | rfl | rfl | rfl | rfl | rfl | rfl | rfl | rfl | rfl | rfl | rfl | rfl
 case _=>exact fun h=>⟨h,rfl⟩
 case _=>exact fun h=>⟨h,rfl⟩
 case _=>exact fun h=>⟨h,rfl⟩
 case _=>exact fun h=>⟨h,rfl⟩
 case _=>exact fun h=>⟨h,rfl⟩
 case _=>exact fun h=>⟨h,rfl⟩
 case _=>exact fun h=>⟨h,rfl⟩
 case _=>exact fun h=>⟨h,rfl⟩
 case _=>exact fun h=>⟨h,rfl⟩
 case _=>exact fun h=>⟨h,rfl⟩
 case _=>exact fun h=>⟨h,rfl⟩
 case _=>exact fun h=>⟨h,rfl⟩
 case _=>exact fun h=>⟨h,rfl⟩
 case _=>exact fun h=>⟨h,rfl⟩
 case _=>exact fun h=>⟨h,rfl⟩
 case _ =>
  show (retM m).1.buf=[]->m.buf=[]/\(retM m).1.reads=m.reads
  unfold retM
  split <;> exact fun h=>⟨h,rfl⟩
 case _ =>
  show (af3 m).1.buf=[]->m.buf=[]/\(af3 m).1.reads=m.reads
  unfold af3
  split
  ·split
   ·next q =>
    intro h;have h:m.buf=[]:=h;rw[h,bg0]at q
    cases q
   ·exact fun h=>⟨h,rfl⟩
  ·exact fun h=>⟨h,rfl⟩
 case _ =>
  show (a86 m).1.buf=[]->m.buf=[]/\(a86 m).1.reads=m.reads
  unfold a86
  split
  ·split
   ·split
    ·exact fun h=>absurd h (bk0 _ _ _)
    ·exact fun h=>⟨h,rfl⟩
   ·exact fun h=>⟨h,rfl⟩
  ·exact fun h=>⟨h,rfl⟩
 case _=>exact fun h=>⟨h,rfl⟩
 case _=>exact fun h=>⟨h,rfl⟩
 case _=>exact fun h=>⟨h,rfl⟩
theorem bk1 (m:Mac):(a07 m).1.buf=[]->m.buf=[]/\(a07 m).1.reads=m.reads:=by
 unfold a07
 split
 ·exact fun h=>⟨h,rfl⟩
 ·split
  ·split
   ·split
    ·split
     ·show (doM (begM m) (insM m)).1.buf=[]->_/\(doM (begM m) (insM m)).1.reads=_
      unfold doM;rw[zG]
      cases e:doT[(insM m).op.toNat]? with
      | none=>exact fun h=>⟨h,rfl⟩
      | some f=>exact fun h=>bG1 f (List.mem_of_getElem? e) (begM m) (insM m) h
     ·exact fun h=>⟨h,rfl⟩
    ·exact fun h=>⟨h,rfl⟩
   ·exact fun h=>⟨h,rfl⟩
  ·exact fun h=>⟨h,rfl⟩
theorem Rd1.step {s:List Nat} {m:Mac} (h:Rd1 s m):Rd1 s (a07 m).1:=fun e t ht=>by
 obtain⟨h1,h2⟩:=bk1 m e;rw[h2]at ht;exact h h1 t ht
theorem Rd1.run {s:List Nat} (hs:okS s):∀ (k:Nat) {m:Mac},Rest m->Rd1 s m->Rd1 s (runN s k m)
 | 0,_,_,h=>h
 | k+1,m,hr,h=>by
  by_cases h0:m.how=0
  ·rw[b97]
   refine Rd1.run hs k (m:=goM s m) (hr.go hs) ?_
   by_cases k1:(a07 m).2.kind=1
   ·rw[at3 k1]
    have tw:=a77 hr.inv hr.nw h0
    rcases tw.2 with⟨k4,_⟩ | ⟨_,e1,e2,_,_⟩ | ⟨k0,_⟩
    ·omega
    ·unfold a65
     rw[if_pos e2];intro hb t ht;unfold aw4 at ht
     rcases List.mem_append.1 ht with q | q
     ·exact h.step hb t q
     ·have q':t=((a07 m).1.wait,fixB (Sx.getV s (a07 m).2.cell)):=by simpa using q
      rw[q'];dsimp only;rw[e1]
    ·omega
   ·rw[ag4 k1]
    exact h.step
  ·rw[aK1 hr.nw h0]
   exact h
def Fre (m:Mac):Prop:=Rest m/\m.reads=[]
def FrT:Ty->Prop
 | .inl (m,_)=>Fre m/\m.upd=false
 | .inr (m,_)=>Fre m
structure FG (s:Su) (X:Rs):Prop where
 T:∀ t y,t<s.n->X.H.E.T t=some y->FrT y
 D:∀ i,i<X.H.dn->FrT (X.H.D i).tx
theorem bE7 {y:Ty} {ws:List Int} (g:FrT y):FrT (goS y ws):=by
 rcases y with⟨m,x⟩ | ⟨m,x⟩ <;> exact g
theorem bE8 {s:Su} (h:SuIn s) {t j:Nat} (hj:j<(s.cs t).length):FrT (newT s t (s.call t j)):=by
 obtain⟨h1,h2,_⟩:=h.args hj;unfold newT
 split
 ·exact⟨aE1 h.cfg (h.prog _) h1,rfl⟩
 ·next q=>exact⟨⟨aE1 h.cfg (h.prog _) h1,rfl⟩,zU q⟩
section
variable {s:Su} {Z:Es} {t:Nat}
theorem FG.came {X':Rs} {y:Ty} {T:Nat->Tx} {B at_:Nat->Nat} {D:Nat->Dd} {dn i:Nat} (c:Came Z.X X' t y T B at_ D dn i) (hT:∀ u y',u≠t->u<s.n->T u=some y'->FrT y') (hD:∀ k,k≠i->k<dn->FrT (D k).tx) (hy:FrT (goS y Z.X.H.E.ws)):FG s X':=by
 refine⟨fun u y' hu q=>?_,fun k hk=>?_⟩
 ·rw[c.T]at q
  by_cases e:u=t
  ·subst e
   rw[a08]at q
   split at q
   ·cases q
   ·cases q
    exact hy
  ·rw[a24 _ _ e]at q
   exact hT u y' e hu q
 ·rw[c.dn]at hk
  rw[c.D]
  by_cases e:k=i
  ·subst e
   rw[a18];exact hy
  ·rw[a40 _ _ e]
   exact hD k e hk
theorem FG.one (hs:SuIn s) (wi:WI s Z.X) (g:FG s Z.X) (ht:t<s.n):FG s (oneZ s Z t).X:=by
 unfold oneZ
 cases hf:finB Z.X.H.E t with
 | true=>exact g
 | false =>
  show FG s (stepR Z.X t)
  have hf:=zM hf
  cases hT:Z.X.H.E.T t with
  | none =>
   have hl:=wi.less ht hf hT;refine FG.came (am3 wi hT rfl) (fun u y' c hu q=>?_) (fun k c hk=>?_) (bE7 (bE8 hs hl))
   ·rw[a24 _ _ c]at q
    exact g.T u y' hu q
   ·rw[a40 _ _ c]
    exact g.D k (by omega)
  | some y=>exact FG.came (aj1 hT) (fun u y' _ hu q=>g.T u y' hu q) (fun k _ hk=>g.D k hk) (bE7 (g.T t y ht hT))
theorem fg0 (s:Su):FG s (X0 s):=⟨fun t y _ h=>(by cases h),fun i hi=>absurd hi (zI _)⟩
theorem FG.run (hs:SuIn s) (wi:WI s Z.X) (g:FG s Z.X) {y:Nat->Nat}:∀ k,(∀ i,i<k->y i<s.n)->FG s (runZ s Z y k).X
 | 0,_=>g
 | k+1,hy=>FG.one hs (al7 hs wi k (fun i hi=>hy i (by omega))).1 (FG.run hs wi g k (fun i hi=>hy i (by omega))) (hy k (by omega))
theorem b88 (wi:WI s Z.X) (ha:HAE Z.X.H) (fg:FG s Z.X) {i:Nat} (hi:i<Z.X.H.dn):(∃ S,Rd1 S (macT (Z.X.H.D i).tx))/\(isU (Z.X.H.D i).tx=false->(macT (Z.X.H.D i).tx).buf=[]):=by
 obtain⟨S,k,pt,ld,h⟩:=ha;have hf:=fg.D i hi;have so:=h.hi.ei.gi.so;have hk:=h.hi.com;have hD:=wi.D i hi
 cases e:(Z.X.H.D i).tx with
 | inr y =>
  obtain⟨m,x⟩:=y;rw[e]at hf;obtain⟨j,hj⟩:=h.hi.explW hi e;have hle:cu (fun j=>comU (Z.X.H.D j).tx) i<=k:=by rw[hk];exact av0 (by omega)
  refine⟨⟨S (cu (fun j=>comU (Z.X.H.D j).tx) i),?_⟩,fun q=>by cases q⟩
  show Rd1 _ x.m
  rw[hj];exact Rd1.run (so _ hle).2 j hf.1 (fun _ t ht=>by rw[hf.2]at ht;cases ht)
 | inl y =>
  obtain⟨m,x⟩:=y;rw[e]at hf;obtain⟨hf,hu⟩:=hf;have f0:∀ S,Rd1 S m:=fun S _ t ht=>by rw[hf.2]at ht;cases ht
  have hI:=hD.2.1;rw[e]at hI
  suffices z:∃ S,Rd1 S x.m/\x.m.upd=false from by
   obtain⟨S,z1,z2⟩:=z;exact⟨⟨S,z1⟩,fun _=>hI.1.inv.none z2⟩
  by_cases h0:(Z.X.H.D i).en=0
  ·obtain⟨u1,u2,_⟩:=h.hi.un i hi h0
   rw[e]at u2;have R:=h.hi.ei.gi.rd _ m x u1 u2
   by_cases p1:x.part=1
   ·rw[R.m1 p1]
    exact⟨[],f0 _,hu⟩
   ·obtain⟨n,_,_,q3,_,q5⟩:=R.st p1
    refine⟨S n,?_⟩
    by_cases hc:x.cell<0
    ·obtain⟨j,hj⟩:=q5.mn p1 hc
     rw[hj];exact⟨Rd1.run (so n q3).2 j hf.1 (f0 _),(at9 (so n q3).2 j hf.1).upd.trans hu⟩
    ·obtain⟨j,hj,hkd,_⟩:=q5.mr (by omega)
     have hr:=hf.1.run (so n q3).2 j;have h1:=(at9 (so n q3).2 j hf.1).upd.trans hu;rw[hj];refine⟨(Rd1.run (so n q3).2 j hf.1 (f0 _)).step,?_⟩
     by_cases h0:(runN (S n) j m).how=0
     ·exact(a77 hr.inv hr.nw h0).1.upd.trans h1
     ·rw[aK6 hr.nw h0]
      exact h1
  ·have p4:x.part=4:=by
    have:=hD.2.2.2.2.2.2.2 h0;rw[e]at this;exact zP this
   obtain⟨n,_,q3,_,_,_,_,_,q⟩:=h.hi.rd i m x hi e (by omega);obtain⟨j,hj⟩:=q h0;rw[hj];exact⟨S n,Rd1.run (so n q3).2 j hf.1 (f0 _),(at9 (so n q3).2 j hf.1).upd.trans hu⟩
theorem aW9 (hs:SuIn s) {y:Nat->Nat} (n:Nat) (hy:∀ i,i<n->y i<s.n) {i:Nat} (hi:i<(runZ s (Z0 s) y n).X.H.dn) (hb:¬ (tagT ((runZ s (Z0 s) y n).X.H.D i).tx=2/\(macT ((runZ s (Z0 s) y n).X.H.D i).tx).buf≠[])) {a b:Int × Nat} (h1:a∈(macT ((runZ s (Z0 s) y n).X.H.D i).tx).reads) (h2:b∈(macT ((runZ s (Z0 s) y n).X.H.D i).tx).reads) (e:a.1=b.1):a.2=b.2:=by
 have w0:=WI0 hs;obtain⟨⟨S,h⟩,hr⟩:=b88 (al7 (Z:=Z0 s) hs w0 n hy).1 (br4 (Z:=Z0 s) hs w0 ⟨_,_,_,_,HA0 hs⟩ n hy) (FG.run (Z:=Z0 s) hs w0 (fg0 s) n hy) hi;have g:=(TG.run (Z:=Z0 s) hs w0 (tg0 s) n hy).D i hi;have hz:(macT ((runZ s (Z0 s) y n).X.H.D i).tx).buf=[]:=by
  cases q:isU ((runZ s (Z0 s) y n).X.H.D i).tx with
  | false=>exact hr q
  | true =>
   refine Classical.byContradiction fun z=>hb ⟨?_,z⟩
   revert g q
   cases (runZ s (Z0 s) y n).X.H.D i |>.tx with
   | inl y=>exact fun _ q=>by cases q
   | inr y=>exact fun g _=>g
 rw[h hz a h1,h hz b h2,e]
end
end Go.Proofs.YtipakfjpfjehmaaGreatDoor.En
namespace Go.Proofs.YtipakfjpfjehmaaGreatDoor.En
open Go.ChangeShapes Go.WideShapes Go.ChangeAt Go.RowKit Num Ww
structure RpC (cs:Array Value) (tg:Int) (nr nb:Nat) (pr pw:Option Addr) (cr cw:Nat):Prop where
 size:cs.size=19
 one:cs.all (·.oneCell')=true
 c3:cs[3]?=some (.int .i64 tg)
 c7:cs[7]?=some (.slice pr nr cr)
 c8:cs[8]?=some (.slice pw nb cw)
theorem bl9 {w:World} {x:Nat} {cs:Array Value} {T:TypeId} {tg:Int} {nr nb cr cw:Nat} {pr pw:Option Addr} (hd:RpC cs tg nr nb pr pw cr cw) (h:w.heap[x]?=some (.cells cs T (0,0))) :
  w.cell? ⟨x,3,none⟩=some (.int .i64 tg)/\w.cell? ⟨x,7,none⟩=some (.slice pr nr cr)/\w.cell? ⟨x,8,none⟩=some (.slice pw nb cw)/\x<w.heap.size :=
 ⟨by rw[zR w x 3 _ _ _ h];exact hd.c3,by rw[zR w x 7 _ _ _ h];exact hd.c7,by rw[zR w x 8 _ _ _ h];exact hd.c8,lt_of_block h⟩
def RpD (w:World) (g N:Nat):Prop:=∀ u,Bl w u->∀ k,k<N->∃ cs tg rl nb pr pw cr cw,RpC cs tg rl.length nb pr pw cr cw/\(∀ j,j<19->u.cell? ⟨g,k*19+j,none⟩=cs[j]?)/\TRow u pr cr rl/\rl.length<=cr/\cr<=maxLen/\(¬ (tg=2/\0<nb)->∀ a∈rl,∀ b∈rl,a.1=b.1->a.2=b.2)
theorem b93 {w:World} {p:Option Addr} {c:Nat} {l:Wr} (h:TRow w p c l):l.length<=c/\c<=maxLen:=by
 rcases h.own.2 with⟨e,z⟩ | ⟨g,cap,cur,e,_,_,h1,h2,_⟩
 ·injection e with e1 e2 e3
  exact⟨by omega,by rw[e3];decide⟩
 ·injection e with e1 e2 e3
  exact⟨by omega,by omega⟩
theorem bm0 {w:World} {B g:Nat} {s:Su} {Z:Es} {D:Nat->Rr.Dd} (h:DdsAt w B g Z.X.H.dn Z.X.H.dn s Z D) (hr:∀ i,i<Z.X.H.dn->¬ (tagT (Z.X.H.D i).tx=2/\(macT (Z.X.H.D i).tx).buf≠[])->∀ a,a∈(macT (Z.X.H.D i).tx).reads->∀ b,b∈(macT (Z.X.H.D i).tx).reads->a.1=b.1->a.2=b.2):RpD w g Z.X.H.dn:=fun u hu k hk=>by
 have h:=h.on hu;refine⟨as1 s Z k (D k) (Z.X.R:Int),_,(macT (Z.X.H.D k).tx).reads,_,_,_,_,_,⟨rfl,ac0 ..,rfl,rfl,rfl⟩,fun j hj=>h.row.cell hk hj,(h.dd k hk).r,?_,?_,fun q a h1 b h2=>hr k hk (fun z=>q ⟨z.1,List.length_pos_iff.2 z.2⟩) a h1 b h2⟩
 ·exact(b93 (h.dd k hk).r).1
 ·exact(b93 (h.dd k hk).r).2
section
variable {W:World} {s:Su} {p:Sp}
theorem b91 (hT:Shaped5 W) (h:SuAt W s p) (q:Option Addr) (n c:Nat) (hn:errS s=0->4000<n):Calls Tryz.prog 4 #[.agg (suC s p),.slice q n c] W fun r w'=>r=.returned (.bool true)/\Bl W w':=by
 obtain⟨W0,hW0⟩:∃ W0,W0=W.alloc (suO s p):=⟨_,rfl⟩
 have HX:=zH (bF8 h hT hW0).1;obtain⟨b0,_⟩:=ay3 W s p;rw[<- hW0]at b0;have HB:Hid (∀ u,Bl W0 u->Calls Tryz.prog 17 #[.agg (suC s p)] u fun r w'=>∃ b:Option Addr,r=.returned (.tuple #[.pointer b,.bool true])/\(b=none∨((∃ g:Nat,b=some ⟨g,0,none⟩)/\(4000:Int)<(n:Int)))/\Bl W w'):=zH (fun u hu=>by
  have b:=a20 b0 hu
  by_cases z:errS s=0
  ·exact(as5 b h hT z).mono fun r w' ⟨f,k,l⟩=>⟨_,k,.inr ⟨⟨_,rfl⟩,by have:=hn z;omega⟩,l.out.1⟩
  ·exact(b02 b h z).mono fun r w' ⟨k,l⟩=>⟨_,k,.inl rfl,l⟩)
 have HL:Hid (Calls Tryz.prog 16 #[] W0 fun r w'=>r=.returned (.bool true)/\Bl W0 w'):=zH (aA8 (hT.on b0));clear h hT hn b0;go_enter Tryz.func4,Tryz.ntmps4
 go_upto_region 1 with fail
 rw[show W.alloc (.cells (suC s p) 28)=W0 from hW0.symm];clear hW0
 go_upto_region 3 with(first
  | (go_at_call 16;refine HL.out.mono ?_;rintro r u1 ⟨rfl,hb⟩;have H1:=zH hb;clear hb;obtain⟨x0,x1,x2,x3,x4,x5,x6,x7⟩:=a75 (HX.out u1 H1.out).1)
  | (go_at_call 17;refine(HB.out u1 H1.out).mono ?_;rintro r u2 ⟨b,rfl,hp,hb⟩;have H2:=zH hb;clear hb x0 x1 x2 x3 x4 x5 x6 x7))
 rcases hp with rfl | ⟨⟨g,rfl⟩,z1⟩
 all_goals
  go_wp2_with fail;go_ret;exact⟨rfl,H2.out⟩
attribute [local go_sem] a00 bits_run
theorem bG2 (hT:Shaped5 W) (h:SuAt W s p) (he:errS s=0) {q:Option Addr} {n c:Nat} {x:Nat->Int} (hx:Sd.IntsAt W q n x) (hn:n<=4000):Calls Tryz.prog 4 #[.agg (suC s p),.slice q n c] W fun r w'=>r=.returned (.bool true)/\Bl W w':=by
 obtain⟨W0,hW0⟩:∃ W0,W0=W.alloc (suO s p):=⟨_,rfl⟩
 have HX:=zH (bF8 h hT hW0).1;obtain⟨b0,_⟩:=ay3 W s p;rw[<- hW0]at b0;have hs:=suIn h.ok he;have HB:Hid (∀ u,Bl W0 u->Calls Tryz.prog 17 #[.agg (suC s p)] u fun r w'=>∃ f,r=.returned (.tuple #[.pointer (some ⟨Ex.b f,0,none⟩),.bool true])/\Hid (OF W f s (Z0 s) [] w')):=zH (fun u hu=>as5 (a20 b0 hu) h hT he);have HL:Hid (Calls Tryz.prog 16 #[] W0 fun r w'=>r=.returned (.bool true)/\Bl W0 w'):=zH (aA8 (hT.on b0));have hni:(n:Int)<=4000:=by omega
 obtain⟨Z,hZ⟩:∃ Z,runZ s (Z0 s) (yS s x) n=Z:=⟨_,rfl⟩
 have HR:Hid (∀ u f,OF W f s (Z0 s) [] u->Calls Tryz.prog 12 #[.pointer (some ⟨Ex.b f,0,none⟩),.slice q n c] u fun r w'=>∃ k:Int,r=.returned (.tuple #[.int .i64 k,.int .i64 0])/\Hid (OF W f s Z [] w')):=zH (fun u f hu=>by
  refine(hu.run hs (bv2 hx hu.1 (zE _)) (by omega) (zV _)).mono ?_;rintro r w' ⟨k,rfl,q⟩;rw[hZ]at q;exact⟨k,rfl,zH q.out.1⟩)
 have hsm:∀ i,i<Z.X.H.dn->¬ (tagT (Z.X.H.D i).tx=2/\(macT (Z.X.H.D i).tx).buf≠[])->∀ a,a∈(macT (Z.X.H.D i).tx).reads->∀ b,b∈(macT (Z.X.H.D i).tx).reads->a.1=b.1->a.2=b.2:=by
  rw[<- hZ];exact fun i hi hb a h1 b h2=>aW9 hs (y:=yS s x) n (fun i _=>(bB8 hs x i).2) hi hb (a:=a) (b:=b) h1 h2
 have HD:Hid (∀ u f,OF W f s Z [] u->Calls Tryz.prog 14 #[.pointer (some ⟨Ex.b f,0,none⟩)] u fun r w'=>∃ g,r=.returned (.slice (some ⟨g,0,none⟩) Z.X.H.dn Z.X.H.dn)/\Hid (Bl W w'/\RpD w' g Z.X.H.dn)):=zH (fun u f hu=>by
  refine(hu.deeds hs).mono ?_;rintro r w' ⟨g,rfl,q⟩;obtain⟨D,q1,q2⟩:=q.out;exact⟨g,rfl,zH ⟨a20 hu.1 q2,bm0 q1 hsm⟩⟩)
 obtain⟨dn,hdn⟩:∃ dn,Z.X.H.dn=dn:=⟨_,rfl⟩
 rw[hdn]at HD;have HF:Hid (∀ u f,OF W f s Z [] u->(dn:Int)<=512):=zH (fun u f hu=>by
  obtain⟨_,v,e,_⟩:=hu;have:=e.wi.few hs;omega)
 clear h hT he hn hs hx b0 hZ hdn hsm;go_enter Tryz.func4,Tryz.ntmps4
 go_upto_region 1 with fail
 rw[show W.alloc (.cells (suC s p) 28)=W0 from hW0.symm];clear hW0
 go_wp2_with (first
  | (go_at_call 16;refine HL.out.mono ?_;rintro r u1 ⟨rfl,hb⟩;have H1:=zH hb;clear hb;obtain⟨x0,x1,x2,x3,x4,x5,x6,x7⟩:=a75 (HX.out u1 H1.out).1)
  | (go_at_call 17;refine(HB.out u1 H1.out).mono ?_;rintro r u2 ⟨f,rfl,hb⟩;have H2:=hb;clear hb x0 x1 x2 x3 x4 x5 x6 x7)
  | (go_at_call 12;refine(HR.out u2 f H2.out).mono ?_;rintro r u3 ⟨kk,rfl,hb⟩;have H3:=hb;clear hb;have hdi:=HF.out u3 f H3.out)
  | (go_at_call 14;refine(HD.out u3 f H3.out).mono ?_;rintro r u4 ⟨g,rfl,hb⟩;have H4:=zH hb.out.1;have H5:=zH hb.out.2;clear hb))
 clear HX HB HL HR HD HF H1 H2 H3
 go_loopw [37] (fun i wr=>∃ k:Nat,k<=dn/\i=.int .i64 k/\Bl u4 wr) (fun i _=>dn - (intOf i).toNat)
 case atStart=>exact⟨0,zV _,rfl,zF _ _⟩
 case round =>
  obtain⟨k,hk,rfl,hB⟩:=hrel
  by_cases hlt:k<dn
  ·obtain⟨cs,tg,rl,nb,pr,pw,cr,cw,hc,hcell,hrow,hcap,hmax,hsame⟩:=H5.out wr hB k hlt
   obtain⟨q3,q7,q8,qlt⟩:=bl9 hc (zN wr (.cells cs 48));have HBn:=zH (a20 hB ((zF _ wr).alloc (zE _) (.cells cs 48)));have HC1:∀ j,j<cs.size->wr.cell? ⟨g,k*19+j,none⟩=cs[j]?:=fun j hj=>hcell j (by rw[hc.size]at hj;exact hj)
   have HI1:(Tryz.prog.info? 48).map (·.size)=some cs.size:=by rw[hc.size];exact Bo.deedInfo
   have HS1:Hid (19=cs.size):=zH hc.size.symm;have HO1:=hc.one;have HRW:=zH (hrow.on ((zF _ wr).alloc (zE _) (.cells cs 48)));have HSM:=zH hsame;have HQ7:Hid (∀ u,Below (wr.alloc (.cells cs 48)).heap.size (wr.alloc (.cells cs 48)) u->u.cell? ⟨wr.heap.size,7,none⟩=some (.slice pr rl.length cr)):=zH fun u hu=>(hu.cell (p:=⟨wr.heap.size,7,none⟩) qlt).trans q7
   have hri:(rl.length:Int)<=(cr:Int):=by omega
   have hci:(cr:Int)<=9223372036854775807:=by unfold maxLen at hmax;omega
   clear hcell hc hrow hsame hcap hmax
   rcases(show (tg=2/\(0:Int)<(nb:Int))∨((tg=2/\¬ (0:Int)<(nb:Int))∨¬ tg=2) from by omega) with⟨h2,h3⟩ | h4
   ·rw[h2]at q3
    go_wp2_with (first
     | (refine ae4 rfl 48 _ rfl g (k*19) rfl cs _ HC1 Tryz.underlying48 rfl HI1 ?_;clear HC1;simp only[Act.put,zA,zB,zC])
     | (refine wpList_store_row rfl 48 _ _ rfl wr.heap.size cs rfl rfl _ _ (zN _ _) HI1 HS1.out HO1 ?_;clear HS1 HI1 HO1;rw[World.setRow_alloc_new];simp only[Act.put];refine Hid.out ?_))
    refine zH ?_
    go_wp2
    go_roundw
    case rel=>exact⟨k+1,by omega,by simp,HBn.out⟩
    case measure=>simp[intOf];omega
   have HS2:=zH (HSM.out (by omega))
   rcases h4 with⟨h2,h3⟩ | h2
   all_goals try rw[h2]at q3
   all_goals
    go_wp2_with (first
     | (refine ae4 rfl 48 _ rfl g (k*19) rfl cs _ HC1 Tryz.underlying48 rfl HI1 ?_;clear HC1;simp only[Act.put,zA,zB,zC])
     | (refine wpList_store_row rfl 48 _ _ rfl wr.heap.size cs rfl rfl _ _ (zN _ _) HI1 HS1.out HO1 ?_;clear HS1 HI1 HO1;rw[World.setRow_alloc_new];simp only[Act.put];refine Hid.out ?_))
    refine zH ?_
    go_wp2
    try rw[show decide (0<nb)=false from zU (by omega)]
    go_loopw [53] (fun i w1=>∃ m:Nat,m<=rl.length/\i=.int .i64 m/\Below (wr.alloc (.cells cs 48)).heap.size (wr.alloc (.cells cs 48)) w1) (fun i _=>rl.length - (intOf i).toNat)
    case atStart=>exact⟨0,zV _,rfl,zF _ _⟩
    case round =>
     obtain⟨m,hm,rfl,hB1⟩:=hrel;have y7:=HQ7.out _ hB1
     by_cases hl1:m<rl.length
     ·have HW1:=zH (HRW.out.on hB1)
      obtain⟨gr,hpr,l1,c0,c1,_⟩:=HW1.out.at m hl1;subst hpr;obtain⟨ta,hta⟩:∃ ta,rl[m]=ta:=⟨_,rfl⟩
      rw[hta]at c0 c1;have hmc:(m:Int)<=(cr:Int):=by omega
      have hma:rl[m]∈rl:=List.getElem_mem hl1;rw[hta]at hma;have HTA:=zH (fun b hb=>HS2.out ta hma b hb);obtain⟨w2,hw2⟩:∃ w2,w2=wr.alloc (.cells #[.int .i64 ta.1,.float .f64 ta.2] 51):=⟨_,rfl⟩
      have b2:Bl wr w2:=by rw[hw2];exact below_alloc _ _
      have hbx:w2.heap[wr.heap.size]?=some (.cells #[.int .i64 ta.1,.float .f64 ta.2] 51 (0,0)):=by rw[hw2];exact zN _ _
      obtain⟨a0,a1,al⟩:=au6 hbx;have HW2:=zH (HW1.out.on b2);have HB2:=zH (a20 hB1 b2);have z7:=HQ7.out _ HB2.out;have HA:Hid (∀ u,Bl w2 u->u.cell? ⟨wr.heap.size,0,none⟩=some (.int .i64 ta.1)/\u.cell? ⟨wr.heap.size,1,none⟩=some (.float .f64 ta.2)):=zH fun u hu=>⟨(hu.cell (p:=⟨wr.heap.size,0,none⟩) al).trans a0,(hu.cell (p:=⟨wr.heap.size,1,none⟩) al).trans a1⟩
      clear hma hta hbx b2 a0 a1
      go_upto_region 13 with fail
      rw[<- hw2];clear hw2;go_wp2_with fail
      go_loopw [63] (fun i w3=>∃ m2:Nat,m2<=m/\i=.int .i64 m2/\Bl w2 w3) (fun i _=>m - (intOf i).toNat)
      case atStart=>exact⟨0,zV _,rfl,zF _ _⟩
      case round =>
       obtain⟨m2,hm2,rfl,hB2⟩:=hrel
       by_cases hl2:m2<m
       ·obtain⟨_,hpr,l2,d0,d1,_⟩:=(HW2.out.on hB2).at m2 (by omega)
        cases hpr
        obtain⟨tb,htb⟩:∃ tb,rl[m2]'(by omega)=tb:=⟨_,rfl⟩
        rw[htb]at d0 d1;have hmb:rl[m2]'(by omega)∈rl:=List.getElem_mem _;rw[htb]at hmb;have hab:=HTA.out tb hmb;obtain⟨w4,hw4⟩:∃ w4,w4=wr.alloc (.cells #[.int .i64 tb.1,.float .f64 tb.2] 51):=⟨_,rfl⟩
        have b4:Bl wr w4:=by rw[hw4];exact below_alloc _ _
        have hbx:w4.heap[wr.heap.size]?=some (.cells #[.int .i64 tb.1,.float .f64 tb.2] 51 (0,0)):=by rw[hw4];exact zN _ _
        obtain⟨e0,e1,el⟩:=au6 hbx;have HB4:=zH (a20 hB2 b4);obtain⟨f0,f1⟩:=HA.out _ HB4.out;clear hmb htb hbx b4
        go_upto_region 16 with fail
        rw[<- hw4];clear hw4;have HD4:Hid (Bl w2 w4.drew):=zH (HB4.out.trans ((Same.drew w4).below _))
        by_cases hce:ta.1=tb.1
        ·rw[<- hce]at e0
         rw[<- hab hce]at e1;clear hab hce;refine a06 (fun u=>u.cell? ⟨_,0,none⟩=some (.int .i64 ta.1)/\u.cell? ⟨_,1,none⟩=some (.float .f64 ta.2)/\u.cell? ⟨_,0,none⟩=some (.int .i64 ta.1)/\u.cell? ⟨_,1,none⟩=some (.float .f64 ta.2) )  ((0,true)::(1,true)::(2,true)::(3,true)::(4,true)::(5,true)::(6,true)::(7,true)::(9,true)::(10,true)::(8,false)::(11,false)::(12,true)::(13,true)::[])  Md.Cv.follows13 (by kernel_rfl) (fun _ _ _ _ _ h=>h)  ⟨f0,f1,e0,e1⟩ ?_
         (repeat ((first | (refine a02 (v:=?_) rfl (by rfl) (fun wq hSq=>?_) ?_;rotate_left;(focus ((try dsimp only at hSq);go_simp;try with_reducible rfl))) | refine a03 rfl (by rfl) ?_);simp only[Act.put,zA,zB,zC]))
         (refine a04 rfl (by rfl) (fun KK hK=>?_);go_simp)
         refine hK.out _ _ ⟨f0,f1,e0,e1⟩ ?_
         (clear hK KK;try simp only[Act.put,zA,zB,zC])
         (repeat ((first | (refine a02 (v:=?_) rfl (by rfl) (fun wq hSq=>?_) ?_;rotate_left;(focus ((try dsimp only at hSq);go_simp;try with_reducible rfl))) | refine a03 rfl (by rfl) ?_);simp only[Act.put,zA,zB,zC]))
         (refine a04 rfl (by rfl) (fun KK hK=>?_);go_simp)
         refine hK.out _ _ ⟨f0,f1,e0,e1⟩ ?_
         (clear hK KK;try simp only[Act.put,zA,zB,zC])
         (repeat ((first | (refine a02 (v:=?_) rfl (by rfl) (fun wq hSq=>?_) ?_;rotate_left;(focus ((try dsimp only at hSq);go_simp;try with_reducible rfl))) | refine a03 rfl (by rfl) ?_);simp only[Act.put,zA,zB,zC]))
         refine a13 ?_;go_wp2_with fail
         go_roundw
         case rel=>exact⟨m2+1,by omega,by simp,HD4.out⟩
         case measure=>simp[intOf];omega
        ·have hne:(ta.1 == tb.1)=false:=by simpa using hce
         refine a06 (fun u=>u.cell? ⟨_,0,none⟩=some (.int .i64 ta.1)/\u.cell? ⟨_,1,none⟩=some (.float .f64 ta.2)/\u.cell? ⟨_,0,none⟩=some (.int .i64 tb.1)/\u.cell? ⟨_,1,none⟩=some (.float .f64 tb.2) )  ((0,true)::(1,true)::(2,true)::(3,true)::(4,true)::(5,true)::(6,true)::(7,true)::(9,true)::(10,true)::(8,false)::(11,false)::(12,true)::(13,true)::[])  Md.Cv.follows13 (by kernel_rfl) (fun _ _ _ _ _ h=>h)  ⟨f0,f1,e0,e1⟩ ?_
         (repeat (first | (refine a02 (v:=?_) rfl (by rfl) (fun wq hSq=>?_) ?_;rotate_left;(focus ((try dsimp only at hSq);go_simp;(try simp only[hne]);try with_reducible rfl));simp only[Act.put,zA,zB,zC]) | (refine a03 rfl (by rfl) ?_;simp only[Act.put,zA,zB,zC])))
         refine az0 rfl (by rfl) ⟨f0,f1,e0,e1⟩ ?_;simp only[Act.put,zA,zB,zC];refine az0 rfl (by rfl) ⟨f0,f1,e0,e1⟩ ?_;simp only[Act.put,zA,zB,zC]
         (repeat ((first | (refine a02 (v:=?_) rfl (by rfl) (fun wq hSq=>?_) ?_;rotate_left;(focus ((try dsimp only at hSq);go_simp;try with_reducible rfl))) | refine a03 rfl (by rfl) ?_);simp only[Act.put,zA,zB,zC]))
         refine a13 ?_;go_wp2_with fail
         go_roundw
         case rel=>exact⟨m2+1,by omega,by simp,HD4.out⟩
         case measure=>simp[intOf];omega
       ·obtain rfl:m2=m:=by omega
        go_wp2
        go_roundw
        case rel=>exact⟨m2+1,by omega,by simp,a20 HB2.out hB2⟩
        case measure=>simp[intOf];omega
     ·obtain rfl:m=rl.length:=by omega
      go_wp2
      go_roundw
      case rel=>exact⟨k+1,by omega,by simp,a20 HBn.out hB1⟩
      case measure=>simp[intOf];omega
  ·obtain rfl:k=dn:=by omega
   go_wp2
   go_ret;exact⟨rfl,a20 H4.out hB⟩
theorem rep_any (hT:Shaped5 W) (h:SuAt W s p) {q:Option Addr} {n c:Nat} {x:Nat->Int} (hx:Sd.IntsAt W q n x):Calls Tryz.prog 4 #[.agg (suC s p),.slice q n c] W fun r w'=>r=.returned (.bool true)/\Bl W w':=by
 by_cases he:errS s=0
 ·by_cases hn:n<=4000
  ·exact bG2 hT h he hx hn
  ·exact b91 hT h q n c (fun _=>by omega)
 ·exact b91 hT h q n c (fun z=>absurd z he)
end
end Go.Proofs.YtipakfjpfjehmaaGreatDoor.En
namespace Go.Proofs.YtipakfjpfjehmaaGreatDoor.En
open Go.ChangeShapes Go.WideShapes Go.ChangeAt Go.RowKit Num Ww
open Rr (Rx a19 InX okW u64B Alike step_in newX a43)
end Go.Proofs.YtipakfjpfjehmaaGreatDoor.En
namespace Go.Proofs.YtipakfjpfjehmaaGreatDoor.En
open Go.ChangeShapes Go.WideShapes Go.ChangeAt Go.RowKit Go.Deep Num Ww
theorem aG5:Tryz.prog.cellsOf 3=1:=by kernel_rfl
theorem aQ0:Tryz.prog.cellsOf 124=3:=by kernel_rfl
theorem bt1:Tryz.prog.cellsOf 23=4:=by kernel_rfl
theorem b11:Tryz.prog.cellsOf 121=2:=by kernel_rfl
theorem b09:Tryz.prog.cellsOf 84=2:=by kernel_rfl
theorem bt3:Tryz.prog.cellsOf 119=1:=by kernel_rfl
theorem b10:Tryz.prog.cellsOf 24=1:=by kernel_rfl
theorem bt2:Tryz.prog.cellsOf 60=1:=by kernel_rfl
theorem bt4:Tryz.prog.cellsOf 25=1:=by kernel_rfl
theorem bt5:Tryz.prog.cellsOf 26=1:=by kernel_rfl
theorem bt6:Tryz.prog.cellsOf 28=7:=by kernel_rfl
theorem bd6:Tryz.prog.bytesOf 124=24:=by kernel_rfl
section
variable {H:Type} {enc:TypeId × Value->H}
theorem aP2 {P:Program} {e:TypeId} {d:DataW H} {z:Nat}:∀ {l:List (DataW H)},d∈l->z∈d.weights P e->z∈DataW.weightsAll P e l:=by
 intro l
 induction l with
 | nil=>intro h;cases h
 | cons a l ih =>
  intro h hz;simp only[DataW.weightsAll,List.mem_append]
  rcases List.mem_cons.1 h with rfl | q
  ·exact .inl hz
  ·exact .inr (ih q hz)
theorem aW5 {W:World} {fuel:Nat} {cs:List Value} {x:DataW H × List MemPlace} (hf:DataW.trod enc Tryz.prog W 0 (fun _=>true) true fuel 119 cs=some x) :
  ∃ (ao:Option Addr) (c:List Ins) (cap:Nat),cs=[.slice ao c.length cap]/\(∀ k,k<c.length->(ci c k).x<18446744073709551616)/\a39 W ao c/\Pln ao c.length cap/\((∀ z∈x.1.weights Tryz.prog 119,z<=reachBytes)->c.length*24<=reachBytes):=by
 rcases open_slice Tryz.underlying119 hf with⟨hcs,_⟩ | ⟨a,len,cap,m,n,D,Pl,hcs,_,hl,hm,hmm,hd,hx⟩
 ·exact⟨none,[],0,hcs,fun i hi=>absurd hi (zI i),fun i hi=>absurd hi (zI i),.inl ⟨rfl,rfl,rfl⟩,fun _=>by simp⟩
 ·simp only[if_true]at hmm
  have hd1:x.1=.slice ((List.range len).map D) ((List.range (m - len)).map fun j=>D (len+j)):=congrArg Prod.fst hd;obtain⟨b,off,spot⟩:=a;have hs:0<len->spot=none:=by
   intro h0;obtain⟨cs',h1,_⟩:=hx 0 (by omega);rw[aQ0]at h1;obtain⟨_,hlen,hcell⟩:=World.cells?_some h1
   match cs',hlen with
   | [c0,c1,c2],_ =>
    have f0:=hcell 0 (by omega)
    simpa[Addr.add]using World.cell?_spot f0
  have each:∀ i,i<len->∃ q:Ins,spot=none/\b<W.heap.size/\q.x<18446744073709551616/\W.cell? ⟨b,off+i*3,none⟩=some (.int .i64 q.op)/\W.cell? ⟨b,off+i*3+1,none⟩=some (.int .i64 q.n)/\W.cell? ⟨b,off+i*3+2,none⟩=some (.float .f64 q.x):=by
   intro i hi;obtain⟨cs',h1,h2⟩:=hx i (by omega);rw[aQ0]at h1;obtain⟨_,hlen,hcell⟩:=World.cells?_some h1;obtain⟨xs,k,_,_,_,hxl,hg⟩:=DataW.trod_struct Tryz.underlying124 h2
   match xs,hxl,cs',hlen with
   | [y0,y1,y2],_,[c0,c1,c2],_ =>
    have g0:=hg 0 _ rfl;have g1:=hg 1 _ rfl;have g2:=hg 2 _ rfl
    simp[aG5,bp9]at g0 g1 g2
    obtain⟨x0,e0,_,_⟩:=DataW.trod_int Tryz.underlying3 g0;obtain⟨x1,e1,_,_⟩:=DataW.trod_int Tryz.underlying3 g1;obtain⟨x2,e2,hx2⟩:=aT2 g2
    simp at e0 e1 e2
    subst e0 e1 e2;have f0:=hcell 0 (by omega);have f1:=hcell 1 (by omega);have f2:=hcell 2 (by omega);rw[add_add]at f0 f1 f2;have hspot:=hs (by omega);subst hspot;rw[zJ]at f0 f1 f2;exact⟨⟨x0,x1,x2⟩,rfl,zK W _ f0,hx2,f0,f1,f2⟩
  have:Inhabited Ins:=⟨⟨0,0,0⟩⟩;obtain⟨q,hq⟩:=choose_lt each;have hcl:((List.range len).map q).length=len:=by simp
  have hci:∀ i,i<len->ci ((List.range len).map q) i=q i:=fun i hi=>by
   unfold ci
   simp[List.getD_eq_getElem?_getD,hi]
  refine⟨some ⟨b,off,spot⟩,(List.range len).map q,cap,by rw[hcl];exact hcs,fun i hi=>?_,fun i hi=>?_,.inr ⟨b,off,spot,rfl⟩,fun hz=>?_⟩
  ·rw[hcl]at hi
   rw[hci i hi];exact(hq i hi).2.2.1
  ·rw[hcl]at hi
   rw[hci i hi];obtain⟨rfl,h2,_,r⟩:=hq i hi;exact⟨b,off,rfl,h2,r⟩
  ·have:=hz ((len+(m - len))*24) (by
    rw[hd1]
    simp[DataW.weights,Tryz.underlying119,bd6])
   rw[hcl];omega
theorem aI7 {W:World} {fuel:Nat} {cs:List Value} {x:DataW H × List MemPlace} (hf:DataW.trod enc Tryz.prog W 0 (fun _=>true) true fuel 24 cs=some x) :
  ∃ (ao:Option Addr) (l:List Nat) (cap:Nat),cs=[.slice ao l.length cap]/\(∀ y∈l,y<18446744073709551616)/\FlAt W ao l/\Pln ao l.length cap/\l.length<=maxLen:=by
 rcases open_slice1 Tryz.underlying24 bp9 hf with⟨hcs,_⟩ | ⟨a,len,cap,m,n,V,D,Pl,hcs,_,hl,hm,hmm,_,hx⟩
 ·exact⟨none,[],0,hcs,fun y hy=>(by cases hy),fun i hi=>absurd hi (zI i),.inl ⟨rfl,rfl,rfl⟩,zV _⟩
 ·simp only[if_true]at hmm
  obtain⟨b,off,spot⟩:=a;have hs:0<len->spot=none:=by
   intro h0;obtain⟨h1,_⟩:=hx 0 (by omega)
   simpa[Addr.add]using World.cell?_spot h1
  have each:∀ i,i<len->∃ q:Nat,spot=none/\b<W.heap.size/\q<18446744073709551616/\W.cell? ⟨b,off+i,none⟩=some (.float .f64 q):=by
   intro i hi;obtain⟨h1,h2⟩:=hx i (by omega);obtain⟨q,e,hq⟩:=aT2 h2
   simp at e
   rw[e]at h1;have hs:=hs (by omega);subst hs;rw[zJ]at h1;exact⟨q,rfl,zK W _ h1,hq,h1⟩
  obtain⟨q,hq⟩:=choose_lt each;have hlen:((List.range len).map q).length=len:=by simp
  have hget:∀ i,i<len->((List.range len).map q).getD i 0=q i:=fun i hi=>by simp[hi]
  refine⟨some ⟨b,off,spot⟩,(List.range len).map q,cap,by rw[hlen];exact hcs,fun y hy=>?_,fun i hi=>?_,.inr ⟨b,off,spot,rfl⟩,by rw[hlen];exact zQ hl hm⟩
  ·obtain⟨j,hj,rfl⟩:=List.mem_map.1 hy
   exact(hq j (List.mem_range.1 hj)).2.2.1
  ·rw[hlen]at hi
   obtain⟨rfl,r1,_,r3⟩:=hq i hi;exact⟨b,off,rfl,r1,by rw[hget i hi];exact r3⟩
theorem aN3 {W:World} {fuel:Nat} {cs:List Value} {x:DataW H × List MemPlace} (hf:DataW.trod enc Tryz.prog W 0 (fun _=>true) true fuel 25 cs=some x) (hz:∀ z∈x.1.weights Tryz.prog 25,z<=reachBytes) :
  ∃ (ao:Option Addr) (l:List (Int × List Ins)) (cap:Nat),cs=[.slice ao l.length cap]/\l.length<=maxLen/\PrAt W ao l/\(∀ p∈l,∀ k,k<p.2.length->(ci p.2 k).x<18446744073709551616):=by
 rcases open_slice Tryz.underlying25 hf with⟨hcs,_⟩ | ⟨a,len,cap,m,n,D,Pl,hcs,_,hl,hm,hmm,hd,hx⟩
 ·exact⟨none,[],0,hcs,zV _,fun i hi=>absurd hi (zI i),fun p hp=>(by cases hp)⟩
 ·simp only[if_true]at hmm
  have hd1:x.1=.slice ((List.range len).map D) ((List.range (m - len)).map fun j=>D (len+j)):=congrArg Prod.fst hd;rw[hd1]at hz;obtain⟨b,off,spot⟩:=a;have hs:0<len->spot=none:=by
   intro h0;obtain⟨cs',h1,_⟩:=hx 0 (by omega);rw[b11]at h1;obtain⟨_,hlen,hcell⟩:=World.cells?_some h1
   match cs',hlen with
   | [c0,c1],_ =>
    have f0:=hcell 0 (by omega)
    simpa[Addr.add]using World.cell?_spot f0
  have each:∀ i,i<len->∃ q:(Int × List Ins) × (Option Addr × Nat),spot=none/\b<W.heap.size/\W.cell? ⟨b,off+i*2,none⟩=some (.int .i64 q.1.1)/\W.cell? ⟨b,off+i*2+1,none⟩=some (.slice q.2.1 q.1.2.length q.2.2)/\a39 W q.2.1 q.1.2/\Pln q.2.1 q.1.2.length q.2.2/\(∀ k,k<q.1.2.length->(ci q.1.2 k).x<18446744073709551616)/\q.1.2.length*24<=reachBytes:=by
   intro i hi;obtain⟨cs',h1,h2⟩:=hx i (by omega);rw[b11]at h1;obtain⟨_,hlen,hcell⟩:=World.cells?_some h1;obtain⟨xs,k,_,hxd,_,hxl,hg⟩:=DataW.trod_struct Tryz.underlying121 h2
   match xs,hxl,cs',hlen with
   | [y0,y1],_,[c0,c1],_ =>
    have g0:=hg 0 _ rfl;have g1:=hg 1 _ rfl
    simp[aG5,bt3]at g0 g1
    obtain⟨x0,e0,_,_⟩:=DataW.trod_int Tryz.underlying3 g0;obtain⟨ao,cc,cp,e1,hcx,hco,hpl,hsz⟩:=aW5 g1
    simp at e0 e1
    subst e0 e1;have f0:=hcell 0 (by omega);have f1:=hcell 1 (by omega);rw[add_add]at f0 f1;have hspot:=hs (by omega);subst hspot;rw[zJ]at f0 f1;have hDi:D i=.agg [y0.1,y1.1]:=congrArg Prod.fst hxd;refine⟨((x0,cc),(ao,cp)),rfl,zK W _ f0,f0,f1,hco,hpl,hcx,hsz fun z hz'=>hz z ?_⟩;simp only[DataW.weights,Tryz.underlying25];refine List.mem_cons_of_mem _ (List.mem_append_left _ (aP2 (List.mem_map.2 ⟨i,List.mem_range.2 hi,rfl⟩) ?_));rw[hDi]
    simp[DataW.weights,DataW.weightsEach,Tryz.underlying121,hz']
  have:Inhabited ((Int × List Ins) × (Option Addr × Nat)):=⟨((0,[]),(none,0))⟩;obtain⟨q,hq⟩:=choose_lt each;have hcl:((List.range len).map fun i=>(q i).1).length=len:=by simp
  have hget:∀ i,i<len->((List.range len).map fun i=>(q i).1).getD i (0,[])=(q i).1:=fun i hi=>by simp[hi]
  have hr:reachBytes=140737488351232:=rfl;refine⟨some ⟨b,off,spot⟩,(List.range len).map fun i=>(q i).1,cap,by rw[hcl];exact hcs,by rw[hcl];exact zQ hl hm,fun i hi=>?_,fun p hp=>?_⟩
  ·rw[hcl]at hi
   rw[hget i hi];obtain⟨rfl,r1,r2,r3,r4,r5,_,r6⟩:=hq i hi;exact⟨b,off,(q i).2.1,(q i).2.2,rfl,r1,r2,r3,r4,r5,by omega⟩
  ·obtain⟨j,hj,rfl⟩:=List.mem_map.1 hp
   exact(hq j (List.mem_range.1 hj)).2.2.2.2.2.2.1
theorem aN2 {W:World} {fuel:Nat} {cs:List Value} {x:DataW H × List MemPlace} (hf:DataW.trod enc Tryz.prog W 0 (fun _=>true) true fuel 60 cs=some x) :
  ∃ (ao:Option Addr) (l:List (Int × List Nat)) (cap:Nat),cs=[.slice ao l.length cap]/\l.length<=maxLen/\CaAt W ao l/\(∀ p∈l,∀ y∈p.2,y<18446744073709551616):=by
 rcases open_slice Tryz.underlying60 hf with⟨hcs,_⟩ | ⟨a,len,cap,m,n,D,Pl,hcs,_,hl,hm,hmm,_,hx⟩
 ·exact⟨none,[],0,hcs,zV _,fun i hi=>absurd hi (zI i),fun p hp=>(by cases hp)⟩
 ·simp only[if_true]at hmm
  obtain⟨b,off,spot⟩:=a;have hs:0<len->spot=none:=by
   intro h0;obtain⟨cs',h1,_⟩:=hx 0 (by omega);rw[b09]at h1;obtain⟨_,hlen,hcell⟩:=World.cells?_some h1
   match cs',hlen with
   | [c0,c1],_ =>
    have f0:=hcell 0 (by omega)
    simpa[Addr.add]using World.cell?_spot f0
  have each:∀ i,i<len->∃ q:(Int × List Nat) × (Option Addr × Nat),spot=none/\b<W.heap.size/\W.cell? ⟨b,off+i*2,none⟩=some (.int .i64 q.1.1)/\W.cell? ⟨b,off+i*2+1,none⟩=some (.slice q.2.1 q.1.2.length q.2.2)/\FlAt W q.2.1 q.1.2/\Pln q.2.1 q.1.2.length q.2.2/\q.1.2.length<=maxLen/\(∀ y∈q.1.2,y<18446744073709551616):=by
   intro i hi;obtain⟨cs',h1,h2⟩:=hx i (by omega);rw[b09]at h1;obtain⟨_,hlen,hcell⟩:=World.cells?_some h1;obtain⟨xs,k,_,_,_,hxl,hg⟩:=DataW.trod_struct Tryz.underlying84 h2
   match xs,hxl,cs',hlen with
   | [y0,y1],_,[c0,c1],_ =>
    have g0:=hg 0 _ rfl;have g1:=hg 1 _ rfl
    simp[aG5,b10]at g0 g1
    obtain⟨x0,e0,_,_⟩:=DataW.trod_int Tryz.underlying3 g0;obtain⟨ao,ll,cp,e1,hll,hfl,hpl,hml⟩:=aI7 g1
    simp at e0 e1
    subst e0 e1;have f0:=hcell 0 (by omega);have f1:=hcell 1 (by omega);rw[add_add]at f0 f1;have hspot:=hs (by omega);subst hspot;rw[zJ]at f0 f1;exact⟨((x0,ll),(ao,cp)),rfl,zK W _ f0,f0,f1,hfl,hpl,hml,hll⟩
  have:Inhabited ((Int × List Nat) × (Option Addr × Nat)):=⟨((0,[]),(none,0))⟩;obtain⟨q,hq⟩:=choose_lt each;have hcl:((List.range len).map fun i=>(q i).1).length=len:=by simp
  have hget:∀ i,i<len->((List.range len).map fun i=>(q i).1).getD i (0,[])=(q i).1:=fun i hi=>by simp[hi]
  refine⟨some ⟨b,off,spot⟩,(List.range len).map fun i=>(q i).1,cap,by rw[hcl];exact hcs,by rw[hcl];exact zQ hl hm,fun i hi=>?_,fun p hp=>?_⟩
  ·rw[hcl]at hi
   rw[hget i hi];obtain⟨rfl,r1,r2,r3,r4,r5,r6,_⟩:=hq i hi;exact⟨b,off,(q i).2.1,(q i).2.2,rfl,r1,r2,r3,r4,r5,r6⟩
  ·obtain⟨j,hj,rfl⟩:=List.mem_map.1 hp
   exact(hq j (List.mem_range.1 hj)).2.2.2.2.2.2.2
theorem aE3 {W:World} {fuel:Nat} {cs:List Value} {x:DataW H × List MemPlace} (hf:DataW.trod enc Tryz.prog W 0 (fun _=>true) true fuel 26 cs=some x) :
  ∃ (ao:Option Addr) (l:List (List (Int × List Nat))) (cap:Nat),cs=[.slice ao l.length cap]/\l.length<=maxLen/\ThAt W ao l/\(∀ k∈l,∀ p∈k,∀ y∈p.2,y<18446744073709551616):=by
 rcases open_slice1 Tryz.underlying26 bt2 hf with⟨hcs,_⟩ | ⟨a,len,cap,m,n,V,D,Pl,hcs,_,hl,hm,hmm,_,hx⟩
 ·exact⟨none,[],0,hcs,zV _,fun i hi=>absurd hi (zI i),fun p hp=>(by cases hp)⟩
 ·simp only[if_true]at hmm
  obtain⟨b,off,spot⟩:=a;have hs:0<len->spot=none:=by
   intro h0;obtain⟨h1,_⟩:=hx 0 (by omega)
   simpa[Addr.add]using World.cell?_spot h1
  have each:∀ i,i<len->∃ q:List (Int × List Nat) × (Option Addr × Nat),spot=none/\b<W.heap.size/\W.cell? ⟨b,off+i,none⟩=some (.slice q.2.1 q.1.length q.2.2)/\CaAt W q.2.1 q.1/\q.1.length<=maxLen/\(∀ p∈q.1,∀ y∈p.2,y<18446744073709551616):=by
   intro i hi;obtain⟨h1,h2⟩:=hx i (by omega);obtain⟨ao,ll,cp,e1,hml,hca,hll⟩:=aN2 h2
   simp at e1
   rw[e1]at h1;have hs:=hs (by omega);subst hs;rw[zJ]at h1;exact⟨(ll,(ao,cp)),rfl,zK W _ h1,h1,hca,hml,hll⟩
  have:Inhabited (List (Int × List Nat) × (Option Addr × Nat)):=⟨([],(none,0))⟩;obtain⟨q,hq⟩:=choose_lt each;have hcl:((List.range len).map fun i=>(q i).1).length=len:=by simp
  have hget:∀ i,i<len->((List.range len).map fun i=>(q i).1).getD i []=(q i).1:=fun i hi=>by simp[hi]
  refine⟨some ⟨b,off,spot⟩,(List.range len).map fun i=>(q i).1,cap,by rw[hcl];exact hcs,by rw[hcl];exact zQ hl hm,fun i hi=>?_,fun p hp=>?_⟩
  ·rw[hcl]at hi
   rw[hget i hi];obtain⟨rfl,r1,r2,r3,r4,_⟩:=hq i hi;exact⟨b,off,(q i).2.1,(q i).2.2,rfl,r1,r2,r3,r4⟩
  ·obtain⟨j,hj,rfl⟩:=List.mem_map.1 hp
   exact(hq j (List.mem_range.1 hj)).2.2.2.2.2
theorem open_setup {W:World} {base:Nat} {v:Value} {d:DataW H} {ps:List MemPlace} (hval:Value.okWide Tryz.prog W .any base 28 v) (h:DataW.Trod enc Tryz.prog W 0 (fun _=>true) true 28 v d ps)
  {ts:List TypeId} {ds:List (DataW H)} (hz:(DataW.weightsEach Tryz.prog ts ds).all (·<=reachBytes)=true) {j:Nat} (h1:ts[j]?=some 28) (h2:ds[j]?=some d) :
  ∃ s p,v=.agg (suC s p)/\SuAt W s p/\True:=by
 obtain⟨csv,rfl,hsz⟩:=okWide_struct Tryz.underlying28 hval;rw[bt6]at hsz;obtain⟨lv⟩:=csv
 match lv,hsz with
 | [c0,c1,c2,c3,c4,c5,c6],_ =>
  obtain⟨fuel,hf⟩:=h;obtain⟨xs,n,_,hxd,_,hlen,hg⟩:=DataW.trod_struct Tryz.underlying28 hf
  match xs,hlen with
  | [y0,y1,y2,y3],_ =>
   have g0:=hg 0 _ rfl;have g1:=hg 1 _ rfl;have g2:=hg 2 _ rfl;have g3:=hg 3 _ rfl
   simp[bt1,b10,bt4,bt5,Value.cells]at g0 g1 g2 g3
   obtain⟨zs,n0,_,_,_,zl,zg⟩:=DataW.trod_struct Tryz.underlying23 g0;have hd0:d=.agg [y0.1,y1.1,y2.1,y3.1]:=congrArg Prod.fst hxd;have wt:∀ z∈d.weights Tryz.prog 28,z<=reachBytes:=fun z hz'=>by simpa using List.all_eq_true.1 hz _ (DataW.weights_mem_each h1 h2 z hz')
   rw[hd0]at wt;simp only[DataW.weights,Tryz.underlying28]at wt
   match zs,zl with
   | [z0,z1,z2,z3],_ =>
    have k0:=zg 0 _ rfl;have k1:=zg 1 _ rfl;have k2:=zg 2 _ rfl;have k3:=zg 3 _ rfl
    simp[aG5]at k0 k1 k2 k3
    obtain⟨a,ea,_,_⟩:=DataW.trod_int Tryz.underlying3 k0;obtain⟨b,eb,_,_⟩:=DataW.trod_int Tryz.underlying3 k1;obtain⟨c,ec,_,_⟩:=DataW.trod_int Tryz.underlying3 k2;obtain⟨e,ee,_,_⟩:=DataW.trod_int Tryz.underlying3 k3;obtain⟨po,l,co,e1,r1,r2,_,r4⟩:=aI7 g1;obtain⟨pp,lp,cp,e2,s1,s2,s3⟩:=aN3 g2 fun z hz'=>wt z (by simp[DataW.weightsEach,hz'])
    obtain⟨pt,lt,ct,e3,t1,t2,t3⟩:=aE3 g3
    simp at ea eb ec ee e1 e2 e3
    exact⟨⟨a,b,c,e,l,lp,lt⟩,⟨po,co,pp,cp,pt,ct⟩,by rw[ea,eb,ec,ee,e1,e2,e3],⟨r2,s2,t2,r4,s1,t1,⟨r1,s3,t3⟩⟩,trivial⟩
theorem open_ints {W:World} {base:Nat} {v:Value} {d:DataW H} {ps:List MemPlace} (hval:Value.okWide Tryz.prog W .any base 29 v) (h:DataW.Trod enc Tryz.prog W 0 (fun _=>true) true 29 v d ps) :
  ∃ ao len cap x,v=.slice ao len cap/\len<=maxLen/\Sd.IntsAt W ao len x/\Pln ao len cap:=by
 obtain⟨a0,len,cap,rfl⟩:=okWide_slice Tryz.underlying29 hval;obtain⟨fuel,hf⟩:=h
 rcases open_slice1 Tryz.underlying29 aG5 hf with⟨hcs,_⟩ | ⟨a,len',cap',m,n,V,D,Pl,hcs,_,hl,hm,hmm,hd,hx⟩
 ·simp[Value.cells]at hcs
  obtain⟨rfl,rfl,rfl⟩:=hcs;exact⟨none,0,0,fun _=>0,rfl,zV _,fun i hi=>absurd hi (zI i),.inl ⟨rfl,rfl,rfl⟩⟩
 ·simp[Value.cells]at hcs
  obtain⟨rfl,rfl,rfl⟩:=hcs;simp only[if_true]at hmm;obtain⟨b,off,spot⟩:=a;have hs:0<len->spot=none:=by
   intro h0;obtain⟨h1,_⟩:=hx 0 (by omega)
   simpa[Addr.add]using World.cell?_spot h1
  have each:∀ i,i<len->∃ q:Int,spot=none/\b<W.heap.size/\W.cell? ⟨b,off+i,none⟩=some (.int .i64 q):=by
   intro i hi;obtain⟨h1,h2⟩:=hx i (by omega);obtain⟨q,e,_,_⟩:=DataW.trod_int Tryz.underlying3 h2
   simp at e
   rw[e]at h1;have hs:=hs (by omega);subst hs;rw[zJ]at h1;exact⟨q,rfl,zK W _ h1,h1⟩
  obtain⟨q,hq⟩:=choose_lt each;refine⟨some ⟨b,off,spot⟩,len,cap,q,rfl,by omega,fun i hi=>?_,.inr ⟨b,off,spot,rfl⟩⟩;obtain⟨rfl,r⟩:=hq i hi;exact⟨b,off,rfl,r⟩
end
end Go.Proofs.YtipakfjpfjehmaaGreatDoor.En
