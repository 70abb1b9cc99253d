import Derived.Test.YtkihgongjedheaaGreatDoorJN5
import Derived.RangeFuncNested
import Derived.RangeFuncLeaves
import Derived.Shelf.Abstract
import Derived.OwnWalkIn
import Derived.TacticsInMore
import Derived.LoopNIn
import Derived.LoopIn
import Derived.Deep.CutBlock
import Derived.Deep.DeepCutAuto
set_option maxRecDepth 100000
set_option maxHeartbeats 8000000
namespace Go.Proofs.YtkihgongjedheaaGreatDoor.En
open Go.ChangeShapes Go.WideShapes Go.ChangeAt Go.RowKit Num Ww
open Rr (Rx a16 InX okW u64B Alike step_in newX a44)
def Pln (po:Option Addr) (n c:Nat):Prop:=(po=none/\n=0/\c=0)\/∃ g o sp,po=some ⟨g,o,sp⟩
def PrAt (w:World) (ao:Option Addr) (l:List (Int × List Ins)):Prop:=∀ i,i<l.length->∃ g o po c,ao=some ⟨g,o,none⟩/\g<w.heap.size/\w.cell? ⟨g,o+i*2,none⟩=some (.int .i64 (l.getD i (0,[])).1)/\w.cell? ⟨g,o+i*2+1,none⟩=some (.slice po (l.getD i (0,[])).2.length c)/\a39 w po (l.getD i (0,[])).2/\Pln po (l.getD i (0,[])).2.length c/\(l.getD i (0,[])).2.length<=5864062014805
def CaAt (w:World) (ao:Option Addr) (l:List (Int × List Nat)):Prop:=∀ i,i<l.length->∃ g o po c,ao=some ⟨g,o,none⟩/\g<w.heap.size/\w.cell? ⟨g,o+i*2,none⟩=some (.int .i64 (l.getD i (0,[])).1)/\w.cell? ⟨g,o+i*2+1,none⟩=some (.slice po (l.getD i (0,[])).2.length c)/\FlAt w po (l.getD i (0,[])).2/\Pln po (l.getD i (0,[])).2.length c/\(l.getD i (0,[])).2.length<=9223372036854775807
def ThAt (w:World) (ao:Option Addr) (l:List (List (Int × List Nat))):Prop:=∀ i,i<l.length->∃ g o qa c,ao=some ⟨g,o,none⟩/\g<w.heap.size/\w.cell? ⟨g,o+i,none⟩=some (.slice qa (l.getD i []).length c)/\CaAt w qa (l.getD i [])/\(l.getD i []).length<=9223372036854775807
structure Sp where
 ps:Option Addr
 cs:Nat
 pp:Option Addr
 cp:Nat
 pt:Option Addr
 ct:Nat
structure SuAt (w:World) (s:Su) (p:Sp):Prop where
 st:FlAt w p.ps s.st
 pg:PrAt w p.pp s.pg
 cl:ThAt w p.pt s.cl
 l1:s.st.length<=9223372036854775807
 l2:s.pg.length<=9223372036854775807
 l3:s.cl.length<=9223372036854775807
 ok:SuOk s
abbrev suC (s:Su) (p:Sp):Array Value:=#[.int .i64 s.a,.int .i64 s.b,.int .i64 s.c,.int .i64 s.e,.slice p.ps s.st.length p.cs,.slice p.pp s.pg.length p.cp,.slice p.pt s.cl.length p.ct]
abbrev suO (s:Su) (p:Sp):Obj:=.cells (suC s p) 28
abbrev Bw(w:World)(s:Su)(p:Sp)(u:World):Prop:=Below (w.alloc (suO s p)).heap.size (w.alloc (suO s p)) u
section
variable {w w':World} {s:Su} {p:Sp}
theorem PrAt.on {ao:Option Addr} {l:List (Int × List Ins)} (h:PrAt w ao l) (k:Bl w w'):PrAt w' ao l:=fun i hi=>by
 obtain⟨g,o,po,c,e,hg,c0,c1,hc,hn⟩:=h i hi;exact⟨g,o,po,c,e,zL hg k.size,(k.cell (p:=⟨g,_,none⟩) hg).trans c0,(k.cell (p:=⟨g,_,none⟩) hg).trans c1,hc.on k,hn⟩
theorem CaAt.on {ao:Option Addr} {l:List (Int × List Nat)} (h:CaAt w ao l) (k:Bl w w'):CaAt w' ao l:=fun i hi=>by
 obtain⟨g,o,po,c,e,hg,c0,c1,hc,hn⟩:=h i hi;exact⟨g,o,po,c,e,zL hg k.size,(k.cell (p:=⟨g,_,none⟩) hg).trans c0,(k.cell (p:=⟨g,_,none⟩) hg).trans c1,hc.on k,hn⟩
theorem ThAt.on {ao:Option Addr} {l:List (List (Int × List Nat))} (h:ThAt w ao l) (k:Bl w w'):ThAt w' ao l:=fun i hi=>by
 obtain⟨g,o,qa,c,e,hg,c0,hc,hn⟩:=h i hi;exact⟨g,o,qa,c,e,zL hg k.size,(k.cell (p:=⟨g,_,none⟩) hg).trans c0,hc.on k,hn⟩
theorem SuAt.on (h:SuAt w s p) (k:Bl w w'):SuAt w' s p:=⟨h.st.on k,h.pg.on k,h.cl.on k,h.l1,h.l2,h.l3,h.ok⟩
def anyU (q:Nat->Bool):Nat->Bool
 | 0=>false
 | n+1=>anyU q n || q n
theorem ae1 (q:Nat->Bool):∀ n,anyU q n=true ↔ ∃ i,i<n/\q i=true
 | 0=>⟨fun h=>(by cases h),fun ⟨_,h,_⟩=>absurd h (zI _)⟩
 | n+1=>by
  show (anyU q n || q n)=true ↔ _
  rw[Bool.or_eq_true,ae1 q n]
  constructor
  ·rintro(⟨i,h1,h2⟩ | h)
   ·exact⟨i,by omega,h2⟩
   ·exact⟨n,by omega,h⟩
  ·rintro⟨i,h1,h2⟩
   by_cases e:i=n
   ·exact .inr (e ▸ h2)
   ·exact .inl ⟨i,by omega,h2⟩
theorem b28 {α:Type} (l:List α) (d:α) (q:α->Bool):l.any q=anyU (fun i=>q (l.getD i d)) l.length:=by
 rw[Bool.eq_iff_iff,ae1,List.any_eq_true]
 constructor
 ·rintro⟨x,hx,h⟩
  obtain⟨i,hi,rfl⟩:=List.mem_iff_getElem.1 hx;exact⟨i,hi,by rw[zG,List.getElem?_eq_getElem hi];exact h⟩
 ·rintro⟨i,hi,h⟩
  rw[zG,List.getElem?_eq_getElem hi]at h;exact⟨l[i],List.getElem_mem _,h⟩
theorem bt7 {α:Type} (l:List α) (d:α) (q:α->Bool):l.all q=!anyU (fun i=>!q (l.getD i d)) l.length:=by
 rw[<- b28 l d (fun x=>!q x)]
 simp[List.all_eq_not_any_not]
theorem a95 (k:Int) (po:Option Addr) (n c np:Nat) (l:List Nat) (hl:l.length=n):Calls Tryz.prog 49 #[.agg #[.int .i64 k,.slice po n c],.int .i64 (np:Int)] w fun r w'=>r=.returned (.bool (a63 np (k,l)))/\Bl w w':=by
 have HB:=zH (below_alloc w (.cells #[.int .i64 k,.slice po n c] 83));have HE:Hid (a63 np (k,l)=(decide (0<=k) && decide (k<(np:Int)) && decide ((n:Int)<=8))):=by
  unfold a63;dsimp only;rw[hl]
  congr 1
  exact decide_eq_decide.2 ⟨fun q=>by omega,fun q=>by omega⟩
 by_cases q1:0<=k
 ·by_cases q2:k<(np:Int)
  ·go_enter Tryz.func49,Tryz.ntmps49
   go_wp2_with fail;go_ret;exact⟨by rw[HE.out];simp[q1,q2],HB.out⟩
  ·go_enter Tryz.func49,Tryz.ntmps49
   go_wp2_with fail;go_ret;exact⟨by rw[HE.out];simp;omega,HB.out⟩
 ·go_enter Tryz.func49,Tryz.ntmps49
  go_wp2_with fail;go_ret;exact⟨by rw[HE.out];simp;omega,HB.out⟩
def aA4 (s:Su):Bool:=decide (64<s.pg.length) || decide (s.b<(s.cl.length:Int)) || s.cl.any (fun l=>decide (64<l.length))
theorem aR2 (w:World) (s:Su) (p:Sp):Bl w (w.alloc (suO s p))/\(w.alloc (suO s p)).heap[w.heap.size]?=some (suO s p):=⟨below_alloc _ _,zN _ _⟩
theorem a70 {u:World} {x:Nat} (h:u.heap[x]?=some (suO s p)):u.cell? ⟨x,0,none⟩=some (.int .i64 s.a)/\u.cell? ⟨x,1,none⟩=some (.int .i64 s.b)/\u.cell? ⟨x,2,none⟩=some (.int .i64 s.c)/\u.cell? ⟨x,3,none⟩=some (.int .i64 s.e)/\u.cell? ⟨x,4,none⟩=some (.slice p.ps s.st.length p.cs)/\u.cell? ⟨x,5,none⟩=some (.slice p.pp s.pg.length p.cp)/\u.cell? ⟨x,6,none⟩=some (.slice p.pt s.cl.length p.ct)/\x<u.heap.size :=
 ⟨(zR u x 0 _ _ _ h).trans rfl,(zR u x 1 _ _ _ h).trans rfl,(zR u x 2 _ _ _ h).trans rfl,(zR u x 3 _ _ _ h).trans rfl,(zR u x 4 _ _ _ h).trans rfl,(zR u x 5 _ _ _ h).trans rfl,(zR u x 6 _ _ _ h).trans rfl,lt_of_block h⟩
theorem aR4 (h:SuAt w s p):Calls Tryz.prog 48 #[.agg (suC s p)] w fun r w'=>r=.returned (.bool (aA4 s))/\Bl w w':=by
 have HB:=zH (aR2 w s p);have HT:=zH (h.on HB.out.1).cl;have l2:=h.l2;have l3:=h.l3;have HE:Hid (aA4 s=(decide (64<s.pg.length) || decide (s.b<(s.cl.length:Int)) || anyU (fun i=>decide (64<(s.cl.getD i []).length)) s.cl.length)):=by unfold aA4;rw[b28 s.cl []];trivial
 clear h
 by_cases q1:64<s.pg.length
 ·have q1':(64:Int)<(s.pg.length:Int):=by omega
  go_enter Tryz.func48,Tryz.ntmps48;go_wp2_with fail;go_ret;exact⟨by rw[HE.out,zT q1,Bool.true_or,Bool.true_or];rfl,HB.out.1⟩
 ·have q1':¬ (64:Int)<(s.pg.length:Int):=by omega
  by_cases q2:s.b<(s.cl.length:Int)
  ·go_enter Tryz.func48,Tryz.ntmps48
   go_wp2_with fail;go_ret;exact⟨by rw[HE.out,zT q2,Bool.or_true,Bool.true_or];rfl,HB.out.1⟩
  ·have HE2:Hid (aA4 s=anyU (fun i=>decide (64<(s.cl.getD i []).length)) s.cl.length):=by rw[HE.out,zU q1,zU q2,Bool.false_or,Bool.false_or];trivial
   clear HE;go_enter Tryz.func48,Tryz.ntmps48;go_wp2_with fail;obtain⟨w1,hw1⟩:∃ w1,w1=w.alloc (suO s p):=⟨_,rfl⟩
   rw[show w.alloc (.cells (suC s p) 28)=w1 from hw1.symm];rw[<- hw1]at HB HT;clear hw1
   go_loopw [2,21] (fun v2 v21 wr=>∃ k:Nat,v21=.int .i64 (k:Int)/\v2=.bool false/\k<=s.cl.length/\Hid (wr=w1/\anyU (fun i=>decide (64<(s.cl.getD i []).length)) k=false)) (fun v2 v21 _=>s.cl.length - (intOf v21).toNat)
   case atStart=>exact⟨0,rfl,rfl,zV _,rfl,rfl⟩
   case round =>
    obtain⟨k,rfl,rfl,hk,HR⟩:=hrel;have hw:=HR.out.1;subst hw
    by_cases hlt:k<s.cl.length
    ·have hlt':(k:Int)<(s.cl.length:Int):=by omega
     obtain⟨g,o,qa,c,e,hg,c0,_,ln⟩:=HT.out k hlt;obtain⟨m,hm⟩:∃ m,(s.cl.getD k []).length=m:=⟨_,rfl⟩
     rw[hm]at c0 ln
     by_cases q:64<m
     ·have q':(64:Int)<(m:Int):=by omega
      have HY:Hid (anyU (fun i=>decide (64<(s.cl.getD i []).length)) s.cl.length=true):=(ae1 _ _).2 ⟨k,hlt,zT (by omega)⟩;clear hm;rw[e];go_wp2_with fail;go_ret;exact⟨by rw[HE2.out,HY.out];rfl,HB.out.1⟩
     ·have q':¬ (64:Int)<(m:Int):=by omega
      have HY:Hid (anyU (fun i=>decide (64<(s.cl.getD i []).length)) (k+1)=false):=by
       show (anyU _ k || decide _)=false
       rw[HR.out.2,zU (by omega)]
       rfl
      clear hm;rw[e];go_wp2_with fail;exact⟨⟨k+1,by first | rfl | (congr 1),rfl,by omega,by first | trivial | rfl,HY.out⟩,by simp[intOf];omega⟩
    ·have hk':k=s.cl.length:=by omega
     have hlt':¬ (k:Int)<(s.cl.length:Int):=by omega
     go_wp2_with fail;go_ret;exact⟨by rw[HE2.out,<- hk',HR.out.2];rfl,HB.out.1⟩
def badC (s:Su) (l:List (Int × List Nat)) (n:Nat):Bool:=anyU (fun j=>!a63 s.pg.length (l.getD j (0,[]))) n
def badT (s:Su) (n:Nat):Bool:=anyU (fun i=>badC s (s.cl.getD i []) (s.cl.getD i []).length) n
theorem b59 (s:Su):errS s=if Md.cfgB s.a s.b s.c s.e && decide ((s.st.length:Int)<=s.a) then (if aA4 s then 160 else if badT s s.cl.length then 1 else 0) else 1:=by
 unfold errS badT;have e:s.cl.all (fun l=>l.all (a63 s.pg.length))=!anyU (fun i=>badC s (s.cl.getD i []) (s.cl.getD i []).length) s.cl.length:=by
  rw[bt7 s.cl []]
  congr 2
  funext i
  unfold badC;rw[bt7 _ (0,[]),Bool.not_not]
 rw[e];unfold aA4
 cases anyU (fun i=>badC s (s.cl.getD i []) (s.cl.getD i []).length) s.cl.length <;> rfl
theorem aI9 (h:SuAt w s p):Calls Tryz.prog 25 #[.agg (suC s p)] w fun r w'=>r=.returned (.int .i64 (errS s))/\Bl w w':=by
 have HB:=zH (aR2 w s p);have HX:Hid (∀ u,Bw w s p u->SuAt u s p/\u.heap[w.heap.size]?=some (suO s p)/\Bl w u):=fun u hu=>⟨(h.on HB.out.1).on hu,(hu.block _ (lt_of_block HB.out.2)).trans HB.out.2,HB.out.1.trans (hu.mono HB.out.1.size)⟩
 have HP:=zH (fun u=>Md.place_any s.a s.b s.c s.e u);have l1:=h.l1;have l2:=h.l2;have l3:=h.l3;have HE:=zH (b59 s);have HM:Hid (∀ u,Bw w s p u->Calls Tryz.prog 48 #[.agg (suC s p)] u fun r w'=>r=.returned (.bool (aA4 s))/\Bl u w'):=fun u hu=>aR4 (HX.out u hu).1
 clear h
 cases hc:Md.cfgB s.a s.b s.c s.e with
 | false =>
  simp only[hc]at HP;have HE2:Hid (errS s=1):=by rw[HE.out,hc];trivial
  clear HE HM;go_enter Tryz.func25,Tryz.ntmps25
  go_wp2_with (go_at_call 26;refine(HP.out _).mono ?_;rintro r u1 ⟨rfl,q⟩;have H1:=zH q;clear q HP)
  go_ret;have:=(HX.out _ H1.out).2.2;exact⟨by rw[HE2.out];rfl,this.alloc this.size _⟩
 | true =>
  simp only[hc]at HP
  by_cases q1:(s.st.length:Int)<=s.a
  ·have q1':¬ s.a<(s.st.length:Int):=by omega
   cases hm:aA4 s with
   | true =>
    rw[hm]at HM;have HE2:Hid (errS s=160):=by rw[HE.out,hc,hm,zT q1];trivial
    clear HE;go_enter Tryz.func25,Tryz.ntmps25
    go_wp2_with (first
     | (go_at_call 48;refine(HM.out _ (H1.out.alloc H1.out.size _)).mono ?_;rintro r u2 ⟨rfl,q⟩;have H2:=zH (a17 (H1.out.alloc H1.out.size _) q);clear q HM)
     | (go_at_call 26;refine(HP.out _).mono ?_;rintro r u1 ⟨rfl,q⟩;have H1:=zH q;obtain⟨s0,s1,s2,s3,s4,s5,s6,s7⟩:=a70 (HX.out _ q).2.1;clear q HP))
    go_ret;exact⟨by rw[HE2.out];rfl,(HX.out _ H2.out).2.2⟩
   | false =>
    rw[hm]at HM;have HE2:Hid (errS s=if badT s s.cl.length then 1 else 0):=by rw[HE.out,hc,hm,zT q1];trivial
    clear HE;go_enter Tryz.func25,Tryz.ntmps25
    go_wp2_with (first
     | (go_at_call 48;refine(HM.out _ (H1.out.alloc H1.out.size _)).mono ?_;rintro r u2 ⟨rfl,q⟩;have H2:=zH (a17 (H1.out.alloc H1.out.size _) q);clear s0 s1 s2 s3 s4 s5 s6 s7;obtain⟨s0,s1,s2,s3,s4,s5,s6,s7⟩:=a70 (HX.out _ H2.out).2.1;clear q HM)
     | (go_at_call 26;refine(HP.out _).mono ?_;rintro r u1 ⟨rfl,q⟩;have H1:=zH q;obtain⟨s0,s1,s2,s3,s4,s5,s6,s7⟩:=a70 (HX.out _ q).2.1;clear q HP))
    clear s0 s1 s2 s3 s4 s5 s6 s7 H1
    go_loopw [2,31] (fun v2 v31 wr=>∃ k:Nat,v31=.int .i64 (k:Int)/\v2=.int .i64 0/\k<=s.cl.length/\Hid (Bw w s p wr/\badT s k=false)) (fun v2 v31 _=>s.cl.length - (intOf v31).toNat)
    case atStart=>exact⟨0,rfl,rfl,zV _,H2.out,rfl⟩
    case round =>
     obtain⟨k,rfl,rfl,hk,HR⟩:=hrel;clear H2
     by_cases hlt:k<s.cl.length
     ·have hlt':(k:Int)<(s.cl.length:Int):=by omega
      obtain⟨g,o,qa,c,e,hg,c0,ca,ln⟩:=(HX.out _ HR.out.1).1.cl k hlt;have HY:Hid ((badC s (s.cl.getD k []) (s.cl.getD k []).length=true->errS s=1)/\(badC s (s.cl.getD k []) (s.cl.getD k []).length=false->badT s (k+1)=false)):=by
       refine⟨fun q=>?_,fun q=>?_⟩
       ·rw[HE2.out,show badT s s.cl.length=true from(ae1 _ _).2 ⟨k,hlt,q⟩]
        rfl
       ·show (anyU _ k || badC s (s.cl.getD k []) (s.cl.getD k []).length)=false
        rw[q,Bool.or_false];exact HR.out.2
      obtain⟨l,hl⟩:∃ l,s.cl.getD k []=l:=⟨_,rfl⟩
      rw[hl]at c0 ca ln HY;obtain⟨m,hm⟩:∃ m,l.length=m:=⟨_,rfl⟩
      rw[hm]at c0 ln HY;have HCA:=zH ca;have HM:=zH hm;obtain⟨wo,hwo⟩:∃ wo,wo=wr:=⟨_,rfl⟩
      rw[<- hwo]at HR c0 hg HCA ⊢;clear hl hm ca hwo;rw[e];go_wp2_with fail
      go_loopw [2,37] (fun v2 v37 wi=>∃ j:Nat,v37=.int .i64 (j:Int)/\v2=.int .i64 0/\j<=m/\Hid (Bl wo wi/\badC s l j=false)) (fun v2 v37 _=>m - (intOf v37).toNat)
      case atStart=>exact⟨0,rfl,rfl,zV _,zF _ _,rfl⟩
      case round =>
       obtain⟨j,rfl,rfl,hj,HI⟩:=hrel;have HBW:=zH (HR.out.1.trans (HI.out.1.mono HR.out.1.size))
       by_cases hjt:j<m
       ·have hjt':(j:Int)<(m:Int):=by omega
        obtain⟨g2,o2,po,cc,e2,hg2,d0,d1,_,_⟩:=(HCA.out.on HI.out.1) j (by rw[HM.out];exact hjt);obtain⟨x,hx⟩:∃ x,l.getD j (0,[])=x:=⟨_,rfl⟩
        have HZ:Hid ((a63 s.pg.length x=true->badC s l (j+1)=false)/\(a63 s.pg.length x=false->errS s=1)):=by
         refine⟨fun q=>?_,fun q=>HY.out.1 ((ae1 _ _).2 ⟨j,hjt,by rw[hx,q];rfl⟩)⟩
         show (anyU _ j || !a63 s.pg.length (l.getD j (0,[])))=false
         rw[hx,q,Bool.not_true,Bool.or_false];exact HI.out.2
        rw[hx]at d0 d1;have HMB:=zH (fun u:World=>a95 (w:=u) x.1 po x.2.length cc s.pg.length x.2 rfl);rw[show (x.1,x.2)=x from rfl]at HMB;obtain⟨n2,hn2⟩:∃ n2,x.2.length=n2:=⟨_,rfl⟩
        obtain⟨x1,hx1⟩:∃ x1,x.1=x1:=⟨_,rfl⟩
        rw[hn2]at HMB d1;rw[hx1]at HMB d0;clear hx hn2 hx1;have HAL:Hid (∀ ob,Bw w s p (wr.alloc ob)/\Bl wo (wr.alloc ob)):=fun ob=>⟨HBW.out.alloc HBW.out.size ob,HI.out.1.alloc HI.out.1.size ob⟩
        obtain⟨s0,s1,s2,s3,s4,s5,s6,s7⟩:=a70 (HX.out _ (HAL.out (.cells #[.int .i64 x1,.slice po n2 cc] 83)).1).2.1;clear s0 s1 s2 s3 s4 s6;subst e2
        cases hb:a63 s.pg.length x with
        | true =>
         rw[hb]at HMB
         go_wp2_with (go_at_call 49;refine(HMB.out _).mono ?_;rintro r u4 ⟨rfl,q⟩;have H4:=zH q;clear q HMB)
         exact⟨⟨j+1,by first | rfl | (congr 1),rfl,by omega,(HAL.out _).2.trans (H4.out.mono (HAL.out _).2.size),HZ.out.1 hb⟩,by simp[intOf];omega⟩
        | false =>
         rw[hb]at HMB
         go_wp2_with (go_at_call 49;refine(HMB.out _).mono ?_;rintro r u4 ⟨rfl,q⟩;have H4:=zH q;clear q HMB)
         go_ret;have z:=(HX.out _ (HAL.out (.cells #[.int .i64 x1,.slice po n2 cc] 83)).1).2.2;exact⟨by rw[HZ.out.2 hb];rfl,z.trans (H4.out.mono z.size)⟩
       ·have hjm:j=m:=by omega
        have hjt':¬ (j:Int)<(m:Int):=by omega
        go_wp2_with fail;exact⟨⟨k+1,by first | rfl | (congr 1),rfl,by omega,HBW.out,HY.out.2 (by rw[<- hjm];exact HI.out.2)⟩,by simp[intOf];omega⟩
     ·have hk':k=s.cl.length:=by omega
      have hlt':¬ (k:Int)<(s.cl.length:Int):=by omega
      go_wp2_with fail;go_ret;exact⟨by rw[HE2.out,<- hk',HR.out.2];rfl,(HX.out _ HR.out.1).2.2⟩
  ·have q1':s.a<(s.st.length:Int):=by omega
   have HE2:Hid (errS s=1):=by rw[HE.out,zU q1,Bool.and_false];trivial
   clear HE HM;go_enter Tryz.func25,Tryz.ntmps25
   go_wp2_with (go_at_call 26;refine(HP.out _).mono ?_;rintro r u1 ⟨rfl,q⟩;have H1:=zH q;obtain⟨s0,s1,s2,s3,s4,s5,s6,s7⟩:=a70 (HX.out _ q).2.1;clear q HP)
   go_ret;have:=(HX.out _ H1.out).2.2;exact⟨by rw[HE2.out];rfl,this.alloc this.size _⟩
end
theorem aA9 {w:World} {g o c n:Nat} {sp:Option Nat} {xs:List Value} (hn:xs.length=n*3) (hx:∀ j u,xs[j]?=some u->w.cell? ((⟨g,o,sp⟩:Addr).add j)=some u) (h1:∀ u∈xs,u.oneCell'=true) (hz:n<=5864062014805):Calls Tryz.prog 57 #[.slice (some ⟨g,o,sp⟩) n c] w fun e w'=>∃ p' c',e=.returned (.slice p' n c')/\w'.ownsRow w.heap.size 123 3 (.slice p' n c') n xs/\Bl w w':=by
 have hq:=fun w c=>Lib.run_eql_slice_nil (P:=Tryz.prog) w 118 123 (some ⟨g,o,sp⟩) n c 0 0 Tryz.underlying118
 have HX:Hid (∀ j u,xs[j]?=some u->(w.alloc (.cells #[] 123)).cell? ((⟨g,o,sp⟩:Addr).add j)=some u):=fun j u hj=>((below_alloc w _).cell (zK w _ (hx j u hj))).trans (hx j u hj)
 have H1:=zH (And.intro h1 (And.intro hn hz));have HO:Hid ((w.alloc (.cells #[] 123)).ownsRow w.heap.size 123 3 (.slice (some ⟨w.heap.size,0,none⟩) 0 0) 0 []):=⟨rfl,.inr ⟨w.heap.size,0,#[],rfl,zE _,zN _ _,zE _,zV _,by simp,by simp⟩⟩;obtain⟨i0,hi,hz0,hz1,hz2⟩:=info_parts b88;have HZI:=zH (And.intro hi (And.intro hz0 (And.intro hz1 hz2)));clear hi hz0 hz1 hz2 hx h1 hz hn;go_enter Tryz.func57,Tryz.ntmps57
 go_wp2_with (at_builtin;refine wpList_append_own_at _ rfl _ _ 118 rfl w.heap.size 123 i0 _ 3 24 Tryz.underlying118 HZI.out.1 HZI.out.2.1 HZI.out.2.2.1 HZI.out.2.2.2 rfl (by decide) _ 0 [] rfl HO.out ⟨g,o,sp⟩ n _ xs rfl H1.out.2.1 HX.out H1.out.1 (by have:=H1.out.2.2;unfold maxLen;omega) (by have:=H1.out.2.2;omega) (by simp) ?_;intro v w3 hown hgrow hnil hloc;have HS:=zH (And.intro hown hgrow);clear hown hgrow hnil hloc)
 have ho3:=HS.out.1;rw[List.nil_append,Nat.zero_add]at ho3;obtain⟨p',c',hv,ha⟩:=ad5 ho3;subst hv;have hb3:Bl w w3:=(below_alloc w _).grown HS.out.2 (by simp) (fun j hj=>by
  have:=hj
  simp[Act.eval,Value.ownBlock]at this
  omega)
 have HF:=zH (And.intro ho3 hb3);clear ho3 ha hb3 HS H1
 go_wp2
 go_ret;exact⟨_,_,rfl,HF.out.1,HF.out.2⟩
theorem az8 {w:World} {ao:Option Addr} {cap n:Nat} {c:List Ins} (h:a39 w ao c) (hn:c.length=n) (h1:1<=n) (hz:n<=5864062014805):Calls Tryz.prog 57 #[.slice ao n cap] w fun e w'=>∃ p' c',e=.returned (.slice p' n c')/\a39 w' p' c/\Blw w' (fpR p')/\Abv w.heap.size (fpR p')/\Bl w w':=by
 obtain⟨g,o,e,_,_,_,_⟩:=h 0 (by omega);subst e;refine(aA9 (xs:=c.flatMap fun i=>[Value.int .i64 i.op,.int .i64 i.n,.float .f64 i.x]) (by rw[aE7,hn]) (fun j u hj=>?_) (fun u hu=>?_) hz).mono fun e w' ⟨p',c',a1,a2,a3⟩=>?_
 ·have hjl:j<c.length*3:=by
   have:=(List.getElem?_eq_some_iff.1 hj).1;rwa[aE7]at this
  rw[aJ7 c j hjl]at hj;obtain⟨g',o',e',_,c0,c1,c2⟩:=h (j / 3) (by omega)
  cases e'
  rw[show (⟨g,o,none⟩:Addr).add j=⟨g,o+j,none⟩ by unfold Addr.add;split <;> simp_all,<- hj]
  by_cases h0:j % 3=0
  ·rw[if_pos h0,show o+j=o+j / 3*3 by omega]
   exact c0
  ·rw[if_neg h0]
   by_cases h1:j % 3=1
   ·rw[if_pos h1,show o+j=o+j / 3*3+1 by omega]
    exact c1
   ·rw[if_neg h1,show o+j=o+j / 3*3+2 by omega]
    exact c2
 ·obtain⟨i,_,hx⟩:=List.mem_flatMap.1 hu
  simp at hx
  rcases hx with rfl | rfl | rfl <;> rfl
 ·rw[<- hn]at a2
  obtain⟨b1,b2,b3⟩:=aS9 a2;exact⟨p',c',a1,b1,b2,b3,a3⟩
theorem aX7 {w:World} {ao:Option Addr} {cap:Nat} {c:List Ins} (h:a39 w ao c) (hp:Pln ao c.length cap) (hz:c.length<=5864062014805):Calls Tryz.prog 57 #[.slice ao c.length cap] w fun e w'=>∃ p' c',e=.returned (.slice p' c.length c')/\a39 w' p' c/\Blw w' (fpR p')/\Abv w.heap.size (fpR p')/\Bl w w':=by
 by_cases h1:1<=c.length
 ·exact az8 h rfl h1 hz
 ·have h0:c.length=0:=by omega
  have hC:∀ (w:World) (p:Option Addr),a39 w p c:=fun w p k hk=>by omega
  rcases hp with⟨rfl,_,rfl⟩ | ⟨g,o,sp,rfl⟩
  ·rw[h0]
   exact(aX3 w).mono fun e w' ⟨a1,a2⟩=>⟨none,0,a1,hC _ _,fun k hk=>by simp[fpR]at hk,fun k hk=>by simp[fpR]at hk,a2 ▸ zF _ _⟩
  ·refine(aA9 (xs:=[]) (by rw[h0];rfl) (fun j u hj=>by cases hj) (fun u hu=>by cases hu) (by omega)).mono fun e w' ⟨p',c',a1,a2,a3⟩=>⟨p',c',a1,hC _ _,fun k hk=>(a2.lt k (a40.1 hk)).2,fun k hk=>(a2.lt k (a40.1 hk)).1,a3⟩
theorem aX5 {w:World} {po:Option Addr} {cap:Nat} {l:List Nat} (h:FlAt w po l) (hp:Pln po l.length cap) (hz:l.length<=1024):Calls Tryz.prog 58 #[.slice po l.length cap] w fun e w'=>∃ p' c',e=.returned (.slice p' l.length c')/\RowAt 51 w' p' c' (fls l)/\Abv w.heap.size (fpR p')/\Bl w w':=by
 rcases hp with⟨rfl,h0,rfl⟩ | ⟨g,o,sp,rfl⟩
 ·obtain rfl:l=[]:=List.length_eq_zero_iff.1 h0
  exact(aA8 w).mono fun e w' ⟨a1,a2⟩=>⟨none,0,a1,⟨World.ownsRow_nil _ _ _ _⟩,fun k hk=>by simp[fpR]at hk,a2 ▸ zF _ _⟩
 ·refine(aw0 (xs:=fls l) (by rw[a30,Nat.mul_one]) (fun j u hj=>?_) (b71 l) hz).mono fun e w' ⟨p',c',a1,a2,a3⟩=>?_
  ·have hjl:j<l.length:=by
    have:=(List.getElem?_eq_some_iff.1 hj).1;rwa[a30]at this
   obtain⟨g',o',e',_,c0⟩:=h j hjl
   cases e'
   rw[add_plain,c0,<- hj];unfold fls;rw[List.getElem?_map,zG,List.getElem?_eq_getElem hjl]
   rfl
  ·obtain⟨p2,c2,e2,r1,r2⟩:=aF9 a2
   have e2:Value.slice p' l.length c'=.slice p2 l.length c2:=by rw[e2,a30]
   injection e2 with e3 _ e4;subst e3 e4;exact⟨_,_,a1,r1,r2,a3⟩
theorem bh8:(Tryz.prog.info? 83).map (fun i=>(i.zero,i.size,i.bytes))=some (some (.agg #[.int .i64 0,.slice none 0 0]),2,32):=by kernel_rfl
theorem bo0:(Tryz.prog.info? 120).map (fun i=>(i.zero,i.size,i.bytes))=some (some (.agg #[.int .i64 0,.slice none 0 0]),2,32):=by kernel_rfl
theorem bN0 (n:Nat) (hn:n<=512):∃ arr:Array Value,arr.size=n*2/\∀ w:World,(Instr.makeSlice 77 (.int .i64 (n:Int)) (.int .i64 (n:Int))).run Tryz.prog w=.ok (.slice (some ⟨w.heap.size,0,none⟩) n n) (w.alloc (.cells arr 83)):=by
 obtain⟨i,hi,hz0,hz1,hz2⟩:=info_parts bh8;refine⟨madeCells (Value.agg #[.int .i64 0,.slice none 0 0]).cells (n*i.size),by rw[size_madeCells,hz1],fun w=>?_⟩;rw[run_make w 77 83 i _ Tryz.underlying77 hi hz0 .i64 .i64 n n (by omega) (zW _) (by rw[hz2];omega) (by omega)];rw[Int.toNat_natCast]
theorem bR2 (n:Nat) (hn:n<=512):∃ arr:Array Value,arr.size=n*2/\∀ w:World,(Instr.makeSlice 25 (.int .i64 (n:Int)) (.int .i64 (n:Int))).run Tryz.prog w=.ok (.slice (some ⟨w.heap.size,0,none⟩) n n) (w.alloc (.cells arr 120)):=by
 obtain⟨i,hi,hz0,hz1,hz2⟩:=info_parts bo0;refine⟨madeCells (Value.agg #[.int .i64 0,.slice none 0 0]).cells (n*i.size),by rw[size_madeCells,hz1],fun w=>?_⟩;rw[run_make w 25 120 i _ Tryz.underlying25 hi hz0 .i64 .i64 n n (by omega) (zW _) (by rw[hz2];omega) (by omega)];rw[Int.toNat_natCast]
structure OwC (w:World) (B g n k:Nat) (l:List (Int × List Nat)) (P:Nat->Option Addr) (C:Nat->Nat):Prop where
 row:Arr w g 83 2 n k (fun j=>#[.int .i64 (l.getD j (0,[])).1,.slice (P j) (l.getD j (0,[])).2.length (C j)])
 args:∀ j,j<k->RowAt 51 w (P j) (C j) (fls (l.getD j (0,[])).2)/\Abv (g+1) (fpR (P j))
 lo:B<=g
section
variable {w w':World} {g:Nat}
theorem OwC.on {B n k:Nat} {l:List (Int × List Nat)} {P:Nat->Option Addr} {C:Nat->Nat} (h:OwC w B g n k l P C) (q:Bl w w'):OwC w' B g n k l P C:=⟨h.row.on q,fun j hj=>⟨(h.args j hj).1.on q,(h.args j hj).2⟩,h.lo⟩
theorem OwC.next {B n k:Nat} {l:List (Int × List Nat)} {P:Nat->Option Addr} {C:Nat->Nat} (h:OwC w B g n k l P C) (hk:k<n) {u:World} (q:Bl w u) {po:Option Addr} {co:Nat} (hr:RowAt 51 u po co (fls (l.getD k (0,[])).2)) (ha:Abv w.heap.size (fpR po)):∃ arr,u.heap[g]?=some (.cells arr 83 (0,0))/\k*2+2<=arr.size/\∃ P' C',OwC (u.setRow g (ae7 arr (k*2) [.int .i64 (l.getD k (0,[])).1,.slice po (l.getD k (0,[])).2.length co])) B g n (k+1) l P' C':=by
 have hu:=h.on q;have hg:=h.row.lt;obtain⟨arr,a1,a2,a3⟩:=hu.row.next hk (cs:=#[.int .i64 (l.getD k (0,[])).1,.slice po (l.getD k (0,[])).2.length co]) rfl;refine⟨arr,a1,a2,fun j=>if j=k then po else P j,fun j=>if j=k then co else C j,?_,fun j hj=>?_,h.lo⟩
 ·have e:updA (fun j=>#[.int .i64 (l.getD j (0,[])).1,.slice (P j) (l.getD j (0,[])).2.length (C j)]) k #[.int .i64 (l.getD k (0,[])).1,.slice po (l.getD k (0,[])).2.length co]=fun j=>#[Value.int .i64 (l.getD j (0,[])).1,.slice (if j=k then po else P j) (l.getD j (0,[])).2.length (if j=k then co else C j)]:=by
   funext j
   by_cases z:j=k
   ·subst z;rw[a22,if_pos rfl,if_pos rfl]
   ·rw[a34 _ _ z,if_neg z,if_neg z]
  rw[<- e];exact a3
 ·by_cases z:j=k
  ·subst z
   rw[if_pos rfl,if_pos rfl];have ha':Abv (g+1) (fpR po):=ha.mono (by omega);exact⟨hr.keep (a99 fun y=>by have:=ha' g y;omega),ha'⟩
  ·rw[if_neg z,if_neg z]
   have:=hu.args j (by omega);exact⟨this.1.keep (a99 fun y=>by have:=this.2 g y;omega),this.2⟩
theorem OwC.in_ {B n:Nat} {l:List (Int × List Nat)} {P:Nat->Option Addr} {C:Nat->Nat} (h:OwC w B g n n l P C):∃ R,Abv B R/\Blw w R/\∀ j,j<n->ClIn w R (some ⟨g,0,none⟩) j (l.getD j (0,[])):=by
 refine⟨g::(List.range n).flatMap (fun j=>fpR (P j)),fun k hk=>?_,fun k hk=>?_,fun j hj=>⟨g,rfl,by simp,?_,P j,C j,?_,(h.args j hj).1.fl,fun k hk=>?_⟩⟩
 ·simp only[List.mem_cons,List.mem_flatMap,List.mem_range]at hk
  rcases hk with rfl | ⟨j,hj,hk⟩
  ·exact h.lo
  ·have:=(h.args j hj).2 k hk
   have:=h.lo;omega
 ·simp only[List.mem_cons,List.mem_flatMap,List.mem_range]at hk
  rcases hk with rfl | ⟨j,hj,hk⟩
  ·exact h.row.lt
  ·exact(h.args j hj).1.blw k hk
 ·exact(h.row.cell (j:=0) hj (by omega)).trans rfl
 ·exact(h.row.cell (j:=1) hj (by omega)).trans rfl
 ·simp only[List.mem_cons,List.mem_flatMap,List.mem_range]
  exact .inr ⟨j,hj,hk⟩
theorem aK8 {ao:Option Addr} {cap:Nat} {l:List (Int × List Nat)} (h:CaAt w ao l) (hl:l.length<=64) (h8:∀ j,j<l.length->(l.getD j (0,[])).2.length<=8):Calls Tryz.prog 31 #[.slice ao l.length cap] w fun r w'=>∃ g,r=.returned (.slice (some ⟨g,0,none⟩) l.length l.length)/\Hid ((∃ P C,OwC w' w.heap.size g l.length l.length l P C)/\Bl w w'):=by
 obtain⟨n,hn⟩:∃ n,l.length=n:=⟨_,rfl⟩
 rw[hn]at hl h8;have hli:(n:Int)<=64:=by omega
 obtain⟨arr0,hsz,hmk⟩:=bN0 n (by omega);have HC:Hid (∀ u k,Bl w u->k<n->∃ g o po c,ao=some ⟨g,o,none⟩/\g<u.heap.size/\u.cell? ⟨g,o+k*2,none⟩=some (.int .i64 (l.getD k (0,[])).1)/\u.cell? ⟨g,o+k*2+1,none⟩=some (.slice po (l.getD k (0,[])).2.length c)/\(∀ u',Bl u u'->Calls Tryz.prog 58 #[.slice po (l.getD k (0,[])).2.length c] u' fun e w'=>∃ p' c',e=.returned (.slice p' (l.getD k (0,[])).2.length c')/\RowAt 51 w' p' c' (fls (l.getD k (0,[])).2)/\Abv u'.heap.size (fpR p')/\Bl u' w')):=fun u k hu hk=>by
  obtain⟨g,o,po,c,e,hg,c0,c1,c2,c3,_⟩:=(h.on hu) k (by omega);exact⟨g,o,po,c,e,hg,c0,c1,fun u' hu'=>aX5 (c2.on hu') c3 (by have:=h8 k hk;omega)⟩
 rw[hn];clear h h8 hn;go_enter Tryz.func31,Tryz.ntmps31;go_wp2_with fail;obtain⟨g,hg⟩:∃ g,w.heap.size=g:=⟨_,rfl⟩
 rw[hg];have H0:Hid ((∃ P C,OwC (w.alloc (.cells arr0 83)) w.heap.size g n 0 l P C)/\Bl w (w.alloc (.cells arr0 83))):=⟨⟨fun _=>none,fun _=>0,⟨⟨⟨arr0,by rw[<- hg];exact zN _ _,hsz,fun i j hi=>absurd hi (zI _)⟩,zV _,fun i hi=>absurd hi (zI _)⟩,fun i hi=>absurd hi (zI _),Nat.le_of_eq hg⟩⟩,below_alloc _ _⟩;clear hmk hsz hg
 go_loopw [11] (fun v11 wr=>∃ k:Nat,v11=.int .i64 (k:Int)/\k<=n/\Hid ((∃ P C,OwC wr w.heap.size g n k l P C)/\Bl w wr)) (fun v11 _=>n - (intOf v11).toNat)
 case atStart=>exact⟨0,rfl,zV _,H0.out⟩
 case round =>
  obtain⟨k,rfl,hk,HR⟩:=hrel;clear H0
  by_cases hlt:k<n
  ·have hlt':(k:Int)<(n:Int):=by omega
   obtain⟨⟨P,C,z1⟩,z2⟩:=HR.out;have HQ:=zH (And.intro z1 z2);obtain⟨gl,o,po,c,e,hgl,c0,c1,HCL0⟩:=HC.out wr k z2 hlt;have HCL:=zH HCL0;have HN:=zH (fun u (q:Bl wr u) po co hr ha=>z1.next hlt q (po:=po) (co:=co) hr ha);have lg:=z1.row.lt;obtain⟨x1,hx1⟩:∃ x1,(l.getD k (0,[])).1=x1:=⟨_,rfl⟩
   obtain⟨x2,hx2⟩:∃ x2,(l.getD k (0,[])).2.length=x2:=⟨_,rfl⟩
   rw[hx1]at c0 HN;rw[hx2]at c1 HCL HN;clear z1 z2 HC HR HCL0 hx1 hx2;subst e
   go_upto_region 5 with fail
   obtain⟨gb,hgb⟩:∃ gb,wr.heap.size=gb:=⟨_,rfl⟩
   obtain⟨w1,hw1⟩:∃ w1,w1=wr.alloc (.cells #[.int .i64 x1,.slice po x2 c] 83):=⟨_,rfl⟩
   rw[<- hw1,hgb];have H1:Hid (Bl wr w1/\w1.heap[gb]?=some (.cells #[.int .i64 x1,.slice po x2 c] 83 (0,0))):=by
    rw[hw1,<- hgb];exact⟨below_alloc _ _,zN _ _⟩
   have t0:=(zR w1 gb 0 _ _ _ H1.out.2).trans (rfl:_=some (Value.int .i64 x1));have t1:=(zR w1 gb 1 _ _ _ H1.out.2).trans (rfl:_=some (Value.slice po x2 c));have lgb:=lt_of_block H1.out.2;clear hw1 hgb c0 c1;refine a45 (fun u=>u.cell? ⟨gb,0,none⟩=some (.int .i64 x1)/\u.cell? ⟨gb,1,none⟩=some (.slice po x2 c) )  ((0,true)::(1,true)::(2,true)::(3,true)::(4,true)::(5,true)::(6,false)::(7,true)::(8,true)::(9,false)::[])  Md.Cv.follows13 (by kernel_rfl) (fun _ _ _ _ _ h=>h)  ⟨t0,t1⟩ ?_
   (repeat (refine a31 (v:=?_) rfl (by rfl) (fun wq hSq=>?_) ?_;rotate_left;(focus ((try dsimp only at hSq);go_simp;try with_reducible rfl));simp only[Act.put,zA,zB,zC]))
   (refine a27 rfl (by rfl) (fun KK hK=>?_);go_simp)
   refine(HCL.out _ (H1.out.1.trans ((Same.drew w1).below _))).mono ?_;rintro r u2 ⟨p',c',rfl,q1,q2,q3⟩;have B2:Hid (Bl wr u2/\Bl w1 u2):=⟨(H1.out.1.trans ((Same.drew w1).below _)).trans (q3.mono H1.out.1.size),((Same.drew w1).below _).trans q3⟩;obtain⟨arr,a1,a2,P',C',a3⟩:=HN.out u2 B2.out.1 p' c' q1 (q2.mono H1.out.1.size);have HZ:=zH a3;have hb2:u2.heap[gb]?=some (.cells #[.int .i64 x1,.slice po x2 c] 83 (0,0)):=(B2.out.2.block _ lgb).trans H1.out.2;refine hK.out _ _ (fun _=>⟨(zR u2 gb 0 _ _ _ hb2).trans rfl,(zR u2 gb 1 _ _ _ hb2).trans rfl⟩) ?_;clear q1 q2 q3 a3 hb2
   (clear hK KK;try simp only[Act.put,zA,zB,zC])
   (repeat (refine a31 (v:=?_) rfl (by rfl) (fun wq hSq=>?_) ?_;rotate_left;(focus ((try dsimp only at hSq);go_simp;try with_reducible rfl));simp only[Act.put,zA,zB,zC]))
   refine a27 rfl (by rfl) (fun KK hK=>?_);refine ah6 83 _ _ rfl g (k*2) #[.int .i64 x1,.slice p' x2 c'] rfl rfl _ arr a1 (by kernel_rfl) a2 (by simp[Value.oneCell']) ?_;refine hK.out _ _ (fun hn=>absurd rfl hn) ?_
   (clear hK KK;try simp only[Act.put])
   refine a84 ?_;go_wp2_with fail;exact⟨⟨k+1,by first | rfl | (congr 1),by omega,⟨P',C',HZ.out⟩,Md.Ce.bl_setRow (HQ.out.2.trans (B2.out.1.mono HQ.out.2.size)) HQ.out.1.lo _⟩,by simp[intOf];omega⟩
  ·obtain rfl:k=n:=by omega
   have hlt':¬ (k:Int)<(k:Int):=by omega
   clear HC;go_wp2_with fail;go_ret;exact⟨g,rfl,HR.out⟩
end
structure OwP (w:World) (B g n k:Nat) (l:List (Int × List Ins)) (P:Nat->Option Addr) (C:Nat->Nat):Prop where
 row:Arr w g 120 2 n k (fun j=>#[.int .i64 (l.getD j (0,[])).1,.slice (P j) (l.getD j (0,[])).2.length (C j)])
 args:∀ j,j<k->(a39 w (P j) (l.getD j (0,[])).2/\Blw w (fpR (P j)))/\Abv (g+1) (fpR (P j))
 lo:B<=g
section
variable {w w':World} {g:Nat}
theorem OwP.on {B n k:Nat} {l:List (Int × List Ins)} {P:Nat->Option Addr} {C:Nat->Nat} (h:OwP w B g n k l P C) (q:Bl w w'):OwP w' B g n k l P C:=⟨h.row.on q,fun j hj=>⟨⟨(h.args j hj).1.1.on q,fun i hi=>zL ((h.args j hj).1.2 i hi) q.size⟩,(h.args j hj).2⟩,h.lo⟩
theorem OwP.next {B n k:Nat} {l:List (Int × List Ins)} {P:Nat->Option Addr} {C:Nat->Nat} (h:OwP w B g n k l P C) (hk:k<n) {u:World} (q:Bl w u) {po:Option Addr} {co:Nat} (hr:a39 u po (l.getD k (0,[])).2) (hb:Blw u (fpR po)) (ha:Abv w.heap.size (fpR po)):∃ arr,u.heap[g]?=some (.cells arr 120 (0,0))/\k*2+2<=arr.size/\∃ P' C',OwP (u.setRow g (ae7 arr (k*2) [.int .i64 (l.getD k (0,[])).1,.slice po (l.getD k (0,[])).2.length co])) B g n (k+1) l P' C':=by
 have hu:=h.on q;have hg:=h.row.lt;obtain⟨arr,a1,a2,a3⟩:=hu.row.next hk (cs:=#[.int .i64 (l.getD k (0,[])).1,.slice po (l.getD k (0,[])).2.length co]) rfl;refine⟨arr,a1,a2,fun j=>if j=k then po else P j,fun j=>if j=k then co else C j,?_,fun j hj=>?_,h.lo⟩
 ·have e:updA (fun j=>#[.int .i64 (l.getD j (0,[])).1,.slice (P j) (l.getD j (0,[])).2.length (C j)]) k #[.int .i64 (l.getD k (0,[])).1,.slice po (l.getD k (0,[])).2.length co]=fun j=>#[Value.int .i64 (l.getD j (0,[])).1,.slice (if j=k then po else P j) (l.getD j (0,[])).2.length (if j=k then co else C j)]:=by
   funext j
   by_cases z:j=k
   ·subst z;rw[a22,if_pos rfl,if_pos rfl]
   ·rw[a34 _ _ z,if_neg z,if_neg z]
  rw[<- e];exact a3
 ·by_cases z:j=k
  ·subst z
   rw[if_pos rfl];have ha':Abv (g+1) (fpR po):=ha.mono (by omega);exact⟨⟨aw1 hr (a99 fun y=>by have:=ha' g y;omega),fun i hi=>by have:=hb i hi;simpa using this⟩,ha'⟩
  ·rw[if_neg z]
   have:=hu.args j (by omega);exact⟨⟨aw1 this.1.1 (a99 fun y=>by have:=this.2 g y;omega),fun i hi=>by have:=this.1.2 i hi;simpa using this⟩,this.2⟩
theorem OwP.in_ {B n:Nat} {l:List (Int × List Ins)} {P:Nat->Option Addr} {C:Nat->Nat} (h:OwP w B g n n l P C) (hl:∀ j,j<n->(l.getD j (0,[])).2.length<=9223372036854775807):∃ R,Abv B R/\Blw w R/\g∈R/\∀ j,j<n->PgIn w R g j (l.getD j (0,[])):=by
 refine⟨g::(List.range n).flatMap (fun j=>fpR (P j)),fun k hk=>?_,fun k hk=>?_,by simp,fun j hj=>⟨by simp,?_,P j,C j,?_,(h.args j hj).1.1,fun k hk=>?_,hl j hj⟩⟩
 ·simp only[List.mem_cons,List.mem_flatMap,List.mem_range]at hk
  rcases hk with rfl | ⟨j,hj,hk⟩
  ·exact h.lo
  ·have:=(h.args j hj).2 k hk
   have:=h.lo;omega
 ·simp only[List.mem_cons,List.mem_flatMap,List.mem_range]at hk
  rcases hk with rfl | ⟨j,hj,hk⟩
  ·exact h.row.lt
  ·exact(h.args j hj).1.2 k hk
 ·exact(h.row.cell (j:=0) hj (by omega)).trans rfl
 ·exact(h.row.cell (j:=1) hj (by omega)).trans rfl
 ·simp only[List.mem_cons,List.mem_flatMap,List.mem_range]
  exact .inr ⟨j,hj,hk⟩
theorem ay2 {ao:Option Addr} {cap:Nat} {l:List (Int × List Ins)} (h:PrAt w ao l) (hl:l.length<=64):Calls Tryz.prog 30 #[.slice ao l.length cap] w fun r w'=>∃ g,r=.returned (.slice (some ⟨g,0,none⟩) l.length l.length)/\Hid ((∃ P C,OwP w' w.heap.size g l.length l.length l P C)/\Bl w w'):=by
 obtain⟨n,hn⟩:∃ n,l.length=n:=⟨_,rfl⟩
 rw[hn]at hl;have hli:(n:Int)<=64:=by omega
 obtain⟨arr0,hsz,hmk⟩:=bR2 n (by omega);have HC:Hid (∀ u k,Bl w u->k<n->∃ g o po c,ao=some ⟨g,o,none⟩/\g<u.heap.size/\u.cell? ⟨g,o+k*2,none⟩=some (.int .i64 (l.getD k (0,[])).1)/\u.cell? ⟨g,o+k*2+1,none⟩=some (.slice po (l.getD k (0,[])).2.length c)/\(∀ u',Bl u u'->Calls Tryz.prog 57 #[.slice po (l.getD k (0,[])).2.length c] u' fun e w'=>∃ p' c',e=.returned (.slice p' (l.getD k (0,[])).2.length c')/\a39 w' p' (l.getD k (0,[])).2/\Blw w' (fpR p')/\Abv u'.heap.size (fpR p')/\Bl u' w')):=fun u k hu hk=>by
  obtain⟨g,o,po,c,e,hg,c0,c1,c2,c3,c4⟩:=(h.on hu) k (by omega);exact⟨g,o,po,c,e,hg,c0,c1,fun u' hu'=>aX7 (c2.on hu') c3 c4⟩
 rw[hn];clear h hn;go_enter Tryz.func30,Tryz.ntmps30;go_wp2_with fail;obtain⟨g,hg⟩:∃ g,w.heap.size=g:=⟨_,rfl⟩
 rw[hg];have H0:Hid ((∃ P C,OwP (w.alloc (.cells arr0 120)) w.heap.size g n 0 l P C)/\Bl w (w.alloc (.cells arr0 120))):=⟨⟨fun _=>none,fun _=>0,⟨⟨⟨arr0,by rw[<- hg];exact zN _ _,hsz,fun i j hi=>absurd hi (zI _)⟩,zV _,fun i hi=>absurd hi (zI _)⟩,fun i hi=>absurd hi (zI _),Nat.le_of_eq hg⟩⟩,below_alloc _ _⟩;clear hmk hsz hg
 go_loopw [11] (fun v11 wr=>∃ k:Nat,v11=.int .i64 (k:Int)/\k<=n/\Hid ((∃ P C,OwP wr w.heap.size g n k l P C)/\Bl w wr)) (fun v11 _=>n - (intOf v11).toNat)
 case atStart=>exact⟨0,rfl,zV _,H0.out⟩
 case round =>
  obtain⟨k,rfl,hk,HR⟩:=hrel;clear H0
  by_cases hlt:k<n
  ·have hlt':(k:Int)<(n:Int):=by omega
   obtain⟨⟨P,C,z1⟩,z2⟩:=HR.out;have HQ:=zH (And.intro z1 z2);obtain⟨gl,o,po,c,e,hgl,c0,c1,HCL0⟩:=HC.out wr k z2 hlt;have HCL:=zH HCL0;have HN:=zH (fun u (q:Bl wr u) po co hr hb ha=>z1.next hlt q (po:=po) (co:=co) hr hb ha);have lg:=z1.row.lt;obtain⟨x1,hx1⟩:∃ x1,(l.getD k (0,[])).1=x1:=⟨_,rfl⟩
   obtain⟨x2,hx2⟩:∃ x2,(l.getD k (0,[])).2.length=x2:=⟨_,rfl⟩
   rw[hx1]at c0 HN;rw[hx2]at c1 HCL HN;clear z1 z2 HC HR HCL0 hx1 hx2;subst e
   go_upto_region 5 with fail
   obtain⟨gb,hgb⟩:∃ gb,wr.heap.size=gb:=⟨_,rfl⟩
   obtain⟨w1,hw1⟩:∃ w1,w1=wr.alloc (.cells #[.int .i64 x1,.slice po x2 c] 120):=⟨_,rfl⟩
   rw[<- hw1,hgb];have H1:Hid (Bl wr w1/\w1.heap[gb]?=some (.cells #[.int .i64 x1,.slice po x2 c] 120 (0,0))):=by
    rw[hw1,<- hgb];exact⟨below_alloc _ _,zN _ _⟩
   have t0:=(zR w1 gb 0 _ _ _ H1.out.2).trans (rfl:_=some (Value.int .i64 x1));have t1:=(zR w1 gb 1 _ _ _ H1.out.2).trans (rfl:_=some (Value.slice po x2 c));have lgb:=lt_of_block H1.out.2;clear hw1 hgb c0 c1;refine a45 (fun u=>u.cell? ⟨gb,0,none⟩=some (.int .i64 x1)/\u.cell? ⟨gb,1,none⟩=some (.slice po x2 c) )  ((0,true)::(1,true)::(2,true)::(3,true)::(4,true)::(5,true)::(6,false)::(7,true)::(8,true)::(9,false)::[])  Md.Cv.follows13 (by kernel_rfl) (fun _ _ _ _ _ h=>h)  ⟨t0,t1⟩ ?_
   (repeat (refine a31 (v:=?_) rfl (by rfl) (fun wq hSq=>?_) ?_;rotate_left;(focus ((try dsimp only at hSq);go_simp;try with_reducible rfl));simp only[Act.put,zA,zB,zC]))
   (refine a27 rfl (by rfl) (fun KK hK=>?_);go_simp)
   refine(HCL.out _ (H1.out.1.trans ((Same.drew w1).below _))).mono ?_;rintro r u2 ⟨p',c',rfl,q1,qb,q2,q3⟩;have B2:Hid (Bl wr u2/\Bl w1 u2):=⟨(H1.out.1.trans ((Same.drew w1).below _)).trans (q3.mono H1.out.1.size),((Same.drew w1).below _).trans q3⟩;obtain⟨arr,a1,a2,P',C',a3⟩:=HN.out u2 B2.out.1 p' c' q1 qb (q2.mono H1.out.1.size);have HZ:=zH a3;have hb2:u2.heap[gb]?=some (.cells #[.int .i64 x1,.slice po x2 c] 120 (0,0)):=(B2.out.2.block _ lgb).trans H1.out.2;refine hK.out _ _ (fun _=>⟨(zR u2 gb 0 _ _ _ hb2).trans rfl,(zR u2 gb 1 _ _ _ hb2).trans rfl⟩) ?_;clear q1 qb q2 q3 a3 hb2
   (clear hK KK;try simp only[Act.put,zA,zB,zC])
   (repeat (refine a31 (v:=?_) rfl (by rfl) (fun wq hSq=>?_) ?_;rotate_left;(focus ((try dsimp only at hSq);go_simp;try with_reducible rfl));simp only[Act.put,zA,zB,zC]))
   refine a27 rfl (by rfl) (fun KK hK=>?_);refine ah6 120 _ _ rfl g (k*2) #[.int .i64 x1,.slice p' x2 c'] rfl rfl _ arr a1 (by kernel_rfl) a2 (by simp[Value.oneCell']) ?_;refine hK.out _ _ (fun hn=>absurd rfl hn) ?_
   (clear hK KK;try simp only[Act.put])
   refine a84 ?_;go_wp2_with fail;exact⟨⟨k+1,by first | rfl | (congr 1),by omega,⟨P',C',HZ.out⟩,Md.Ce.bl_setRow (HQ.out.2.trans (B2.out.1.mono HQ.out.2.size)) HQ.out.1.lo _⟩,by simp[intOf];omega⟩
  ·obtain rfl:k=n:=by omega
   have hlt':¬ (k:Int)<(k:Int):=by omega
   clear HC;go_wp2_with fail;go_ret;exact⟨g,rfl,HR.out⟩
end
end Go.Proofs.YtkihgongjedheaaGreatDoor.En
namespace Go.Proofs.YtkihgongjedheaaGreatDoor
section
variable {P:Program} {ops:Array Oper} {Q:Exit->Act->World->Prop} {md:Region.Mode} {S:World->Prop}
def b18 (P:Program) (ops:Array Oper) (Q:Exit->Act->World->Prop) (S:World->Prop) (i:Nat) (ri:List (Nat × Bool)) (j:Nat) (rj:List (Nat × Bool)):List Nat->Act->World->Prop
 | [],a,w=>wpOp P ops Q i (fun a' w'=>S w'/\ah5 P ops Q S ri a' w') a w/\wpOp P ops Q j (fun a' w'=>S w'/\ah5 P ops Q S rj a' w') a w
 | x::rest,a,w=>∃ o v,ops[x]?=some o/\YieldsIf P ops S o v a/\b18 P ops Q S i ri j rj rest (a.put o.dst v) w
def twoB (md:Region.Mode) (ops:Array Oper) (i:Nat) (ri:List (Nat × Bool)) (j:Nat) (rj:List (Nat × Bool)):Array Bool->List Nat->Bool
 | listed,[]=>Region.ready md ops listed == [i,j] && seqB md ops (listed.setIfInBounds i true) ri && seqB md ops (listed.setIfInBounds j true) rj
 | listed,x::rest=>(Region.ready md ops listed).contains x && Region.free md ops listed x && twoB md ops i ri j rj (listed.setIfInBounds x true) rest
theorem aq6 (hs:Region.noSelect ops=true) (hQ:∀ c t t' d w,Q (.panic c) ⟨t,d⟩ w->Q (.panic c) ⟨t',d⟩ w) {i j:Nat} {ri rj:List (Nat × Bool)} (hlen:rj.length=ri.length):∀ (l:List Nat) (listed:Array Bool) (a:Act) (w:World),twoB md ops i ri j rj listed l=true->S w->b18 P ops Q S i ri j rj l a w->wpAnyH P md ops Q S (ri.length+1+l.length) listed a w
 | [],listed,a,w,hb,_,h=>by
  simp only[twoB,Bool.and_eq_true,beq_iff_eq]at hb;refine wpAnyH_all (rs:=[i,j]) hb.1.1 (by simp) fun x hx=>?_
  by_cases e:x=i
  ·subst e
   exact wpOp_mono (fun a' w' h'=>⟨h'.1,a69 hs hQ ri _ _ _ hb.1.2 h'.1 h'.2⟩) h.1
  ·have e2:x=j:=by simpa[e]using hx
   subst e2;refine wpOp_mono (fun a' w' h'=>⟨h'.1,?_⟩) h.2;have:=a69 (Q:=Q) hs hQ rj _ _ _ hb.2 h'.1 h'.2;rw[hlen]at this;exact this
 | x::rest,listed,a,w,hb,hS,h=>by
  simp only[twoB,Bool.and_eq_true]at hb;obtain⟨o,v,ho,hy,hr⟩:=h;exact wpAnyH_take ho hs hb.1.2 hb.1.1 (fun c a w h=>ap2 hQ h) hy hS (aq6 hs hQ hlen rest _ _ _ hb.2 hS hr)
theorem aH0 {id:Nat} {a:Act} {w:World} (S:World->Prop) (l:List Nat) (i:Nat) (ri:List (Nat × Bool)) (j:Nat) (rj:List (Nat × Bool)) (hm:P.follows .mixedOrders=true) (hb:(Region.noSelect ops && rj.length == ri.length && ri.length+1+l.length == ops.size && twoB .any ops i ri j rj (Array.replicate ops.size false) l)=true) (hQ:∀ c t t' d w,Q (.panic c) ⟨t,d⟩ w->Q (.panic c) ⟨t',d⟩ w) (hS:S w.drew) (h:b18 P ops Q S i ri j rj l a w.drew):(Code.region id ops true).wp P Q a w:=by
 simp only[Bool.and_eq_true,beq_iff_eq]at hb;refine wp_region_held (S:=S) hm ?_;rw[<- hb.1.2];have:=aq6 (Q:=Q) (S:=S) hb.1.1.1 hQ hb.1.1.2 l _ a w.drew hb.2 hS h;rw[<- hb.1.2]at this;exact this
theorem b19 {x i j:Nat} {ri rj:List (Nat × Bool)} {rest:List Nat} {o:Oper} {v:Value} {a:Act} {w:World} (ho:nth ops.toList x=some o) (hw:Region.wanted o (yielded ops a.tmps)=true) (hy:∀ w,S w->(execOp a.eval o).run P w=.ok (.value v) w) (h:b18 P ops Q S i ri j rj rest (a.put o.dst v) w):b18 P ops Q S i ri j rj (x::rest) a w:=⟨o,v,aK5 ho,.inl ⟨hw,hy⟩,h⟩
theorem bg3 {i j:Nat} {ri rj:List (Nat × Bool)} {a:Act} {w:World} (h1:ah5 P ops Q S ((i,false)::ri) a w) (h2:ah5 P ops Q S ((j,false)::rj) a w):b18 P ops Q S i ri j rj [] a w:=⟨h1,h2⟩
end
end Go.Proofs.YtkihgongjedheaaGreatDoor
namespace Go.Proofs.YtkihgongjedheaaGreatDoor.En
open Go.ChangeShapes Go.WideShapes Go.ChangeAt Go.RowKit Num Ww
open Rr (Rx a16 InX okW u64B Alike step_in newX a44)
theorem aG1 {ws:List Int} {i x:Int} (h:okW ws) (hx:u64B x):okW (Md.poked ws i x)/\(Md.poked ws i x).length=ws.length:=by
 unfold Md.poked
 split
 ·refine⟨fun v hv=>?_,List.length_set ..⟩
  rcases List.mem_or_eq_of_mem_set hv with q | q
  ·exact h v q
  ·rw[q];exact hx
 ·exact⟨h,rfl⟩
theorem bj8 {x:Nat} (h:x<18446744073709551616):u64B (fixB x:Int):=by
 have:=(a88 h).2;unfold u64B;omega
theorem aM2 {ws:List Int} {p:Int} {l:List Nat} (h:okW ws) (hl:∀ x∈l,x<18446744073709551616):∀ k,okW (Md.Ce.startL ws p l k)/\(Md.Ce.startL ws p l k).length=ws.length
 | 0=>⟨h,rfl⟩
 | k+1=>by
  obtain⟨h1,h2⟩:=aM2 h hl k;have hx:u64B (fixB (l.getD k 0):Int):=bj8 (by
   rw[zG]
   cases e:l[k]? with
   | none=>decide
   | some x=>exact hl x (List.mem_of_getElem? e))
  have z:u64B 0:=by unfold u64B;omega
  have a:=aG1 (i:=Md.Ce.placeI p k 0) h1 z;have b:=aG1 (i:=Md.Ce.placeI p k 1) a.1 hx;have c:=aG1 (i:=Md.Ce.placeI p k 2) b.1 z;exact⟨c.1,c.2.trans (b.2.trans (a.2.trans h2))⟩
theorem aq4 {s:Su} (hs:SuIn s):okW (aa1 s)/\((aa1 s).length:Int)=3+s.b+3*s.a:=by
 have hz:okW (List.replicate (3+s.b+3*s.a).toNat 0):=fun v hv=>by
  rw[(List.mem_replicate.1 hv).2];unfold u64B;omega
 have:=hs.b8;have:=hs.a256;unfold aa1 Md.Ce.startW
 split
 ·obtain⟨h1,h2⟩:=aM2 (p:=3+s.b) hz hs.st s.st.length
  refine⟨h1,?_⟩;rw[h2,List.length_replicate];omega
 ·refine⟨hz,?_⟩
  rw[List.length_replicate];omega
theorem bv3:∀ n,su (fun _=>0) n=0
 | 0=>rfl
 | n+1=>by show su (fun _=>0) n+0=0;rw[bv3 n]
theorem WI0 {s:Su} (hs:SuIn s):WI s (X0 s) :=
 ⟨rfl,rfl,rfl,(aq4 hs).1,(aq4 hs).2,fun t y _ h=>(by cases h),fun t _=>zV _,(bv3 _).symm,fun t y _ h=>(by cases h),fun i hi=>absurd hi (zI _),fun i hi=>absurd hi (zI _)⟩
section
variable {w:World} {s:Su} {p:Sp}
theorem bB0 (h:SuAt w s p) (he:¬ errS s=0):Calls Tryz.prog 10 #[.agg (suC s p)] w fun r w'=>r=.returned (.tuple #[.pointer none,.int .i64 (errS s)])/\Bl w w':=by
 have HB:=zH (aR2 w s p);have HF:=zH (aI9 (h.on HB.out.1));obtain⟨e,hee⟩:∃ e,errS s=e:=⟨_,rfl⟩
 rw[hee]at HF he ⊢;have heb:(e != 0)=true:=by simpa using he
 clear h hee he;go_enter Tryz.func10,Tryz.ntmps10
 go_wp2_with (go_at_call 25;refine HF.out.mono ?_;rintro r u1 ⟨rfl,q⟩;have H1:=zH q;clear q HF)
 go_ret2;exact⟨rfl,HB.out.1.trans (H1.out.mono HB.out.1.size)⟩
theorem bA1 {z:Array Value} {sz m k j:Nat} (hz:z.size=sz) (hk:k<m) (hj:j<sz):(madeCells z (m*sz))[k*sz+j]?=z[j]?:=by
 have hi:=b31 hk hj (zE _);have hm:(k*sz+j) % sz=j:=by rw[Nat.mul_comm,Nat.mul_add_mod,Nat.mod_eq_of_lt hj]
 rw[Array.getElem?_eq_getElem (by rw[size_madeCells];exact hi),Array.getElem?_eq_getElem (by omega)];simp only[madeCells,Array.getElem_map,Array.getElem_range,hz,hm];rw[getElem!_pos z j (by omega)]
theorem bG8 (n:Nat) (hn:n<=8):∃ arr:Array Value,arr.size=n*3/\(∀ i j,i<n->j<3->arr[i*3+j]?=(#[Value.slice none 0 0,.int .i64 0,.int .i64 0]:Array Value)[j]?)/\∀ w:World,(Instr.makeSlice 73 (.int .i64 (n:Int)) (.int .i64 (n:Int))).run Tryz.prog w=.ok (.slice (some ⟨w.heap.size,0,none⟩) n n) (w.alloc (.cells arr 79)):=by
 have info:(Tryz.prog.info? 79).map (fun i=>(i.zero,i.size,i.bytes))=some (some (.agg #[.slice none 0 0,.int .i64 0,.int .i64 0]),3,40):=by kernel_rfl
 obtain⟨i,hi,hz0,hz1,hz2⟩:=info_parts info;refine⟨madeCells (Value.agg #[.slice none 0 0,.int .i64 0,.int .i64 0]).cells (n*i.size),by rw[size_madeCells,hz1],fun k j hk hj=>?_,fun w=>?_⟩
 ·rw[hz1]
  exact bA1 (z:=#[.slice none 0 0,.int .i64 0,.int .i64 0]) rfl hk hj
 ·rw[run_make w 73 79 i _ Tryz.underlying73 hi hz0 .i64 .i64 n n (by omega) (zW _) (by rw[hz2];omega) (by omega)]
  rw[Int.toNat_natCast]
end
theorem af4 (ws:List Int) (i x:Int):(Md.poked ws i x).length=ws.length:=by
 unfold Md.poked
 split
 ·exact List.length_set ..
 ·rfl
theorem aG0 {ws:List Int} {i:Int} (x:Int) (h0:0<=i) (h1:i<(ws.length:Int)) (j:Int) (hj:0<=j):wordAt (Md.poked ws i x) j=if j=i then x else wordAt ws j:=by
 unfold Md.poked hasB;rw[if_pos (zT ⟨h0,h1⟩)];unfold wordAt;rw[zG,List.getElem?_set]
 by_cases e:j=i
 ·subst e
  rw[if_pos rfl,if_pos (by omega),if_pos rfl]
  rfl
 ·rw[if_neg (by omega),if_neg e,zG]
theorem ak4 {p c j:Int} (h:0<=p/\p<=4096):Md.Ce.placeI p c j=p+3*c+j:=if_pos h
theorem aV8 {N:Nat} {p:Int} {l:List Nat} (hp:0<=p/\p<=4096):∀ k:Nat,p+3*(k:Int)<=(N:Int)->(Md.Ce.startL (List.replicate N 0) p l k).length=N/\∀ j:Int,0<=j->wordAt (Md.Ce.startL (List.replicate N 0) p l k) j=if p<=j/\(j - p) % 3=1/\(j - p) / 3<(k:Int) then (fixB (l.getD ((j - p) / 3).toNat 0):Int) else 0
 | 0,_=>⟨List.length_replicate,fun j hj=>by
   rw[if_neg (by omega)]
   show wordAt (List.replicate N 0) j=0
   unfold wordAt;rw[zG,List.getElem?_replicate]
   split <;> rfl⟩
 | k+1,hk=>by
  obtain⟨h1,h2⟩:=aV8 (N:=N) (l:=l) hp k (by omega);obtain⟨ws,hws⟩:∃ ws,Md.Ce.startL (List.replicate N 0) p l k=ws:=⟨_,rfl⟩
  have e:Md.Ce.startL (List.replicate N 0) p l (k+1)=Md.poked (Md.poked (Md.poked ws (p+3*(k:Int)+0) 0) (p+3*(k:Int)+1) (fixB (l.getD k 0):Int)) (p+3*(k:Int)+2) 0:=by
   show Md.Ce.laidC (Md.Ce.startL (List.replicate N 0) p l k) p k (l.getD k 0)=_
   unfold Md.Ce.laidC;rw[hws,ak4 hp,ak4 hp,ak4 hp]
  rw[hws]at h1 h2;rw[e];refine⟨by rw[af4,af4,af4,h1],fun j hj=>?_⟩;rw[aG0 _ (by omega) (by rw[af4,af4,h1];omega) j hj,aG0 _ (by omega) (by rw[af4,h1];omega) j hj,aG0 _ (by omega) (by rw[h1];omega) j hj,h2 j hj]
  by_cases c2:j=p+3*(k:Int)+2
  ·rw[if_pos c2,if_neg (by omega)]
  ·rw[if_neg c2]
   by_cases c1:j=p+3*(k:Int)+1
   ·rw[if_pos c1,if_pos (by omega),show ((j - p) / 3).toNat=k by omega]
   ·rw[if_neg c1]
    by_cases c0:j=p+3*(k:Int)+0
    ·rw[if_pos c0,if_neg (by omega)]
    ·rw[if_neg c0]
     by_cases q:p<=j/\(j - p) % 3=1/\(j - p) / 3<(k:Int)
     ·rw[if_pos q,if_pos (by omega)]
     ·rw[if_neg q,if_neg (by omega)]
theorem aq3 {s:Su} (hs:SuIn s) (j:Int) (hj:0<=j):wordAt (aa1 s) j=if 3+s.b<=j/\(j - (3+s.b)) % 3=1/\(j - (3+s.b)) / 3<(s.st.length:Int) then (fixB (s.st.getD ((j - (3+s.b)) / 3).toNat 0):Int) else 0:=by
 have b8:=hs.b8;have a256:=hs.a256;have sl:=hs.sl;have e0:Md.Ce.startE (List.replicate (3+s.b+3*s.a).toNat 0) (3+s.b) s.st=0:=by
  unfold Md.Ce.startE;rw[if_neg (by omega),if_pos];rw[List.all_eq_true];intro i hi;have hi:=List.mem_range.1 hi;unfold Md.Ce.okP hasB;rw[ak4 ⟨by omega,by omega⟩,ak4 ⟨by omega,by omega⟩,ak4 ⟨by omega,by omega⟩,List.length_replicate]
  simp
  omega
 unfold aa1 Md.Ce.startW;rw[if_pos e0];exact(aV8 ⟨by omega,by omega⟩ _ (by omega)).2 j hj
def S0 (s:Su):List Nat:=(List.range s.a.toNat).map fun c=>fixB (s.st.getD c 0)
theorem bD7 {s:Su} (hs:SuIn s) (c:Nat):s.st.getD c 0<18446744073709551616:=by
 rw[zG]
 cases e:s.st[c]? with
 | none=>decide
 | some x=>exact hs.st x (List.mem_of_getElem? e)
theorem EI0 {s:Su} (hs:SuIn s):EI (E0 s) (fun _=>S0 s) 0:=by
 have b8:=hs.b8;have a256:=hs.a256;have nb:=hs.nb;refine EI.fresh (fun _=>rfl) (fun _=>rfl) rfl rfl hs.nb.symm (aq4 hs).2 (aq4 hs).1 (fun p p0 p1=>?_) (fun c c0 c1=>?_) ⟨?_,fun x hx=>?_⟩ (fun c c0 c1=>?_) (fun t j ht hj=>?_) ?_
 ·have p1:p<3+s.b:=p1
  show wordAt (aa1 s) p=0
  rw[aq3 hs p p0,if_neg (by omega)]
 ·have c1:c<s.a:=c1
  show wordAt (aa1 s) (3+s.b+3*c)=0
  rw[aq3 hs _ (by omega),if_neg (by omega)]
 ·show ((S0 s).length:Int)=s.a
  simp[S0]
  omega
 ·obtain⟨c,_,rfl⟩:=List.mem_map.1 hx
  exact a88 (bD7 hs c)
 ·have c1:c<s.a:=c1
  have e:Sx.getV (S0 s) c=fixB (s.st.getD c.toNat 0):=by
   unfold Sx.getV Sx.hasN S0
   simp[show c.toNat<s.a.toNat by omega,show 0<=c from c0,show c<max s.a 0 by omega]
  show fixB (wordAt (aa1 s) (3+s.b+3*c+1)).toNat=_
  rw[aq3 hs _ (by omega),e]
  by_cases q:c<(s.st.length:Int)
  ·rw[if_pos (by omega),show ((3+s.b+3*c+1 - (3+s.b)) / 3).toNat=c.toNat by omega,Int.toNat_natCast]
   exact(a88 (bD7 hs c.toNat)).1
  ·rw[if_neg (by omega),zG,List.getElem?_eq_none (by omega)]
   rfl
 ·have hj:j<(s.cs t).length:=hj
  obtain⟨n1,_⟩:=bm9 hs ht hj
  show bv4 ⟨s.a,s.b⟩ t (some (newT s t (s.call t j)))
  revert n1
  unfold newT
  split
  ·rintro⟨k1,k2,k3,k4,_⟩
   exact .inr ⟨_,rfl,k1,k2,k3,k4,rfl,rfl,rfl⟩
  ·rintro⟨k1,k2,k3,k4⟩
   exact .inl ⟨_,rfl,k1,k2,k3,k4,rfl,rfl,rfl⟩
 ·show su (fun t=>(s.cs t).length) s.n<=1000000
  have:=be5 (f:=fun t=>(s.cs t).length) (m:=64) s.n (fun i _=>hs.few i);omega
theorem HA0 {s:Su} (hs:SuIn s):HA (X0 s).H (fun _=>S0 s) 0 (fun _=>0) (fun _=>0):=by
 obtain⟨h1,h2,h3⟩:=HI.fresh (H:=(X0 s).H) (EI0 hs) (fun _=>rfl) (fun _=>rfl) rfl rfl;have b8:=hs.b8;have a256:=hs.a256;refine⟨h1,h2,h3,fun i m x hi=>absurd hi (zI _),fun c c0 c1=>?_,fun t j m x ht hj e=>?_⟩
 ·have c1:c<s.a:=c1
  show okN (wordAt (aa1 s) (3+s.b+3*c+1)).toNat
  rw[aq3 hs _ (by omega)]
  split
  ·rw[Int.toNat_natCast]
   exact a88 (bD7 hs _)
  ·exact⟨by decide,by decide⟩
 ·have e:some (newT s t (s.call t j))=Tx.wr m x:=e
  have e:=Option.some.inj e;unfold newT at e
  split at e
  ·cases e
   rfl
  ·cases e
def TgOk:Ty->Prop
 | .inl (_,x)=>x.tag≠2
 | .inr (_,x)=>x.tag=2
structure TG (s:Su) (X:Rs):Prop where
 T:∀ t y,t<s.n->X.H.E.T t=some y->TgOk y
 D:∀ i,i<X.H.dn->TgOk (X.H.D i).tx
theorem bL0 (s:Su) (t:Nat) (x:Int × List Nat):TgOk (newT s t x):=by
 unfold newT
 split
 ·next h=>exact h
 ·next h=>exact h
theorem bK9 {s:Su} {t:Nat} {N:Int} {y:Ty} {ws:List Int} (h:TIn s t N y) (ho:a38 y=false) (hw:okW ws) (g:TgOk y):TgOk (goS y ws):=by
 rcases y with⟨m,x⟩ | ⟨m,x⟩
 ·have:=(step_in h.1 (zM ho) hw).2.1.tag
  show (a16 x ws).1.tag≠2
  rw[this];exact g
 ·have:=(a82 h.1 (zM ho) hw).2.1.tag
  show (a06 x ws).1.tag=2
  rw[this];exact g
section
variable {s:Su} {Z:Es} {t:Nat}
theorem TG.came {X':Rs} {y:Ty} {T:Nat->Tx} {B at_:Nat->Nat} {D:Nat->Dd} {dn i:Nat} (c:Came Z.X X' t y T B at_ D dn i) (hT:∀ u y',u≠t->u<s.n->T u=some y'->TgOk y') (hD:∀ k,k≠i->k<dn->TgOk (D k).tx) (hy:TgOk (goS y Z.X.H.E.ws)):TG s X':=by
 refine⟨fun u y' hu q=>?_,fun k hk=>?_⟩
 ·rw[c.T]at q
  by_cases e:u=t
  ·subst e
   rw[a10]at q
   split at q
   ·cases q
   ·cases q
    exact hy
  ·rw[a21 _ _ e]at q
   exact hT u y' e hu q
 ·rw[c.dn]at hk
  rw[c.D]
  by_cases e:k=i
  ·subst e
   rw[a11];exact hy
  ·rw[a32 _ _ e]
   exact hD k e hk
theorem TG.one (hs:SuIn s) (wi:WI s Z.X) (g:TG s Z.X) (ht:t<s.n):TG s (oneZ s Z t).X:=by
 unfold oneZ
 cases hf:finB Z.X.H.E t with
 | true=>exact g
 | false =>
  show TG s (stepR Z.X t)
  have hf:=zM hf
  cases hT:Z.X.H.E.T t with
  | none =>
   have hl:=wi.less ht hf hT;obtain⟨n1,n2⟩:=bm9 hs ht hl;refine TG.came (au4 wi hT rfl) (fun u y' c hu q=>?_) (fun k c hk=>?_) (bK9 n1 n2 wi.ok (bL0 s t _))
   ·rw[a21 _ _ c]at q
    exact g.T u y' hu q
   ·rw[a32 _ _ c]
    exact g.D k (by omega)
  | some y =>
   obtain⟨n1,n2⟩:=wi.T t y ht hT;exact TG.came (an0 hT) (fun u y' _ hu q=>g.T u y' hu q) (fun k _ hk=>g.D k hk) (bK9 n1 n2 wi.ok (g.T t y ht hT))
theorem tg0 (s:Su):TG s (X0 s):=⟨fun t y _ h=>(by cases h),fun i hi=>absurd hi (zI _)⟩
end
end Go.Proofs.YtkihgongjedheaaGreatDoor.En
namespace Go.Proofs.YtkihgongjedheaaGreatDoor.Ww
open Go.ChangeShapes Go.WideShapes Go.ChangeAt Go.RowKit Num Rr
def Serv (H:Hs) (ts:Nat) (xs:Wx):Prop:=ts<H.E.n/\(∃ ms,H.E.T ts=.wr ms xs)/\2<=xs.part/\xs.tick=wordAt H.E.ws 1
def Bd (W:Int) (H:Hs) (R:Int) (fr ah:Nat->Nat) (l:Int):Prop:=∀ i m x,i<H.dn->(H.D i).tx=.inr (m,x)->(H.D i).en=0->2<=x.part->R+(x.tick - wordAt H.E.ws 1)*W+l<=(fr i:Int)+((ah i:Int)+1)*W
def aB5 (r:Rx):Prop:=r.part≠1\/1<=r.sub
structure BI (W F:Int) (H:Hs) (stp:Nat->Bool) (R:Int) (fr ah:Nat->Nat) (o:Int):Prop where
 o0:0<=o
 b1:∀ ts xs,Serv H ts xs->Bd W H R fr ah (a73 xs+o)
 b2:∀ ts xs,Serv H ts xs->xs.part<=3->o=4*F+6
 b3:∀ ts xs,Serv H ts xs->4<=xs.part->xs.part<=7->∀ u m r,u<H.E.n->H.E.T u=.rd m r->aB5 r->r.claim<xs.stamp->4*F+6 - r.steps+((stp u).toNat:Int)<=o
 b4:∀ ts xs,Serv H ts xs->stp ts=true->Bd W H R fr ah (a73 xs+o+1)\/(1<=o/\4<=xs.part)
 b5:∀ ts xs,Serv H ts xs->a73 xs+o+3<=W
def St (H:Hs):Prop:=∀ i m x,i<H.dn->(H.D i).tx=.inl (m,x)->aB5 x->1<=x.steps
section
variable {H:Hs} {S:Nat->List Nat} {k t:Nat} {pt ld:Nat->Nat} {W F M R o:Int} {stp:Nat->Bool} {fr ah:Nat->Nat}
theorem HI.serv_one (h:HI H S k pt ld) {ts ts':Nat} {xs xs':Wx} (s:Serv H ts xs) (s':Serv H ts' xs'):ts'=ts/\xs'=xs:=by
 obtain⟨a1,⟨m,a2⟩,a3,a4⟩:=s;obtain⟨b1,⟨m',b2⟩,b3,b4⟩:=s';have e:=h.ei.gi.one ts ts' m xs m' xs' a1 b1 a2 b2 a3 b3 (a4.trans b4.symm);subst e;rw[a2]at b2;exact⟨rfl,((aa2 b2).2).symm⟩
theorem BI.round (b:BI W F H stp R fr ah o) (h:HI H S k pt ld) (hd:∀ u,u<H.E.n->finE H.E u\/stp u=true):∃ o',BI W F H (fun _=>false) (R+1) fr ah o':=by
 have due:∀ u y,u<H.E.n->H.E.T u=some y->stp u=true:=fun u y hu e=>by
  rcases hd u hu with q | q
  ·have:=q.1
   rw[e]at this
   cases this
  ·exact q
 have bd1:∀ {l l':Int},Bd W H R fr ah l->l'+1<=l->Bd W H (R+1) fr ah l':=fun q z i m x h1 h2 h3 h4=>by
  have:=q i m x h1 h2 h3 h4;omega
 have f0:(false.toNat:Int)=0:=rfl;have t1:(true.toNat:Int)=1:=rfl
 by_cases ex:∃ ts xs,Serv H ts xs
 ·obtain⟨ts,xs,sv⟩:=ex
  have st:stp ts=true:=by
   obtain⟨q1,⟨m,q2⟩,_⟩:=sv;exact due ts _ q1 q2
  rcases b.b4 ts xs sv st with q | ⟨q1,q2⟩
  ·refine⟨o,b.o0,fun ts' xs' s'=>?_,b.b2,fun ts' xs' s' p1 p2 u m r hu e l c=>?_,(fun _ _ _ q=>by cases q),b.b5⟩
   ·rw[(h.serv_one sv s').2]
    exact bd1 q (by omega)
   ·have:=b.b3 ts' xs' s' p1 p2 u m r hu e l c
    rw[due u _ hu e]at this;omega
  ·refine⟨o - 1,by omega,fun ts' xs' s'=>?_,fun ts' xs' s' p=>?_,fun ts' xs' s' p1 p2 u m r hu e l c=>?_,(fun _ _ _ q=>by cases q),fun ts' xs' s'=>?_⟩
   ·rw[(h.serv_one sv s').2]
    exact bd1 (b.b1 ts xs sv) (by omega)
   ·rw[(h.serv_one sv s').2]at p
    omega
   ·have:=b.b3 ts' xs' s' p1 p2 u m r hu e l c
    rw[due u _ hu e]at this;omega
   ·have:=b.b5 ts' xs' s'
    omega
 ·exact⟨o,b.o0,fun ts xs s=>absurd ⟨ts,xs,s⟩ ex,fun ts xs s=>absurd ⟨ts,xs,s⟩ ex,fun ts xs s=>absurd ⟨ts,xs,s⟩ ex,fun ts xs s=>absurd ⟨ts,xs,s⟩ ex,fun ts xs s=>absurd ⟨ts,xs,s⟩ ex⟩
theorem BI.begins (b:BI W F H stp R fr ah o) (h:HI H S k pt ld) (ht:t<H.E.n) (hf:¬ finE H.E t) {fr' ah':Nat->Nat} (hfr:∀ i,i<H.dn->fr' i=fr i) (hah:∀ i,i<H.dn->ah' i=ah i):BI W F (begH H t) stp R fr' ah' o:=by
 unfold begH
 split
 ·next y hT hy =>
  have hlt:H.E.B t<H.E.nc t:=by
   rcases Nat.lt_or_eq_of_le (h.ei.bg t ht) with q | q
   ·exact q
   ·exact absurd ⟨hT,q⟩ hf
  obtain⟨c1,c2,c3,c4,c5,c6⟩:=a78 H.E t;have eT:(begE H.E t).T t=some y:=by
   unfold begE;rw[hT,hy];exact a10 _ _ _
  have hnew:(∃ m x,y=.inl (m,x)/\x.part=1/\x.sub=0)\/∃ m x,y=.inr (m,x)/\x.part=1:=by
   rcases h.ei.new t (H.E.B t) ht hlt with⟨x,e,_,_,_,_,q,q',_⟩ | ⟨x,e,_,_,_,_,q,_⟩
   ·rw[hy]at e
    cases e
    exact .inl ⟨_,_,rfl,q,q'⟩
   ·rw[hy]at e
    cases e
    exact .inr ⟨_,_,rfl,q⟩
  obtain⟨H',hH⟩:∃ H':Hs,({ H with E:=begE H.E t,D:=updD H.D H.dn ⟨t,H.E.B t,H.N+1,0,y⟩,dn:=H.dn+1,at_:=updN H.at_ t H.dn,N:=H.N+1 }:Hs)=H':=⟨_,rfl⟩
  have ew:H'.E.ws=H.E.ws:=by rw[<- hH];exact c5
  have en:H'.E.n=H.E.n:=by rw[<- hH];exact c1
  have sv:∀ ts xs,Serv H' ts xs->Serv H ts xs:=fun ts xs ⟨q1,⟨m,q2⟩,q3,q4⟩=>by
   rw[ew]at q4;rw[en]at q1;have q2':(begE H.E t).T ts=.wr m xs:=by rw[<- hH]at q2;exact q2
   by_cases e:ts=t
   ·exfalso
    rw[e,eT]at q2'
    rcases hnew with⟨m',x,e',_⟩ | ⟨m',x,e',p⟩
    ·rw[e']at q2'
     cases q2'
    ·rw[e']at q2'
     cases q2'
     omega
   ·exact⟨q1,⟨m,by rw[<- (c6 ts e).1];exact q2'⟩,q3,q4⟩
  have bd:∀ l,Bd W H R fr ah l->Bd W H' R fr' ah' l:=fun l q i m x h1 h2 h3 h4=>by
   rw[ew];rw[<- hH]at h1 h2 h3;dsimp only at h1 h2 h3
   rcases Nat.lt_or_eq_of_le (Nat.le_of_lt_succ h1) with z | z
   ·rw[a32 _ _ (by omega)]at h2 h3
    rw[hfr i z,hah i z];exact q i m x z h2 h3 h4
   ·exfalso
    rw[z,a11]at h2;dsimp only at h2
    rcases hnew with⟨m',x',e',_⟩ | ⟨m',x',e',p⟩
    ·rw[e']at h2
     cases h2
    ·rw[e']at h2
     cases h2
     omega
  show BI W F ({ H with E:=begE H.E t,D:=updD H.D H.dn ⟨t,H.E.B t,H.N+1,0,y⟩,dn:=H.dn+1,at_:=updN H.at_ t H.dn,N:=H.N+1 }:Hs) stp R fr' ah' o
  rw[hH];refine⟨b.o0,fun ts xs s=>bd _ (b.b1 ts xs (sv ts xs s)),fun ts xs s=>b.b2 ts xs (sv ts xs s),fun ts xs s p1 p2 u m r hu e l c=>?_,fun ts xs s q=>(b.b4 ts xs (sv ts xs s) q).imp (bd _) id,fun ts xs s=>b.b5 ts xs (sv ts xs s)⟩;rw[en]at hu;have e':(begE H.E t).T u=.rd m r:=by rw[<- hH]at e;exact e
  by_cases eu:u=t
  ·exfalso
   rw[eu,eT]at e'
   rcases hnew with⟨m',x',z,z1,z2⟩ | ⟨m',x',z,_⟩
   ·rw[z]at e'
    cases e'
    rcases l with l | l
    ·exact l z1
    ·omega
   ·rw[z]at e'
    cases e'
  ·exact b.b3 ts xs (sv ts xs s) p1 p2 u m r hu (by rw[<- (c6 u eu).1];exact e') l c
 ·refine⟨b.o0,fun ts xs s i m x h1 h2 h3 h4=>?_,b.b2,b.b3,fun ts xs s q=>(b.b4 ts xs s q).imp (fun z i m x h1 h2 h3 h4=>?_) id,b.b5⟩
  ·rw[hfr i h1,hah i h1]
   exact b.b1 ts xs s i m x h1 h2 h3 h4
  ·rw[hfr i h1,hah i h1]
   exact z i m x h1 h2 h3 h4
end
theorem aN7 {x:Rx} {ws:List Int} (hp:aB5 x):(a16 x ws).1.claim=x.claim:=by
 unfold a16
 split
 ·next p =>
  have hs:1<=x.sub:=by
   rcases hp with q | q
   ·exact absurd p q
   ·exact q
  show (a50 (a18 x) ws).1.claim=x.claim
  unfold a50;rw[if_neg (show ¬ (a18 x).sub=0 by show ¬ x.sub=0;omega)]
  split <;> rfl
 ·split
  ·rfl
  ·show (runX (a18 x) ws).1.claim=x.claim
   unfold runX
   split
   ·unfold a25
    split
    ·rfl
    ·split
     ·rfl
     ·split
      ·split <;> rfl
      ·rfl
   ·split
    ·show (a25 (begX (a18 x)) ws).claim=x.claim
     unfold a25
     split
     ·rfl
     ·split
      ·rfl
      ·split
       ·split <;> rfl
       ·rfl
    ·rfl
theorem aN6 {x:Rx} {ws:List Int} (hp:¬ aB5 x):(a16 x ws).1.claim=wordAt ws 2:=by
 have p:x.part=1:=Classical.byContradiction fun q=>hp (.inl q)
 have s:x.sub=0:=Classical.byContradiction fun q=>hp (.inr (by omega))
 unfold a16;rw[if_pos p]
 show (a50 (a18 x) ws).1.claim=_
 unfold a50;rw[if_pos (show (a18 x).sub=0 from s)]
def upS (stp:Nat->Bool) (t:Nat):Nat->Bool:=fun u=>if u=t then true else stp u
section
variable {H:Hs} {S:Nat->List Nat} {k t:Nat} {pt ld:Nat->Nat} {W F M R o:Int} {stp:Nat->Bool} {fr ah:Nat->Nat}
theorem ai9 {y:Ty} (hT:H.E.T t=some y):(goH H t).E.n=H.E.n/\(goH H t).dn=H.dn/\(goH H t).E.ws=(goT (some y) H.E.ws).2.1/\(∀ u,u≠t->(goH H t).E.T u=H.E.T u)/\(goH H t).E.T t=(if a38 (goS y H.E.ws) then none else some (goS y H.E.ws))/\(∀ i,i≠H.at_ t->(goH H t).D i=H.D i)/\((goH H t).D (H.at_ t)).tx=goS y H.E.ws/\((goH H t).D (H.at_ t)).en=(if a38 (goS y H.E.ws) then H.N else 0):=by
 unfold goH;rw[hT];dsimp only;refine⟨rfl,rfl,?_,fun u hu=>a21 _ _ hu,?_,fun i hi=>a32 _ _ hi,?_,?_⟩
 ·unfold goE
  rw[hT]
 ·rw[<- aO7]
  unfold goE;rw[hT];exact a10 _ _ _
 ·rw[a11]
 ·rw[a11]
theorem BI.goes_rd (b:BI W F H stp R fr ah o) (h:HI H S k pt ld) (ht:t<H.E.n) {m:Mac} {x:Rx} (hT:H.E.T t=.rd m x):BI W F (goH H t) (upS stp t) R fr ah o:=by
 obtain⟨f1,f2,f3,f4,f5,f6,f7,f8⟩:=ai9 (H:=H) hT;obtain⟨u1,u2,u3,u4⟩:=h.up t _ ht hT;have Rk:=h.ei.gi.rd t m x ht hT;have hth:=Rk.inx.th;have w1:wordAt (goH H t).E.ws 1=wordAt H.E.ws 1:=by
  rw[f3];exact ad7 Rk.inx (by omega) (by omega)
 have tx:∀ m' z,(goH H t).E.T t≠.wr m' z:=fun m' z e=>by
  rw[f5]at e
  split at e
  ·cases e
  ·cases e
 have sv:∀ ts xs,Serv (goH H t) ts xs->Serv H ts xs/\ts≠t:=fun ts xs ⟨q1,⟨m',q2⟩,q3,q4⟩=>by
  have hne:ts≠t:=fun e=>by rw[e]at q2;exact tx _ _ q2
  rw[f1]at q1;rw[f4 ts hne]at q2;rw[w1]at q4;exact⟨⟨q1,⟨m',q2⟩,q3,q4⟩,hne⟩
 have bd:∀ l,Bd W H R fr ah l->Bd W (goH H t) R fr ah l:=fun l q i m' z h1 h2 h3 h4=>by
  have hne:i≠H.at_ t:=fun e=>by
   rw[e,f7]at h2
   cases h2
  rw[f2]at h1;rw[f6 i hne]at h2 h3;rw[w1];exact q i m' z h1 h2 h3 h4
 have us:∀ u,u≠t->upS stp t u=stp u:=fun u hu=>if_neg hu
 refine⟨b.o0,fun ts xs s=>bd _ (b.b1 ts xs (sv ts xs s).1),fun ts xs s=>b.b2 ts xs (sv ts xs s).1,fun ts xs s p1 p2 u m' r hu e l c=>?_,fun ts xs s q=>?_,fun ts xs s=>b.b5 ts xs (sv ts xs s).1⟩
 ·rw[f1]at hu
  by_cases eu:u=t
  ·subst eu
   rw[f5]at e;have er:r=(a16 x H.E.ws).1:=by
    split at e
    ·cases e
    ·cases e
     rfl
   subst er;have ks:=(step_in Rk.inx Rk.np h.ei.gi.ok).2.2.1;have t1:((upS stp u u).toNat:Int)=1:=by
    unfold upS;rw[if_pos rfl]
    rfl
   by_cases lx:aB5 x
   ·rw[aN7 lx]at c
    have:=b.b3 ts xs (sv ts xs s).1 p1 p2 u m x hu hT lx c;have:(0:Int)<=((stp u).toNat:Int):=by omega
    rw[ks,t1];omega
   ·exfalso
    rw[aN6 lx,h.ei.gi.w2]at c;obtain⟨⟨q1,⟨ms,q2⟩,_⟩,_⟩:=sv ts xs s;have:=(h.ei.gi.wr ts ms xs q1 q2).1.st p1 p2;omega
  ·rw[f4 u eu]at e
   rw[us u eu];exact b.b3 ts xs (sv ts xs s).1 p1 p2 u m' r hu e l c
 ·obtain⟨s1,s2⟩:=sv ts xs s
  rw[us ts s2]at q;exact(b.b4 ts xs s1 q).imp (bd _) id
theorem St.begins (s:St H) (h:HI H S k pt ld) (ht:t<H.E.n) (hf:¬ finE H.E t):St (begH H t):=by
 unfold begH
 split
 ·next y hT hy =>
  have hlt:H.E.B t<H.E.nc t:=by
   rcases Nat.lt_or_eq_of_le (h.ei.bg t ht) with q | q
   ·exact q
   ·exact absurd ⟨hT,q⟩ hf
  intro i m x hi e l;dsimp only at hi e
  rcases Nat.lt_or_eq_of_le (Nat.le_of_lt_succ hi) with q | q
  ·rw[a32 _ _ (by omega)]at e
   exact s i m x q e l
  ·exfalso
   rw[q,a11]at e;dsimp only at e;rw[e]at hy
   rcases h.ei.new t (H.E.B t) ht hlt with⟨x',e',_,_,_,_,q1,q2,_⟩ | ⟨x',e',_⟩
   ·rw[hy]at e'
    cases e'
    rcases l with l | l
    ·exact l q1
    ·omega
   ·rw[hy]at e'
    cases e'
 ·exact s
theorem St.goes (s:St H) (h:HI H S k pt ld) (ht:t<H.E.n) {y:Ty} (hT:H.E.T t=some y):St (goH H t):=by
 obtain⟨f1,f2,f3,f4,f5,f6,f7,f8⟩:=ai9 (H:=H) hT;intro i m x hi e l;rw[f2]at hi
 by_cases q:i=H.at_ t
 ·rw[q,f7]at e
  rcases y with⟨m',x'⟩ | ⟨m',x'⟩
  ·have Rk:=h.ei.gi.rd t m' x' ht hT
   have ks:=(step_in Rk.inx Rk.np h.ei.gi.ok).2.2.1;have:=Rk.inx.pos
   cases e
   rw[ks];omega
  ·cases e
 ·rw[f6 i q]at e
  exact s i m x hi e l
end
theorem aR0 {x:Wx} {ws:List Int} (hp:x.part≠3):(a06 x ws).1.stamp=x.stamp:=by
 have e8:(a07 x).part=x.part:=rfl;unfold a06 a55
 split
 ·rfl
 ·split
  ·dsimp only
   split <;> rfl
  ·split
   ·next q=>exact absurd (e8.symm.trans q) hp
   ·split
    ·dsimp only
     unfold runY
     split
     ·rfl
     ·split
      ·rfl
      ·split <;> rfl
    ·split
     ·dsimp only
      unfold a80
      split
      ·split <;> rfl
      ·rfl
     ·split
      ·rfl
      ·split <;> rfl
theorem az0 {x:Wx} {ws:List Int} (h:InY x) (hp:x.part≠9):x.part<=(a06 x ws).1.part/\(4<=(a06 x ws).1.part->3<=x.part):=by
 have hP:=h.part;have e8:(a07 x).part=x.part:=rfl;unfold a06 a55
 rcases(by omega:x.part=1\/x.part=2\/x.part=3\/x.part=4\/x.part=5\/x.part=6\/x.part=7\/x.part=8) with e | e | e | e | e | e | e | e
 ·rw[if_pos (e8.trans e)]
  exact⟨by dsimp only;omega,fun q=>by dsimp only at q;omega⟩
 ·rw[if_neg (by omega),if_pos (e8.trans e)]
  dsimp only
  split
  ·exact⟨by dsimp only;omega,fun q=>by dsimp only at q;omega⟩
  ·exact⟨by omega,fun q=>by omega⟩
 ·rw[if_neg (by omega),if_neg (by omega),if_pos (e8.trans e)]
  exact⟨by dsimp only;omega,fun _=>by omega⟩
 ·rw[if_neg (by omega),if_neg (by omega),if_neg (by omega),if_pos (e8.trans e)]
  refine⟨?_,fun _=>by omega⟩;dsimp only;unfold runY
  split
  ·dsimp only;omega
  ·split
   ·dsimp only;omega
   ·split
    ·dsimp only
     split <;> omega
    ·dsimp only;omega
 ·rw[if_neg (by omega),if_neg (by omega),if_neg (by omega),if_neg (by omega),if_pos (e8.trans e)]
  refine⟨?_,fun _=>by omega⟩;dsimp only;unfold a80
  split
  ·split
   ·dsimp only
    split <;> omega
   ·dsimp only;omega
  ·omega
 ·rw[if_neg (by omega),if_neg (by omega),if_neg (by omega),if_neg (by omega),if_neg (by omega),if_pos (e8.trans e)]
  refine⟨?_,fun _=>by omega⟩;dsimp only;unfold ac0;dsimp only
  split <;> omega
 ·rw[if_neg (by omega),if_neg (by omega),if_neg (by omega),if_neg (by omega),if_neg (by omega),if_neg (by omega),if_pos (e8.trans e)]
  exact⟨by dsimp only;omega,fun _=>by omega⟩
 ·rw[if_neg (by omega),if_neg (by omega),if_neg (by omega),if_neg (by omega),if_neg (by omega),if_neg (by omega),if_neg (by omega)]
  exact⟨by dsimp only;omega,fun _=>by omega⟩
theorem aU0 {x:Wx} {F M:Int} (h:InY x) (hp:x.part=2) (hF:x.m.fuel=F) (hM:x.m.wmax=M):a73 x<=F+x.b+3*M+5:=by
 have:=h.rest.inv.used;unfold a73;rw[if_neg (by omega),if_pos hp,hF,hM];omega
section
variable {H:Hs} {S:Nat->List Nat} {k t:Nat} {pt ld:Nat->Nat} {W F M R o:Int} {stp:Nat->Bool} {fr ah:Nat->Nat}
theorem BI.goes_wr (b:BI W F H stp R fr ah o) (h:HI H S k pt ld) (U:Uni F M H) (st:St H) (hW:W=F+(4*F+6)+H.E.C.b+3*M+8) (ht:t<H.E.n) {m:Mac} {x:Wx} (hT:H.E.T t=.wr m x) (hdr:x.part=1->(fr (H.at_ t):Int)=R/\(ah (H.at_ t):Int)=wordAt H.E.ws 0 - wordAt H.E.ws 1):∃ o',BI W F (goH H t) (upS stp t) R fr ah o':=by
 obtain⟨f1,f2,f3,f4,f5,f6,f7,f8⟩:=ai9 (H:=H) hT;obtain⟨u1,u2,u3,u4⟩:=h.up t _ ht hT;obtain⟨Wk,_⟩:=h.ei.gi.wr t m x ht hT;have hI:=Wk.iny;have hP:=hI.part;have hnp:=Wk.np;have hcb:=hI.cb;have hbg:=h.bg _ u1;have hF0:1<=F:=by have:=(U.under h ht hT).1;have:=hI.rest.inv.fuel;omega
 obtain⟨y1,y2,y3,y4,y5⟩:=ad8 (ws:=H.E.ws) hP hnp;have us:∀ u,u≠t->upS stp t u=stp u:=fun u hu=>if_neg hu
 have hws:(goH H t).E.ws=(a06 x H.E.ws).2.1:=f3;have nrd:∀ u m' r,(goH H t).E.T u=.rd m' r->u≠t:=fun u m' r e q=>by
  rw[q,f5]at e
  split at e
  ·cases e
  ·cases e
 have at':(goH H t).E.T t=if decide ((a06 x H.E.ws).1.part=9)=true then none else some (.inr (m,(a06 x H.E.ws).1)):=f5
 have sv0:∀ ts xs,wordAt (goH H t).E.ws 1=wordAt H.E.ws 1->Serv (goH H t) ts xs->ts≠t->Serv H ts xs:=fun ts xs w ⟨q1,⟨m',q2⟩,q3,q4⟩ hne=>⟨by rw[f1]at q1;exact q1,⟨m',by rw[f4 ts hne]at q2;exact q2⟩,q3,by rw[w]at q4;exact q4⟩
 have svt:∀ xs,Serv (goH H t) t xs->xs=(a06 x H.E.ws).1:=fun xs ⟨_,⟨m',q2⟩,_⟩=>by
  rw[at']at q2
  split at q2
  ·cases q2
  ·cases q2
   rfl
 -- a deed other than its own
 have bdo:∀ (l l':Int),wordAt (goH H t).E.ws 1=wordAt H.E.ws 1->Bd W H R fr ah l->l'<=l->(∀ m' z,(a06 x H.E.ws).1=z->(goH H t).E.T t=.wr m' z->2<=z.part->R+(z.tick - wordAt H.E.ws 1)*W+l'<=(fr (H.at_ t):Int)+((ah (H.at_ t):Int)+1)*W)->Bd W (goH H t) R fr ah l':=fun l l' w q ql own i m' z h1 h2 h3 h4=>by
  rw[f2]at h1;rw[w]
  by_cases e:i=H.at_ t
  ·rw[e]at h2 h3 ⊢
   rw[f7]at h2;rw[f8]at h3
   cases h2
   have ov:a38 (goS (.inr (m,x)) H.E.ws)=false:=by
    cases c:a38 (goS (.inr (m,x)) H.E.ws) with
    | false=>rfl
    | true=>rw[c]at h3;simp only[if_true]at h3;omega
   refine own m _ rfl ?_ h4;rw[f5,ov]
   rfl
  ·rw[f6 i e]at h2 h3
   have:=q i m' z h1 h2 h3 h4;omega
 have w18:x.part≠8->wordAt (goH H t).E.ws 1=wordAt H.E.ws 1:=fun e=>by
  rw[hws]
  rcases(by omega:x.part=1\/(2<=x.part/\x.part<=5)\/x.part=6\/x.part=7) with q | q | q | q
  ·rw[(a56 q).1]
   exact word_set_ne (by omega) (by omega)
  ·rw[a57 q]
  ·rw[(a81 q).1]
   exact a89 hI q (by omega) (by omega)
  ·rw[(a79 q).1]
   exact word_set_ne (by omega) (by omega)
 by_cases e1:x.part=1
 ·-- it draws
  obtain⟨d1,d2⟩:=hdr e1;have w:=w18 (by omega);have xt:(a06 x H.E.ws).1.tick=wordAt H.E.ws 0:=by rw[(a56 e1).2]
  have xp:(a06 x H.E.ws).1.part=2:=by rw[(a56 e1).2]
  have own:∀ l',l'<=W->∀ m' z,(a06 x H.E.ws).1=z->(goH H t).E.T t=.wr m' z->2<=z.part->R+(z.tick - wordAt H.E.ws 1)*W+l'<=(fr (H.at_ t):Int)+((ah (H.at_ t):Int)+1)*W:=fun l' hl m' z ez _ _=>by
   rw[<- ez,xt,d1,d2,Int.add_mul,Int.one_mul];omega
  by_cases ex:∃ ts xs,Serv H ts xs
  ·obtain⟨t0,x0,s0⟩:=ex
   have sv:∀ ts xs,Serv (goH H t) ts xs->Serv H ts xs/\ts≠t:=fun ts xs s=>by
    have hne:ts≠t:=fun e=>by
     subst e;have e2:=svt xs s;have e3:=s.2.2.2;rw[e2,xt,w]at e3;obtain⟨q1,⟨m',q2⟩,q3,q4⟩:=s0;have:=(h.ei.gi.wr t0 m' x0 q1 q2).1.tk q3;omega
    exact⟨sv0 ts xs w s hne,hne⟩
   refine⟨o,b.o0,fun ts xs s=>?_,fun ts xs s=>b.b2 ts xs (sv ts xs s).1,fun ts xs s p1 p2 u m' r hu e l c=>?_,fun ts xs s q=>?_,fun ts xs s=>b.b5 ts xs (sv ts xs s).1⟩
   ·have:=b.b5 ts xs (sv ts xs s).1
    exact bdo _ _ w (b.b1 ts xs (sv ts xs s).1) (zW _) (own _ (by omega))
   ·have hne:=nrd u m' r e
    rw[us u hne];rw[f4 u hne]at e;exact b.b3 ts xs (sv ts xs s).1 p1 p2 u m' r (by rw[<- f1];exact hu) e l c
   ·obtain⟨s1,s2⟩:=sv ts xs s
    rw[us ts s2]at q;have:=b.b5 ts xs s1
    rcases b.b4 ts xs s1 q with z | z
    ·exact .inl (bdo _ _ w z (zW _) (own _ (by omega)))
    ·exact .inr z
  ·have hs:wordAt H.E.ws 0=wordAt H.E.ws 1:=by
    refine Classical.byContradiction fun z=>?_
    have:=h.ei.gi.sn;obtain⟨u,m',y,v1,v2,v3,v4⟩:=h.ei.held (wordAt H.E.ws 1) (zW _) (by omega);exact ex ⟨u,y,v1,⟨m',v2⟩,v3,v4⟩
   have sv:∀ ts xs,Serv (goH H t) ts xs->xs=(a06 x H.E.ws).1:=fun ts xs s=>by
    by_cases e:ts=t
    ·subst e
     exact svt xs s
    ·exact absurd ⟨ts,xs,sv0 ts xs w s e⟩ ex
   have none:∀ l,Bd W H R fr ah l:=fun l i m' z h1 h2 h3 h4=>by
    exfalso
    obtain⟨z1,z2,_⟩:=h.un i h1 h3;rw[h2]at z2;have:=(h.ei.gi.wr _ m' z z1 z2).1.tk h4;omega
   have hl:a73 (a06 x H.E.ws).1+(4*F+6)+3<=W:=by
    obtain⟨k1,k2,_⟩:=a82 (ws:=H.E.ws) hI hnp h.ei.gi.ok;have hu:=U.under h ht hT;have:=aU0 k1 xp (k2.lk.fuel.trans hu.1) (k2.lk.wmax.trans hu.2);rw[k2.b,Wk.b]at this;omega
   refine⟨4*F+6,by omega,fun ts xs s=>?_,fun _ _ _ _=>rfl,fun ts xs s p1=>?_,fun ts xs s _=>.inl ?_,fun ts xs s=>?_⟩
   ·rw[sv ts xs s]
    exact bdo _ _ w (none _) (zW _) (own _ (by omega))
   ·rw[sv ts xs s]at p1
    omega
   ·rw[sv ts xs s]
    exact bdo _ _ w (none _) (zW _) (own _ (by omega))
   ·rw[sv ts xs s]
    exact hl
 ·by_cases e8:x.part=8
  ·-- it passes on
   have xt:=Wk.sv (by omega);have S0:Serv H t x:=⟨ht,⟨m,hT⟩,by omega,xt⟩;have w:wordAt (goH H t).E.ws 1=wordAt H.E.ws 1+1:=by
    rw[hws,(a72 e8).1,xt];have h0:=(h.ei.gi.ok.at 1).1;have hs:=h.ei.gi.sn;have hnx:=h.ei.next;have hl3:3<=H.E.ws.length:=by have:=h.ei.gi.len;have:=hI.ca;rw[Wk.a]at this;rw[Wk.b]at hcb;omega
    obtain⟨q,hq⟩:=Int.eq_ofNat_of_zero_le h0;rw[show (1:Int)=((1:Nat):Int) from rfl,am7 (by omega)]
    show Md.Cv.passV (wordAt H.E.ws 1)=wordAt H.E.ws 1+1
    rw[hq];exact a67 (by omega)
   have p9:(a06 x H.E.ws).1.part=9:=by rw[(a72 e8).2]
   have tn:(goH H t).E.T t=none:=by
    rw[at',if_pos (zT p9)]
   have b1:=b.b1 t x S0;have bd:∀ l,l<=W->Bd W (goH H t) R fr ah l:=fun l hl i m' z h1 h2 h3 h4=>by
    rw[f2]at h1;have e:i≠H.at_ t:=fun e=>by
     rw[e,f8,show a38 (goS (.inr (m,x)) H.E.ws)=true from zT p9]at h3;simp only[if_true]at h3;omega
    rw[f6 i e]at h2 h3;have:=b1 i m' z h1 h2 h3 h4;have lp:=aE9 hI hnp;have oo:=b.o0;have em:(z.tick - (wordAt H.E.ws 1+1))*W=(z.tick - wordAt H.E.ws 1)*W - W:=by
     rw[show z.tick - (wordAt H.E.ws 1+1)=(z.tick - wordAt H.E.ws 1) - 1 by omega,Int.sub_mul,Int.one_mul]
    rw[w,em];omega
   have hl:∀ ts xs,Serv (goH H t) ts xs->xs.part=2/\a73 xs+(4*F+6)+3<=W:=fun ts xs ⟨q1,⟨m',q2⟩,q3,q4⟩=>by
    have hne:ts≠t:=fun e=>by rw[e,tn]at q2;cases q2
    rw[f1]at q1;rw[f4 ts hne]at q2;have:=h.ei.gi.alone ht hT (by omega) q1 hne q2;obtain⟨V,_⟩:=h.ei.gi.wr ts m' xs q1 q2;have hu:=U.under h q1 q2;have:=aU0 V.iny (by omega) hu.1 hu.2;rw[V.b]at this;exact⟨by omega,by omega⟩
   refine⟨4*F+6,by omega,fun ts xs s=>bd _ ?_,fun _ _ _ _=>rfl,fun ts xs s p1=>?_,fun ts xs s _=>.inl (bd _ ?_),fun ts xs s=>(hl ts xs s).2⟩
   ·have:=(hl ts xs s).2
    omega
   ·have:=(hl ts xs s).1
    omega
   ·have:=(hl ts xs s).2
    omega
  ·have w:=w18 e8
   have xt:=y1 e1
   by_cases sx:x.tick=wordAt H.E.ws 1
   ·-- its turn
    have S0:Serv H t x:=⟨ht,⟨m,hT⟩,by omega,sx⟩;have sv:∀ ts xs,Serv (goH H t) ts xs->ts=t/\xs=(a06 x H.E.ws).1:=fun ts xs s=>by
     by_cases e:ts=t
     ·subst e
      exact⟨rfl,svt xs s⟩
     ·exact absurd (h.serv_one S0 (sv0 ts xs w s e)).1 e
    have own:∀ l l',Bd W H R fr ah l->l'<=l->∀ m' z,(a06 x H.E.ws).1=z->(goH H t).E.T t=.wr m' z->2<=z.part->R+(z.tick - wordAt H.E.ws 1)*W+l'<=(fr (H.at_ t):Int)+((ah (H.at_ t):Int)+1)*W:=fun l l' q ql m' z ez _ _=>by
     rw[<- ez,xt];have:=q _ m x u1 u4 u3 (by omega);omega
    by_cases hw:bg0 x H.E.ws
    ·have ew:=az5 hw
     have ex:(a06 x H.E.ws).1=a07 x:=by rw[ew]
     have lw:=b97 hw;refine⟨o,b.o0,fun ts xs s=>?_,fun ts xs s p=>?_,fun ts xs s p1 p2 u m' r hu e l c=>?_,fun ts xs s q=>.inr ?_,fun ts xs s=>?_⟩
     ·rw[(sv ts xs s).2,lw]
      exact bdo _ _ w (b.b1 t x S0) (zW _) (own _ _ (b.b1 t x S0) (zW _))
     ·rw[(sv ts xs s).2,ex]at p
      exact b.b2 t x S0 p
     ·rw[(sv ts xs s).2,ex]at p1 p2 c
      have hne:=nrd u m' r e;rw[us u hne];rw[f4 u hne]at e;exact b.b3 t x S0 p1 p2 u m' r (by rw[<- f1];exact hu) e l c
     ·rw[(sv ts xs s).2,ex]
      rcases hw with⟨_,q'⟩ | ⟨q5,q'⟩
      ·exact absurd sx.symm q'
      ·have a5:=hI.at5 q5
       rw[Wk.b,h.ei.gi.nb]at a5;have hat:x.at_<H.E.n:=by omega
       refine⟨?_,by show 4<=x.part;omega⟩
       cases hA:H.E.T x.at_ with
       | none=>exact absurd (.inl (h.ei.gi.idle x.at_ hat hA)) q'
       | some y=>cases y with
        | inr p=>exact absurd (.inl (h.ei.gi.wr x.at_ p.1 p.2 hat hA).1.ce) q'
        | inl p =>
         have Rk:=h.ei.gi.rd x.at_ p.1 p.2 hat hA;have hs:=Rk.inx.few_steps.2 Rk.np;have hu:=U.under h hat hA;have lo:p.2.part=1->p.2.sub=2:=fun z1=>Classical.byContradiction fun z2=>q' (.inl (Rk.ce0 z1 z2))
         have ce:=Rk.ce1 lo;have hc:p.2.claim<x.stamp:=by
          refine Classical.byContradiction fun z=>q' (.inr ?_)
          omega
         have hlo:aB5 p.2:=by
          by_cases z:p.2.part=1
          ·exact .inr (by rw[lo z];omega)
          ·exact .inl z
         have:=b.b3 t x S0 (by omega) (by omega) x.at_ p.1 p.2 hat hA hlo hc;have hfu:p.2.m.fuel=F:=hu;omega
     ·rw[(sv ts xs s).2,lw]
      exact b.b5 t x S0
    ·have ls:=b96 hI hnp h.ei.gi.ok hw
     have b5:=b.b5 t x S0;refine⟨o,b.o0,fun ts xs s=>?_,fun ts xs s p=>?_,fun ts xs s p1 p2 u m' r hu e l c=>?_,fun ts xs s q=>.inl ?_,fun ts xs s=>?_⟩
     ·rw[(sv ts xs s).2]
      exact bdo _ _ w (b.b1 t x S0) (by omega) (own _ _ (b.b1 t x S0) (by omega))
     ·rw[(sv ts xs s).2]at p
      refine b.b2 t x S0 ?_;have:=az0 (ws:=H.E.ws) hI hnp;omega
     ·rw[(sv ts xs s).2]at p1 p2 c
      have hne:=nrd u m' r e;rw[us u hne];rw[f4 u hne]at e;have hu':u<H.E.n:=by rw[<- f1];exact hu
      by_cases e3:x.part=3
      ·have o3:=b.b2 t x S0 (by omega)
       obtain⟨v1,_,_,v4⟩:=h.up u _ hu' e;have:=st _ m' r v1 v4 l;have:(stp u).toNat<=1:=by cases stp u <;> decide
       omega
      ·rw[aR0 e3]at c
       have:=az0 (ws:=H.E.ws) hI hnp;exact b.b3 t x S0 (by omega) (by omega) u m' r hu' e l c
     ·rw[(sv ts xs s).2]
      exact bdo _ _ w (b.b1 t x S0) (by omega) (own _ _ (b.b1 t x S0) (by omega))
     ·rw[(sv ts xs s).2]
      omega
   ·-- it waits for its turn
    have p2:x.part=2:=by
     refine Classical.byContradiction fun q=>sx (Wk.sv (by omega))
    have hw:bg0 x H.E.ws:=.inl ⟨p2,fun q=>sx q.symm⟩;have ex:(a06 x H.E.ws).1=a07 x:=by rw[az5 hw]
    have sv:∀ ts xs,Serv (goH H t) ts xs->Serv H ts xs/\ts≠t:=fun ts xs s=>by
     have hne:ts≠t:=fun e=>by
      subst e;have e2:=svt xs s;have e3:=s.2.2.2;rw[e2,ex,w]at e3;exact sx e3
     exact⟨sv0 ts xs w s hne,hne⟩
    have own:∀ l,Bd W H R fr ah l->∀ m' z,(a06 x H.E.ws).1=z->(goH H t).E.T t=.wr m' z->2<=z.part->R+(z.tick - wordAt H.E.ws 1)*W+l<=(fr (H.at_ t):Int)+((ah (H.at_ t):Int)+1)*W:=fun l q m' z ez _ _=>by
     rw[<- ez,xt];exact q _ m x u1 u4 u3 (by omega)
    refine⟨o,b.o0,fun ts xs s=>?_,fun ts xs s=>b.b2 ts xs (sv ts xs s).1,fun ts xs s p1 p2 u m' r hu e l c=>?_,fun ts xs s q=>?_,fun ts xs s=>b.b5 ts xs (sv ts xs s).1⟩
    ·have z:=b.b1 ts xs (sv ts xs s).1
     exact bdo _ _ w z (zW _) (own _ z)
    ·have hne:=nrd u m' r e
     rw[us u hne];rw[f4 u hne]at e;exact b.b3 ts xs (sv ts xs s).1 p1 p2 u m' r (by rw[<- f1];exact hu) e l c
    ·obtain⟨s1,s2⟩:=sv ts xs s
     rw[us ts s2]at q
     rcases b.b4 ts xs s1 q with z | z
     ·exact .inl (bdo _ _ w z (zW _) (own _ z))
     ·exact .inr z
end
structure RI (W F M:Int) (X:Rs) (S:Nat->List Nat) (k:Nat) (pt ld:Nat->Nat) (o:Int):Prop where
 ha:HA X.H S k pt ld
 un:Uni F M X.H
 st:St X.H
 bi:BI W F X.H X.stp X.R X.fr X.ah o
 eq:W=F+(4*F+6)+X.H.E.C.b+3*M+8
 fin:∀ i m x,i<X.H.dn->(X.H.D i).tx=.inr (m,x)->(X.H.D i).en≠0->(X.to_ i:Int)<=(X.fr i:Int)+((X.ah i:Int)+1)*W
section
variable {X:Rs} {S:Nat->List Nat} {k t:Nat} {pt ld:Nat->Nat} {W F M o:Int}
theorem RI.going (r:RI W F M X S k pt ld o) {i:Nat} {m:Mac} {x:Wx} (hi:i<X.H.dn) (e:(X.H.D i).tx=.inr (m,x)) (e0:(X.H.D i).en=0):(X.R:Int)<=(X.fr i:Int)+((X.ah i:Int)+1)*W:=by
 have h:=r.ha.hi;obtain⟨z1,z2,_⟩:=h.un i hi e0;rw[e]at z2;obtain⟨V,_⟩:=h.ei.gi.wr _ m x z1 z2;have p1:=r.ha.nd _ m x z1 z2;have hP:=V.iny.part;have tk:=V.tk (by omega);obtain⟨u,m',y,v1,v2,v3,v4⟩:=h.ei.held (wordAt X.H.E.ws 1) (zW _) (by omega);have s:Serv X.H u y:=⟨v1,⟨m',v2⟩,v3,v4⟩;have b1:=r.bi.b1 u y s i m x hi e e0 (by omega);have b5:=r.bi.b5 u y s;obtain⟨V',_⟩:=h.ei.gi.wr u m' y v1 v2;have lp:=aE9 V'.iny V'.np;have oo:=r.bi.o0;have:0<=(x.tick - wordAt X.H.E.ws 1)*W:=Int.mul_nonneg (by omega) (by omega);omega
theorem RI.step (r:RI W F M X S k pt ld o) (ht:t<X.H.E.n) (hf:¬ finE X.H.E t):∃ S' k' pt' ld' o',RI W F M (stepR X t) S' k' pt' ld' o':=by
 have h:=r.ha.hi;obtain⟨S',k',pt',ld',hA,_⟩:=r.ha.step ht hf;obtain⟨h1,e1,e2,e3⟩:=h.begins r.ha.nd ht hf;obtain⟨c1,c2,c3,c4,c5,c6⟩:=a78 X.H.E t;have ht':t<(begH X.H t).E.n:=by rw[e1,c1];exact ht
 obtain⟨fr',hfr⟩:∃ f,(if (X.H.E.T t).isNone then updN X.fr X.H.dn X.R else X.fr)=f:=⟨_,rfl⟩
 obtain⟨ah',hah⟩:∃ f,(if (X.H.E.T t).isNone then updN X.ah X.H.dn (wordAt X.H.E.ws 0 - wordAt X.H.E.ws 1).toNat else X.ah)=f:=⟨_,rfl⟩
 have fo:∀ i,i<X.H.dn->fr' i=X.fr i:=fun i hi=>by
  rw[<- hfr]
  split
  ·exact a51 _ _ (by omega)
  ·rfl
 have ao:∀ i,i<X.H.dn->ah' i=X.ah i:=fun i hi=>by
  rw[<- hah]
  split
  ·exact a51 _ _ (by omega)
  ·rfl
 have B1:=r.bi.begins h ht hf fo ao;have U1:=r.un.begins h ht hf;have T1:=r.st.begins h ht hf;have U2:=r.un.step h r.ha.nd ht hf;obtain⟨G,hG⟩:∃ G,begH X.H t=G:=⟨_,rfl⟩
 have gd:(∀ i,i<X.H.dn->G.D i=X.H.D i)/\(∀ i,i<G.dn->¬ i<X.H.dn->i=G.at_ t)/\(X.H.E.T t=none->G.at_ t=X.H.dn)/\X.H.dn<=G.dn:=by
  rw[<- hG];unfold begH
  split
  ·next y hT hy =>
   refine⟨fun i hi=>a32 _ _ (by omega),fun i hi hn=>?_,fun _=>a24 _ _ _,Nat.le_succ _⟩;dsimp only at hi ⊢;rw[a24];omega
  ·next hno =>
   refine⟨fun _ _=>rfl,fun i hi hn=>absurd hi hn,fun q=>?_,zE _⟩
   exfalso
   have hlt:X.H.E.B t<X.H.E.nc t:=by
    rcases Nat.lt_or_eq_of_le (h.ei.bg t ht) with z | z
    ·exact z
    ·exact absurd ⟨q,z⟩ hf
   rcases h.ei.new t (X.H.E.B t) ht hlt with⟨x,e,_⟩ | ⟨x,e,_⟩
   ·exact hno _ q e
   ·exact hno _ q e
 have es:ae8 X.H t=goH G t:=by unfold ae8;rw[hG]
 rw[hG]at h1 e1 e2 e3 ht' B1 U1 T1;obtain⟨y,hT⟩:∃ y,G.E.T t=some y:=by
  cases q:G.E.T t with
  | none=>exact absurd q e3
  | some y=>exact⟨y,rfl⟩
 have sp:∀ m x,y=.inr (m,x)->x.part=1->X.H.E.T t=none:=fun m x ey p=>by
  cases q:X.H.E.T t with
  | none=>rfl
  | some z =>
   exfalso
   have:begE X.H.E t=X.H.E:=by unfold begE;rw[q];rfl
   rw[e1,this,ey]at hT;exact r.ha.nd t m x ht hT p
 obtain⟨o1,B2⟩:∃ o1,BI W F (goH G t) (upS X.stp t) X.R fr' ah' o1:=by
  rcases y with⟨m,x⟩ | ⟨m,x⟩
  ·exact⟨o,B1.goes_rd h1 ht' hT⟩
  ·refine B1.goes_wr h1 U1 T1 (by rw[e1,c4];exact r.eq) ht' hT fun p=>?_
   have q:=sp m x rfl p;have sn:=h.ei.gi.sn;rw[gd.2.2.1 q,<- hfr,<- hah,q];simp only[Option.isNone_none,if_true];rw[a24,a24,e1,c5];exact⟨rfl,by omega⟩
 obtain⟨f1,f2,f3,f4,f5,f6,f7,f8⟩:=ai9 (H:=G) hT;have fat:(goH G t).at_=G.at_:=by unfold goH;rw[hT]
 obtain⟨p,hp⟩:∃ p,upS X.stp t=p:=⟨_,rfl⟩
 obtain⟨R',hR⟩:∃ R',(if aA1 (goH G t).E p (goH G t).E.n then X.R+1 else X.R)=R':=⟨_,rfl⟩
 have eX:stepR X t={ H:=goH G t,stp:=if aA1 (goH G t).E p (goH G t).E.n then fun _=>false else p,R:=R',fr:=fr',to_:=if ((goH G t).E.T t).isNone then updN X.to_ ((goH G t).at_ t) R' else X.to_,ah:=ah' }:=by
  unfold stepR;rw[es,hfr,hah,<- hR,<- hp]
  rfl
 have hR1:R'<=X.R+1:=by rw[<- hR];split <;> omega
 rw[hp]at B2;rw[es]at hA U2;obtain⟨o2,B3⟩:∃ o2,BI W F (goH G t) (if aA1 (goH G t).E p (goH G t).E.n then fun _=>false else p) R' fr' ah' o2:=by
  rw[<- hR]
  split
  ·next q =>
   obtain⟨o2,z⟩:=B2.round hA.hi ((aw2 _ _ _).1 q);exact⟨o2,z⟩
  ·exact⟨o1,B2⟩
 refine⟨S',k',pt',ld',o2,?_⟩;rw[eX];refine⟨hA,U2,T1.goes h1 ht' hT,B3,?_,fun i m x hi e he=>?_⟩
 ·have:(goH G t).E.C=X.H.E.C:=by
   rw[<- es,(r.ha.hi.step r.ha.nd ht hf).2.2.1];exact(ak8 X.H.E t).2.2.2.1
  dsimp only;rw[this];exact r.eq
 ·dsimp only at hi e he ⊢
  rw[f2]at hi
  by_cases q:i=G.at_ t
  ·rw[q]at e he ⊢
   rw[f7]at e
   rcases y with⟨m0,x0⟩ | ⟨m0,x0⟩
   ·cases e
   ·have ov:a38 (goS (.inr (m0,x0)) G.E.ws)=true:=by
     cases c:a38 (goS (.inr (m0,x0)) G.E.ws) with
     | true=>rfl
     | false=>rw[f8,c]at he;exact absurd rfl he
    have tn:((goH G t).E.T t).isNone=true:=by rw[f5,ov];rfl
    rw[tn,fat];simp only[if_true];rw[a24];obtain⟨V,_⟩:=h1.ei.gi.wr t m0 x0 ht' hT;have p9:(a06 x0 G.E.ws).1.part=9:=zP ov;have p8:=(ad8 (ws:=G.E.ws) V.iny.part V.np).2.2.1 p9;have xt:=V.sv (by omega);obtain⟨u1,_,u3,u4⟩:=h1.up t _ ht' hT;have b1:=B1.b1 t x0 ⟨ht',⟨m0,hT⟩,by omega,xt⟩ _ m0 x0 u1 u4 u3 (by omega);have lp:=aE9 V.iny V.np;have oo:=B1.o0;rw[xt,Int.sub_self,Int.zero_mul]at b1;omega
  ·rw[f6 i q]at e he
   have hi':i<X.H.dn:=Classical.byContradiction fun z=>q (gd.2.1 i hi z)
   rw[gd.1 i hi']at e he;have ef:(if ((goH G t).E.T t).isNone then updN X.to_ ((goH G t).at_ t) R' else X.to_) i=X.to_ i:=by
    split
    ·rw[fat]
     exact a51 _ _ q
    ·rfl
   rw[ef,fo i hi',ao i hi'];exact r.fin i m x hi' e he
end
end Go.Proofs.YtkihgongjedheaaGreatDoor.Ww
namespace Go.Proofs.YtkihgongjedheaaGreatDoor.En
open Go.ChangeShapes Go.WideShapes Go.ChangeAt Go.RowKit Num Ww
def Wn (s:Su):Int:=s.c+(4*s.c+6)+s.b+3*s.e+8
theorem bF5 (s:Su) (t:Nat) (x:Int × List Nat):uniT s.c s.e (newT s t x):=by
 unfold newT
 split
 ·exact⟨rfl,rfl⟩
 ·rfl
theorem RI0 {s:Su} (hs:SuIn s):RI (Wn s) s.c s.e (X0 s) (fun _=>S0 s) 0 (fun _=>0) (fun _=>0) 0:=by
 have no:∀ {ts xs},Serv (X0 s).H ts xs->False:=fun h=>by
  obtain⟨_,⟨ms,e⟩,_⟩:=h
  cases e
 refine⟨HA0 hs,⟨fun i hi=>absurd hi (zI _),fun t j y _ _ e=>?_⟩,fun i m x hi=>absurd hi (zI _),⟨zW _,fun _ _ h=>(no h).elim,fun _ _ h=>(no h).elim,fun _ _ h=>(no h).elim,fun _ _ h=>(no h).elim,fun _ _ h=>(no h).elim⟩,rfl,fun i m x hi=>absurd hi (zI _)⟩;have e:some (newT s t (s.call t j))=some y:=e;rw[<- Option.some.inj e];exact bF5 s t _
theorem bw6 (x t:Int):0<=Md.Ct.betw x t/\Md.Ct.betw x t<=2147483647:=by
 unfold Md.Ct.betw;have:=Md.Ct.wrapU_nat (t - x)
 split
 ·omega
 ·split <;> omega
theorem bg9 (ws:List Int) (y:Ty):0<=al3 ws y/\al3 ws y<=2147483647:=by
 rcases y with y | ⟨m,x⟩
 ·exact⟨zW _,show (0:Int)<=2147483647 by decide⟩
 ·show 0<=Md.Ct.aheadI ws 1 x.tick/\Md.Ct.aheadI ws 1 x.tick<=2147483647
  unfold Md.Ct.aheadI
  split
  ·exact bw6 _ _
  ·omega
theorem bh6 {x t:Int} (h0:0<=x) (h:x<=t) (h1:t<=1000000):Md.Ct.betw x t=t - x:=by
 unfold Md.Ct.betw;have e:IntKind.u64.wrap (t - x)=t - x:=by
  simp[IntKind.wrap,IntKind.bits,IntKind.signed]
  omega
 split
 ·omega
 ·rw[e]
  split <;> omega
structure NI (s:Su) (Z:Es):Prop where
 ri:∃ S k pt ld o,RI (Wn s) s.c s.e Z.X S k pt ld o
 tg:TG s Z.X
 fr:∀ i,i<Z.X.H.dn->Z.X.fr i<=Z.X.R
 to_:∀ i,i<Z.X.H.dn->(Z.X.H.D i).en≠0->Z.X.fr i<=Z.X.to_ i/\Z.X.to_ i<=Z.X.R
 ah:∀ i,i<Z.X.H.dn->isU (Z.X.H.D i).tx=true->Z.A i=(Z.X.ah i:Int)
 al:∀ i,i<Z.X.H.dn->0<=Z.A i/\Z.A i<=2147483647
theorem NI0 {s:Su} (hs:SuIn s):NI s (Z0 s) :=
 ⟨⟨_,_,_,_,_,RI0 hs⟩,tg0 s,fun _ hi=>absurd hi (zI _),fun _ hi=>absurd hi (zI _),fun _ hi=>absurd hi (zI _),fun _ hi=>absurd hi (zI _)⟩
theorem aJ9 (y:Ty) (ws:List Int):isU (goS y ws)=isU y:=by
 rcases y with⟨m,x⟩ | ⟨m,x⟩ <;> rfl
theorem b07 {H:Hs} {t:Nat} (hb:H.E.T t=none->∃ y,H.E.nx t (H.E.B t)=some y):∃ G y,ae8 H t=goH G t/\G.E.T t=some y/\(∀ i,i<H.dn->G.D i=H.D i)/\(H.E.T t=none->G.dn=H.dn+1/\G.at_ t=H.dn/\H.E.nx t (H.E.B t)=some y/\G.E.ws=H.E.ws/\(G.D H.dn).tx=y)/\(H.E.T t≠none->G.dn=H.dn/\G.at_ t=H.at_ t/\H.E.T t=some y):=by
 cases hT:H.E.T t with
 | none =>
  obtain⟨y,hy⟩:=hb hT;refine⟨begH H t,y,rfl,?_,?_,?_,fun q=>absurd rfl q⟩
  ·unfold begH
   rw[hT,hy];dsimp only;unfold begE;rw[hT,hy];exact a10 _ _ _
  ·unfold begH
   rw[hT,hy];exact fun i hi=>a32 _ _ (by omega)
  ·intro _
   unfold begH;rw[hT,hy];refine⟨rfl,a24 _ _ _,rfl,(a78 H.E t).2.2.2.2.1,?_⟩;dsimp only;rw[a11]
 | some y =>
  have e:begH H t={ H with N:=H.N+1 }:=by
   unfold begH;rw[hT]
  refine⟨begH H t,y,rfl,by rw[e];exact hT,by rw[e];exact fun _ _=>rfl,fun q=>(by cases q),fun _=>by rw[e];exact⟨rfl,rfl,rfl⟩⟩
section
variable {s:Su} {Z:Es} {t:Nat}
theorem aN3 (hs:SuIn s) (wi:WI s Z.X) {S:Nat->List Nat} {k:Nat} (h:EI Z.X.H.E S k) {x:Int × List Nat} (hu:isU (newT s t x)=true):al3 (goW (newT s t x) Z.X.H.E.ws) (goS (newT s t x) Z.X.H.E.ws)=((wordAt Z.X.H.E.ws 0 - wordAt Z.X.H.E.ws 1).toNat:Int):=by
 have sn:=h.gi.sn;have nx:=h.next;have ok:=(h.gi.ok.at 1).1;have len:=wi.len;have b8:=hs.b8;have a256:=hs.a256;unfold newT at hu ⊢
 split at hu
 ·next q =>
  rw[if_pos q];obtain⟨y,hy⟩:∃ y,newY s.a s.b s.c s.e (s.prog x.1).1 (s.prog x.1).2 x.2 t=y:=⟨_,rfl⟩
  have p1:y.part=1:=by rw[<- hy];rfl
  rw[hy]
  show Md.Ct.aheadI (a06 y Z.X.H.E.ws).2.1 1 (a06 y Z.X.H.E.ws).1.tick=_
  obtain⟨d1,d2⟩:=a56 (ws:=Z.X.H.E.ws) p1;rw[d1,d2];unfold Md.Ct.aheadI;have hb:hasB (Z.X.H.E.ws.set 0 (Md.Cv.passV (wordAt Z.X.H.E.ws 0))) 1=true:=by
   unfold hasB;rw[List.length_set];exact zT ⟨by omega,by omega⟩
  rw[if_pos hb,Rr.word_set_ne (by omega) (by omega)]
  show Md.Ct.betw (wordAt Z.X.H.E.ws 1) (wordAt Z.X.H.E.ws 0)=_
  rw[bh6 ok sn nx];omega
 ·cases hu
theorem NI.step (hs:SuIn s) (wi:WI s Z.X) (n:NI s Z) (ht:t<s.n) (hf:¬ finE Z.X.H.E t):NI s (aa0 s Z t):=by
 obtain⟨S,k,pt,ld,o,r⟩:=n.ri;have htn:t<Z.X.H.E.n:=by rw[wi.n];exact ht
 have tg:TG s (stepR Z.X t):=by
  have q:=n.tg.one hs wi ht;unfold oneZ at q;rw[if_neg (by unfold finB;simpa using hf)]at q;exact q
 obtain⟨G,y,e,hT,g1,g2,g3⟩:=b07 (H:=Z.X.H) (t:=t) fun _=>⟨newT s t (s.call t (Z.X.H.E.B t)),by rw[wi.nx]⟩
 obtain⟨f1,f2,f3,f4,f5,f6,f7,f8⟩:=ai9 (H:=G) hT;have fat:(goH G t).at_=G.at_:=by unfold goH;rw[hT]
 have hR:Z.X.R<=(stepR Z.X t).R:=by
  unfold stepR;dsimp only
  split <;> omega
 have eH:(stepR Z.X t).H=goH G t:=e;have efr:(stepR Z.X t).fr=if (Z.X.H.E.T t).isNone then updN Z.X.fr Z.X.H.dn Z.X.R else Z.X.fr:=rfl
 have eah:(stepR Z.X t).ah=if (Z.X.H.E.T t).isNone then updN Z.X.ah Z.X.H.dn (wordAt Z.X.H.E.ws 0 - wordAt Z.X.H.E.ws 1).toNat else Z.X.ah:=rfl
 have eto:(stepR Z.X t).to_=if ((goH G t).E.T t).isNone then updN Z.X.to_ (G.at_ t) (stepR Z.X t).R else Z.X.to_:=by
  rw[<- eH,<- fat,<- eH]
  rfl
 have eA:(aa0 s Z t).A=if (Z.X.H.E.T t).isNone then updI Z.A Z.X.H.dn (al3 (goW (newT s t (s.call t (Z.X.H.E.B t))) Z.X.H.E.ws) (goS (newT s t (s.call t (Z.X.H.E.B t))) Z.X.H.E.ws)) else Z.A:=rfl
 have old:∀ i,i<Z.X.H.dn->(stepR Z.X t).fr i=Z.X.fr i/\(stepR Z.X t).ah i=Z.X.ah i/\(aa0 s Z t).A i=Z.A i:=fun i hi=>by
  rw[efr,eah,eA]
  split
  ·exact⟨a51 _ _ (by omega),a51 _ _ (by omega),aR8 _ _ (by omega)⟩
  ·exact⟨rfl,rfl,rfl⟩
 have far:∀ i,i<G.dn->¬ i<Z.X.H.dn->Z.X.H.E.T t=none/\i=Z.X.H.dn/\G.at_ t=Z.X.H.dn:=fun i hi hn=>by
  cases q:Z.X.H.E.T t with
  | none =>
   obtain⟨z1,z2,_⟩:=g2 q;exact⟨rfl,by omega,z2⟩
  | some y' =>
   have z:=(g3 (by rw[q];exact fun z=>by cases z)).1;omega
 have fr:∀ i,i<G.dn->(stepR Z.X t).fr i<=(stepR Z.X t).R:=fun i hi=>by
  by_cases q:i<Z.X.H.dn
  ·rw[(old i q).1]
   exact zQ (n.fr i q) hR
  ·obtain⟨z1,z2,_⟩:=far i hi q
   rw[efr,z1,z2]
   show updN Z.X.fr Z.X.H.dn Z.X.R Z.X.H.dn<=_
   rw[a24];exact hR
 refine⟨r.step htn hf,tg,?_,?_,?_,?_⟩
 ·show ∀ i,i<(stepR Z.X t).H.dn->_
  rw[eH,f2];exact fr
 ·show ∀ i,i<(stepR Z.X t).H.dn->((stepR Z.X t).H.D i).en≠0->(stepR Z.X t).fr i<=(stepR Z.X t).to_ i/\(stepR Z.X t).to_ i<=(stepR Z.X t).R
  rw[eH,f2];intro i hi he
  by_cases q:i=G.at_ t
  ·rw[q,f8]at he
   have ov:a38 (goS y G.E.ws)=true:=by
    cases c:a38 (goS y G.E.ws) with
    | true=>rfl
    | false=>rw[c]at he;exact absurd rfl he
   have tn:((goH G t).E.T t).isNone=true:=by rw[f5,ov];rfl
   have e1:(stepR Z.X t).to_ i=(stepR Z.X t).R:=by
    rw[eto,tn,q];exact a24 _ _ _
   rw[e1];exact⟨fr i hi,zE _⟩
  ·have hi':i<Z.X.H.dn:=Classical.byContradiction fun z=>q (by obtain⟨_,z2,z3⟩:=far i hi z;omega)
   rw[f6 i q,g1 i hi']at he;have e1:(stepR Z.X t).to_ i=Z.X.to_ i:=by
    rw[eto]
    split
    ·exact a51 _ _ q
    ·rfl
   obtain⟨z1,z2⟩:=n.to_ i hi' he;rw[e1,(old i hi').1];exact⟨z1,zQ z2 hR⟩
 ·show ∀ i,i<(stepR Z.X t).H.dn->isU ((stepR Z.X t).H.D i).tx=true->(aa0 s Z t).A i=((stepR Z.X t).ah i:Int)
  rw[eH,f2];intro i hi hu
  by_cases hi':i<Z.X.H.dn
  ·obtain⟨_,o2,o3⟩:=old i hi'
   rw[o2,o3];refine n.ah i hi' ?_
   by_cases q:i=G.at_ t
   ·rw[q,f7,aJ9]at hu
    cases c:Z.X.H.E.T t with
    | none =>
     have:=(g2 c).2.1;omega
    | some y' =>
     obtain⟨_,z2,z3⟩:=g3 (by rw[c];exact fun z=>by cases z);obtain⟨_,_,_,u4⟩:=wi.up t y ht z3;rw[q,z2,u4];exact hu
   ·rw[f6 i q,g1 i hi']at hu
    exact hu
  ·obtain⟨z1,z2,z3⟩:=far i hi hi'
   obtain⟨_,_,z4,z5,_⟩:=g2 z1;have ey:y=newT s t (s.call t (Z.X.H.E.B t)):=by
    rw[wi.nx]at z4;exact(Option.some.inj z4).symm
   rw[z2,<- z3,f7,aJ9,ey]at hu;rw[eA,eah,z1,z2]
   show updI Z.A Z.X.H.dn _ Z.X.H.dn=((updN Z.X.ah Z.X.H.dn _ Z.X.H.dn:Nat):Int)
   rw[az4,a24];exact aN3 hs wi r.ha.hi.ei hu
 ·show ∀ i,i<(stepR Z.X t).H.dn->0<=(aa0 s Z t).A i/\(aa0 s Z t).A i<=2147483647
  rw[eH,f2];intro i hi
  by_cases hi':i<Z.X.H.dn
  ·rw[(old i hi').2.2]
   exact n.al i hi'
  ·obtain⟨z1,z2,_⟩:=far i hi hi'
   rw[eA,z1,z2]
   show 0<=updI Z.A Z.X.H.dn _ Z.X.H.dn/\updI Z.A Z.X.H.dn _ Z.X.H.dn<=_
   rw[az4];exact bg9 _ _
theorem NI.one (hs:SuIn s) (wi:WI s Z.X) (n:NI s Z) (ht:t<s.n):NI s (oneZ s Z t):=by
 unfold oneZ
 cases hf:finB Z.X.H.E t with
 | true=>exact n
 | false=>exact n.step hs wi ht (zM hf)
theorem NI.run (hs:SuIn s) (wi:WI s Z.X) (n:NI s Z) {y:Nat->Nat}:∀ k,(∀ i,i<k->y i<s.n)->NI s (runZ s Z y k)
 | 0,_=>n
 | k+1,hy=>NI.one hs (aG5 hs wi k (fun i hi=>hy i (by omega))).1 (NI.run hs wi n k (fun i hi=>hy i (by omega))) (hy k (by omega))
end
end Go.Proofs.YtkihgongjedheaaGreatDoor.En
namespace Go.Proofs.YtkihgongjedheaaGreatDoor.Bo
open Go.ChangeShapes Go.WideShapes Go.ChangeAt Go.RowKit Go.Shelf Md En
abbrev cfgV (a b c e:Int):Value:=.agg #[.int .i64 a,.int .i64 b,.int .i64 c,.int .i64 e]
abbrev okV (n:Int):Value:=.tuple #[.int .i64 n,.int .i64 0]
def rdN (c:Int):Int:=c*4+6
def wrN (b c e:Int):Int:=c+rdN c+b+3*e+8
theorem av8 {W w1:World} {x:Nat} {v0 v1 v2 v3:Value} {T:TypeId} (hb:Bl W w1) (h:W.heap[x]?=some (.cells #[v0,v1,v2,v3] T (0,0))):w1.heap[x]?=some (.cells #[v0,v1,v2,v3] T (0,0)):=(hb.block x (lt_of_block h)).trans h
section
variable (a b c e:Int) (w:World)
theorem zy0 (hc:cfgB a b c e=true):Calls Tryz.prog 15 #[cfgV a b c e] w fun r w'=>r=.returned (okV (rdN c))/\Bl w w':=by
 have HP:=fun W=>Md.place_any a b c e W
 rw[hc,if_pos rfl]at HP;replace HP:=zH HP;obtain⟨⟨a1,a2⟩,⟨b1,b2⟩,⟨c1,c2⟩,⟨e1,e2⟩⟩:=cfgB_iff.1 hc;clear hc;go_enter Tryz.func15,Tryz.ntmps15
 go_wp2_with (go_at_call 26;refine(HP.out _).mono ?_;rintro r w1 ⟨rfl,hb⟩;have HB:=zH hb;obtain⟨q0,q1,q2,q3,q4⟩:=cells4 (av8 hb (zN w _));clear hb)
 refine bodyPost_ret (v:=okV (rdN c)) (by simp[results,Tryz.results15,go_sem,rdN]) rfl ?_;exact⟨rfl,(a17 ((zF _ _).alloc (zE _) _) HB.out).alloc (by have:=HB.out.size;simp at this;omega) _⟩
theorem aC4 (hc:cfgB a b c e=true):Calls Tryz.prog 24 #[cfgV a b c e] w fun r w'=>r=.returned (okV (wrN b c e))/\Bl w w':=by
 have HP:=zH (fun W=>zy0 a b c e W hc);obtain⟨⟨a1,a2⟩,⟨b1,b2⟩,⟨c1,c2⟩,⟨e1,e2⟩⟩:=cfgB_iff.1 hc;clear hc;have hr:rdN c=c*4+6:=rfl;have h1:10<=rdN c:=by omega
 have h2:rdN c<=4102:=by omega
 go_enter Tryz.func24,Tryz.ntmps24
 go_wp2_with (go_at_call 15;refine(HP.out _).mono ?_;rintro r w1 ⟨rfl,hb⟩;have HB:=zH hb;obtain⟨q0,q1,q2,q3,q4⟩:=cells4 (av8 hb (zN w _));clear hb)
 refine bodyPost_ret (v:=okV (wrN b c e)) (by simp[results,Tryz.results24,go_sem,wrN,rdN]) rfl ?_;exact⟨rfl,a17 ((zF _ _).alloc (zE _) _) HB.out⟩
end
attribute [local go_sem] Oper.semAt_some
section
variable {F:Fence} {n:Nat} {P:Program}
theorem a52 {ops:Array Oper} {rest:List Oper} {o:Oper} {a:Act} {w:World} {Q:Exit->Act->World->Prop} (hgd:o.guard=none) (ty:TypeId) (x:Operand) (ho:o.op=.load ty x)
  (g off:Nat) (hx:a.eval x=.pointer (some ⟨g,off,none⟩)) (cs:Array Value) (d:TypeDesc) (hc:∀ j,j<cs.size->w.cell? ⟨g,off+j,none⟩=cs[j]?)
  (hu:P.underlying ty=some d) (hd:(match d with | .struct _ | .array _ _=>true | _=>false)=true) (hi:(P.info? ty).map (·.size)=some cs.size)
  (h:wpListIn F n P ops Q rest (a.put o.dst (.agg cs)) w):wpListIn F n P ops Q (o::rest) a w:=by
 refine wpListIn_plain hgd fun K hK=>?_
 unfold Oper.wpIn;refine⟨?_,?_⟩
 ·simp[Oper.about,ho]
 ·rw[Oper.semAt_plain F _ _ (by rw[ho];intro c hc';cases hc')]
  simp only[execOp,ho,hx,Instr.loadAt,Instr.sureAddr,Sem.run_bind,Sem.run_pure,Result.andThen_ok,al5 w g off ty cs d hc hu hd hi];exact hK _ _ h
theorem a83 {ops:Array Oper} {rest:List Oper} {o:Oper} {a:Act} {w:World} {Q:Exit->Act->World->Prop} (hgd:o.guard=none) (ty:TypeId) (x y:Operand) (ho:o.op=.store ty x y)
  (g:Nat) (cells:Array Value) (hx:a.eval x=.pointer (some ⟨g,0,none⟩)) (hy:a.eval y=.agg cells)
  (t:TypeId) (old:Array Value) (hg:w.heap[g]?=some (.cells old t (0,0))) (hi:(P.info? ty).map (·.size)=some cells.size)
  (hold:old.size=cells.size) (h1:cells.all (·.oneCell')=true)
  (h:wpListIn F n P ops Q rest (a.put o.dst undef) (w.setRow g cells)):wpListIn F n P ops Q (o::rest) a w:=by
 refine wpListIn_plain hgd fun K hK=>?_
 unfold Oper.wpIn;refine⟨?_,?_⟩
 ·simp[Oper.about,ho]
 ·rw[Oper.semAt_plain F _ _ (by rw[ho];intro c hc';cases hc')]
  have e:ae7 old 0 cells.toList=cells:=by
   apply Array.ext
   ·rw[af5];omega
   ·intro i h1 h2
    have:=aj1 cells.toList 0 old i (by simp;omega);rw[if_pos ⟨zV _,by simpa using h2⟩]at this
    simpa[h1,h2]using this
  have hs:=aj7 (P:=P) w g 0 t ty old cells hg hi (by omega) h1;rw[e]at hs;simp only[execOp,ho,hx,hy,Instr.storeAt,Instr.sureAddr,Sem.run_bind,Sem.run_pure,Result.andThen_ok,hs];exact hK _ _ h
end
structure Dn where
 tag:Int
 mark:Int
 steps:Int
 ahead:Int
 frm:Int
 til:Int
structure DnC (cs:Array Value) (d:Dn):Prop where
 size:cs.size=19
 one:cs.all (·.oneCell')=true
 tag:cs[3]?=some (.int .i64 d.tag)
 mark:cs[5]?=some (.int .i64 d.mark)
 steps:cs[15]?=some (.int .i64 d.steps)
 ahead:cs[16]?=some (.int .i64 d.ahead)
 frm:cs[17]?=some (.int .i64 d.frm)
 til:cs[18]?=some (.int .i64 d.til)
def DnsAt (B:Nat) (w:World) (b off:Nat) (ds:List Dn):Prop:=b<B/\∀ k d,ds[k]?=some d->∃ cs,(∀ j,j<19->w.cell? ⟨b,off+k*19+j,none⟩=cs[j]?)/\DnC cs d
def DnL (B:Nat) (w:World) (v:Value) (ds:List Dn):Prop:=(ds=[]/\∃ p c,v=.slice p 0 c)\/∃ b off c,v=.slice (some ⟨b,off,none⟩) ds.length c/\DnsAt B w b off ds
theorem DnsAt.below {B:Nat} {w w':World} {b off:Nat} {ds:List Dn} (h:DnsAt B w b off ds) (hb:Below B w w'):DnsAt B w' b off ds :=
 ⟨h.1,fun k d hk=>by obtain⟨cs,h1,h2⟩:=h.2 k d hk;exact⟨cs,fun j hj=>(hb.cell (p:=⟨b,_,none⟩) h.1).trans (h1 j hj),h2⟩⟩
theorem DnL.below {B:Nat} {w w':World} {v:Value} {ds:List Dn} (h:DnL B w v ds) (hb:Below B w w'):DnL B w' v ds:=by
 rcases h with h | ⟨b,off,c,rfl,h⟩
 ·exact .inl h
 ·exact .inr ⟨b,off,c,rfl,h.below hb⟩
theorem DnL.mono {B C:Nat} {w:World} {v:Value} {ds:List Dn} (h:DnL B w v ds) (hb:B<=C):DnL C w v ds:=by
 rcases h with h | ⟨b,off,c,rfl,h⟩
 ·exact .inl h
 ·exact .inr ⟨b,off,c,rfl,zL h.1 hb,h.2⟩
theorem deedInfo:(Tryz.prog.info? 46).map (·.size)=some 19:=by kernel_rfl
def cn4 (d:Dn):List Int:=[d.steps,d.ahead,d.frm,d.til]
def cnL (ds:List Dn):List Int:=ds.flatMap cn4
theorem zy1 {w:World} {x:Nat} {cs:Array Value} {T:TypeId} {d:Dn} (hd:DnC cs d) (h:w.heap[x]?=some (.cells cs T (0,0))) :
  w.cell? ⟨x,3,none⟩=some (.int .i64 d.tag)/\w.cell? ⟨x,5,none⟩=some (.int .i64 d.mark)/\w.cell? ⟨x,15,none⟩=some (.int .i64 d.steps)/\w.cell? ⟨x,16,none⟩=some (.int .i64 d.ahead)/\w.cell? ⟨x,17,none⟩=some (.int .i64 d.frm)/\w.cell? ⟨x,18,none⟩=some (.int .i64 d.til) :=
 ⟨by rw[zR w x 3 _ _ _ h];exact hd.tag,by rw[zR w x 5 _ _ _ h];exact hd.mark,by rw[zR w x 15 _ _ _ h];exact hd.steps,by rw[zR w x 16 _ _ _ h];exact hd.ahead,by rw[zR w x 17 _ _ _ h];exact hd.frm,by rw[zR w x 18 _ _ _ h];exact hd.til⟩
attribute [local go_sem] Oper.semAt_some
structure KC (R:Nat->Prop) (W W':World):Prop where
 size:W.heap.size<=W'.heap.size
 cells:∀ k o,¬ R k->W.heap[k]?=some o->o.isCells=true->W'.heap[k]?=some o
theorem KC.refl (R:Nat->Prop) (W:World):KC R W W:=⟨zE _,fun _ _ _ h _=>h⟩
theorem KC.trans {R:Nat->Prop} {A B C:World} (h:KC R A B) (k:KC R B C):KC R A C:=⟨zQ h.size k.size,fun i o r e c=>k.cells i o r (h.cells i o r e c) c⟩
theorem KC.put {R:Nat->Prop} (W:World) (l:Nat) (o o':Obj) (h:W.heap[l]?=some o) (hc:o.isCells=false):KC R W (W.putObj l o') :=
 ⟨by simp,fun k q _ e c=>by
  by_cases hk:k=l
  ·subst hk;rw[h]at e;cases e;rw[hc]at c;cases c
  ·rw[World.putObj_heap_other (fun e'=>hk (by rw[e']))];exact e⟩
theorem KC.alloc {R:Nat->Prop} {W W':World} (h:KC R W W') (o:Obj):KC R W (W'.alloc o) :=
 ⟨by have:=h.size;simp;omega,fun k q r e c=>by
  have q1:=h.cells k q r e c;exact(Below.heap_alloc _ _ _ (Array.getElem?_eq_some_iff.1 q1).1).trans q1⟩
theorem KC.cell {R:Nat->Prop} {W W':World} (h:KC R W W') {a:Addr} (r:¬ R a.block) {v:Value} (e:W.cell? a=some v):W'.cell? a=some v:=by
 obtain⟨o,ho,hc⟩:=cells_of_cell e;have h2:=h.cells _ o r ho hc;rw[<- e];unfold World.cell?;rw[ho,h2]
theorem DnsAt.kc {B:Nat} {R:Nat->Prop} {w w':World} {b off:Nat} {ds:List Dn} (h:DnsAt B w b off ds) (hb:KC R w w') (hr:∀ x,R x->B<=x):DnsAt B w' b off ds :=
 ⟨h.1,fun k d hk=>by
  obtain⟨cs,h1,h2⟩:=h.2 k d hk;refine⟨cs,fun j hj=>?_,h2⟩;have hs:j<cs.size:=by rw[h2.size];exact hj
  rw[Array.getElem?_eq_getElem hs];exact hb.cell (a:=⟨b,_,none⟩) (fun r=>by have h3:=hr _ r;have h4:=h.1;exact absurd h3 (by show ¬ B<=b;omega)) ((h1 j hj).trans (Array.getElem?_eq_getElem hs))⟩
theorem ae0 {β:Type} {B:Nat} {J:β->World->Prop} (h:AbidesFrom B J) {s:β} {W:World} (hs:J s W) (o:Obj):J s (W.alloc o) :=
 h s W _ none hs (World.grownBy_alloc W o none) (fun r e=>by cases e)
theorem ai4 (W:World) (v:Value) (t:TypeId):(W.alloc (.cells #[v] t)).cell? ⟨W.heap.size,0,none⟩=some v/\(W.alloc (.cells #[v] t)).frozen? ⟨W.heap.size,0,none⟩=false :=
 ⟨by rw[zR _ _ 0 _ _ _ (zN W _)];rfl,by rw[World.frozen?,show (W.alloc (.cells #[v] t)).heap[W.heap.size]?=_ from zN W _];rfl⟩
theorem ar0 {W:World} {a:Addr} {v:Value} (o:Obj) (h:W.cell? a=some v):(W.alloc o).cell? a=some v:=cell_kept h (World.grownBy_alloc W o none) (fun _ e=>by cases e)
theorem b73 {W:World} {a:Addr} {v:Value} (o:Obj) (h:W.cell? a=some v) (hf:W.frozen? a=false):(W.alloc o).frozen? a=false:=(frozen_kept h (World.grownBy_alloc W o none) (fun _ e=>by cases e)).trans hf
theorem aS8 {ds:List Dn} {k:Nat} {d:Dn} (h:ds[k]?=some d):cnL (ds.take (k+1))=cnL (ds.take k) ++ cn4 d:=by
 unfold cnL;rw[List.take_add_one,h]
 simp
theorem by0 (ds:List Dn):(cnL ds).length=4*ds.length:=by
 unfold cnL
 induction ds with
 | nil=>rfl
 | cons d ds ih=>simp only[List.flatMap_cons,List.length_append,ih,List.length_cons];simp[cn4];omega
theorem aD4 {ds:List Dn} {k:Nat} {d:Dn} (h:ds[k]?=some d) (q r:List Int) (e:cn4 d=q ++ r):cnL (ds.take k) ++ q <+: cnL ds:=by
 have h1:=aS8 h;have h2:cnL ds=cnL (ds.take (k+1)) ++ cnL (ds.drop (k+1)):=by
  unfold cnL;rw[<- List.flatMap_append,List.take_append_drop]
 rw[h2,h1,e];exact⟨r ++ cnL (ds.drop (k+1)),by simp⟩
theorem aX8 (n:Nat) (hn:1<=n) (l Bs B b off len cap:Nat) (ds:List Dn) (hlen:len=ds.length) (hmx:len<=9223372036854775807) (R:Nat->Prop) (J Jx:List Int->World->Prop) (B0:Nat) (hJ:AbidesFrom B0 J)
  (hY:∀ pre x W,J pre W->pre.length<4*ds.length->YieldAt Fence.wide (n - 1) Tryz.prog l #[.int .i64 x] W fun e W' =>
   (e=.returned (.bool true)/\J (pre ++ [x]) W'/\KC R W W')\/(e=.returned (.bool false)/\Jx (pre ++ [x]) W'))
  (W:World) (hr:∀ x,R x->B<=x/\x<W.heap.size) (hBs:W.cell? ⟨Bs,0,none⟩=some (.slice (some ⟨b,off,none⟩) len cap)) (hD:DnsAt B W b off ds) (h0:J [] W) :
  CallsIn Fence.wide n Tryz.prog 78 #[.func (.yield l) #[] #[],.pointer (some ⟨Bs,0,none⟩)] W fun e W'=>(∃ v,e=.returned v) /\
   ((∃ ys,ys=cnL ds/\J ys W')\/(∃ pre,pre <+: cnL ds/\Jx pre W')):=by
 refine callsIn_of_wp Tryz.func78 rfl trivial ?_ rfl;simp only[Tryz.ntmps78,List.size_toArray,List.length_cons,List.length_nil,Nat.reduceAdd,Nat.reduceSub,Array.replicate_succ,Array.replicate_zero,List.push_toArray,List.append_toArray,List.nil_append,List.cons_append]
 gi_wp2
 gi_loopw [7] (fun i wr=>∃ k:Nat,k<=len/\i=.int .i64 k/\J (cnL (ds.take k)) wr/\KC R W wr)
  (fun i _=>len - (intOf i).toNat)
 case atStart=>exact⟨0,zV _,rfl,h0,KC.refl _ _⟩
 case round =>
  obtain⟨k,hk,rfl,hJs,hnx⟩:=hrel
  by_cases hlt:k<len
  ·have hd:ds[k]?=some ds[k]:=List.getElem?_eq_getElem (by omega)
   obtain⟨cs,hc,hcd⟩:=(hD.kc hnx (fun x h=>(hr x h).1)).2 k _ hd;have hpl:(cnL (ds.take k)).length=4*k:=by rw[by0,List.length_take];omega
   obtain⟨dk,hdk⟩:∃ dk,ds[k]=dk:=⟨_,rfl⟩
   rw[hdk]at hd hcd;have J1:=ae0 hJ hJs (.cells cs 46);obtain⟨f1,t1,as1,bd1,hy1,hR1⟩:=hY _ dk.steps _ J1 (by omega);have nr:¬ R wr.heap.size:=fun h=>by have h1:=(hr _ h).2;have h2:=hnx.size;omega
   have HC:=zH hc;have HD:=zH hcd;have b1:=zy1 hcd (zN wr (.cells cs 46));obtain⟨q3,q5,q15,q16,q17,q18⟩:=b1;clear hc hcd q3 q5
   gi_wp2_with (first
    | (refine a52 rfl 46 _ rfl b (off+k*19) rfl cs _ (fun j hj=>HC.out j (by rw[HD.out.size]at hj;exact hj)) Tryz.underlying46 rfl (by rw[HD.out.size];exact deedInfo) ?_)
    | (refine a83 rfl 46 _ _ rfl wr.heap.size cs rfl rfl _ _ (zN _ _) (by rw[HD.out.size];exact deedInfo) (by rw[HD.out.size];rfl) HD.out.one ?_;rw[World.setRow_alloc_new]))
   refine hR1.mono ?_;rintro e W1 (⟨rfl,J2,k1⟩ | ⟨rfl,x1⟩)
   rotate_left
   ·gi_wp2
    repeat (refine⟨fun _ h=>(by cases h),?_⟩;gi_wp2)
    refine bodyPost_ret (results_none rfl _ _ _) rfl ?_;exact⟨⟨_,rfl⟩,.inr ⟨_,aD4 hd [dk.steps] _ rfl,x1⟩⟩
   have q16:=k1.cell (a:=⟨wr.heap.size,16,none⟩) nr q16;have q17:=k1.cell (a:=⟨wr.heap.size,17,none⟩) nr q17;have q18:=k1.cell (a:=⟨wr.heap.size,18,none⟩) nr q18;obtain⟨f2,t2,as2,bd2,hy2,hR2⟩:=hY _ dk.ahead _ J2 (by simp only[List.length_append,List.length_cons,List.length_nil];omega);clear hy1 hR1
   gi_wp2
   refine hR2.mono ?_;rintro e W2 (⟨rfl,J3,k2⟩ | ⟨rfl,x2⟩)
   rotate_left
   ·gi_wp2
    repeat (refine⟨fun _ h=>(by cases h),?_⟩;gi_wp2)
    refine bodyPost_ret (results_none rfl _ _ _) rfl ?_;exact⟨⟨_,rfl⟩,.inr ⟨_,by simpa using aD4 hd [dk.steps,dk.ahead] _ rfl,x2⟩⟩
   have q17:=k2.cell (a:=⟨wr.heap.size,17,none⟩) nr q17;have q18:=k2.cell (a:=⟨wr.heap.size,18,none⟩) nr q18;obtain⟨f3,t3,as3,bd3,hy3,hR3⟩:=hY _ dk.frm _ J3 (by simp only[List.length_append,List.length_cons,List.length_nil];omega);clear hy2 hR2
   gi_wp2
   refine hR3.mono ?_;rintro e W3 (⟨rfl,J4,k3⟩ | ⟨rfl,x3⟩)
   rotate_left
   ·gi_wp2
    repeat (refine⟨fun _ h=>(by cases h),?_⟩;gi_wp2)
    refine bodyPost_ret (results_none rfl _ _ _) rfl ?_;exact⟨⟨_,rfl⟩,.inr ⟨_,by simpa using aD4 hd [dk.steps,dk.ahead,dk.frm] _ rfl,x3⟩⟩
   have q18:=k3.cell (a:=⟨wr.heap.size,18,none⟩) nr q18;obtain⟨f4,t4,as4,bd4,hy4,hR4⟩:=hY _ dk.til _ J4 (by simp only[List.length_append,List.length_cons,List.length_nil];omega);clear hy3 hR3
   gi_wp2
   refine hR4.mono ?_;rintro e W4 (⟨rfl,J5,k4⟩ | ⟨rfl,x4⟩)
   rotate_left
   ·gi_wp2
    refine bodyPost_ret (results_none rfl _ _ _) rfl ?_;exact⟨⟨_,rfl⟩,.inr ⟨_,by simpa using aD4 hd [dk.steps,dk.ahead,dk.frm,dk.til] [] rfl,x4⟩⟩
   clear hy4 hR4
   gi_wp2
   go_roundw
   case rel=>exact⟨k+1,by omega,by simp,by rw[aS8 hd];simpa[cn4]using J5,((((hnx.alloc _).trans k1).trans k2).trans k3).trans k4⟩
   case measure=>simp[intOf];omega
  ·obtain rfl:k=len:=by omega
   gi_wp2
   go_end0
   refine⟨⟨_,rfl⟩,.inl ⟨_,?_,hJs⟩⟩;rw[hlen,List.take_length]
theorem aO0 (n l Bs cap:Nat) (p:Option Addr) (J:List Int->World->Prop) (W:World) (hBs:W.cell? ⟨Bs,0,none⟩=some (.slice p 0 cap)) (h0:J [] W) :
  CallsIn Fence.wide n Tryz.prog 78 #[.func (.yield l) #[] #[],.pointer (some ⟨Bs,0,none⟩)] W fun e W'=>(∃ v,e=.returned v)/\J [] W':=by
 refine callsIn_of_wp Tryz.func78 rfl trivial ?_ rfl;simp only[Tryz.ntmps78,List.size_toArray,List.length_cons,List.length_nil,Nat.reduceAdd,Nat.reduceSub,Array.replicate_succ,Array.replicate_zero,List.push_toArray,List.append_toArray,List.nil_append,List.cons_append]
 gi_wp2
 gi_loopw [7] (fun i wr=>i=.int .i64 0/\J [] wr) (fun _ _=>0)
 case atStart=>exact⟨rfl,h0⟩
 case round =>
  obtain⟨rfl,hJs⟩:=hrel
  gi_wp2
  go_end0
  exact⟨⟨_,rfl⟩,hJs⟩
theorem aX9 (p:Option Addr) (len cap:Nat) (w:World):Calls Tryz.prog 63 #[.slice p len cap] w fun e w'=>e=.returned (.func (.func 78) #[] #[.pointer (some ⟨w.heap.size,0,none⟩)])/\w'=w.alloc (.cells #[.slice p len cap] 38):=by
 go_enter Tryz.func63,Tryz.ntmps63
 go_wp2
 go_ret;exact⟨rfl,rfl⟩
theorem aI3 (n:Nat) (hn:1<=n) (R:Nat->Prop) (Bs B:Nat) (v:Value) (ds:List Dn) (hmx:ds.length<=9223372036854775807) (w:World) (hlt:Bs<w.heap.size) (hB:B<=w.heap.size) (hBs:w.cell? ⟨Bs,0,none⟩=some v) (hD:DnL B w v ds) (hr:∀ x,R x->B<=x/\x<w.heap.size) :
  SeqStopsK Fence.wide n Tryz.prog 78 #[.pointer (some ⟨Bs,0,none⟩)] (fun x:Int=>#[Value.int .i64 x]) (KC R) (fun ys=>ys=cnL ds) (fun pre=>pre <+: cnL ds) (4*ds.length) w:=fun l J Jx W hW hJ _ hY h0=>by
 have hc':=(hW.cell (p:=⟨Bs,0,none⟩) hlt).trans hBs
 rcases hD.below (hW.mono hB) with⟨rfl,p,c,rfl⟩ | ⟨b,off,c,rfl,hd⟩
 ·exact(aO0 n l Bs c p J W hc' h0).mono fun e W' ⟨he,hj⟩=>⟨he,.inl ⟨_,rfl,hj⟩⟩
 ·exact aX8 n hn l Bs B b off ds.length c ds rfl hmx R J Jx _ hJ hY W (fun x h=>⟨(hr x h).1,zL (hr x h).2 hW.size⟩) hc' hd h0
def inD (x:Int):Bool:=decide (0<=x) && decide (x<=1099511627776)
def allD (l:List Int):Bool:=l.all inD
theorem b26 {l:List Int} {x:Int} (h:inD x=false):allD (l ++ [x])=false:=by simp[allD,h]
theorem bh1 {l:List Int} {x:Int} (h:inD x=true) (hl:allD l=true):allD (l ++ [x])=true:=by
 unfold allD at *;rw[List.all_append,hl]
 simp[h]
theorem bh0 {l m:List Int} (h:l <+: m) (hl:allD l=false):allD m=false:=by
 obtain⟨q,hq⟩:=h;unfold allD at *;rw[<- hq,List.all_append,hl]
 rfl
theorem bJ4 {x:Int} (h:x<0):inD x=false:=by simp[inD];omega
theorem bJ3 {x:Int} (h:1099511627776<x):inD x=false:=by simp[inD];omega
theorem bJ5 {x:Int} (h1:0<=x) (h2:x<=1099511627776):inD x=true:=by simp[inD];omega
theorem ba0 (p:Option Addr) (len cap:Nat) (ds:List Dn) (hmx:ds.length<=9223372036854775807) (w:World) (hD:DnL w.heap.size w (.slice p len cap) ds) :
  Calls Tryz.prog 37 #[.slice p len cap] w fun e w'=>e=.returned (.bool (allD (cnL ds)))/\Bl w w':=by
 refine(callsIn_wide (n:=3)).1 (callsIn_of_wp_marks Tryz.func37 rfl trivial ?_ rfl);simp only[Tryz.ntmps37,List.size_toArray,List.length_cons,List.length_nil,Nat.reduceAdd,Nat.reduceSub,Array.replicate_succ,Array.replicate_zero,List.push_toArray,List.append_toArray,List.nil_append,List.cons_append]
 gi_wp2_with (refine⟨trivial,?_⟩;gi_at_call 63;refine(callsIn_wide.2 (aX9 _ _ _ _)).mono ?_;rintro e w' ⟨rfl,rfl⟩)
 have c0:=ai4 w (.bool false) 4;have c1:=ai4 (w.alloc (.cells #[.bool false] 4)) (.slice p len cap) 38;rw[World.size_alloc]at c1;have hB0:Bl w ((w.alloc (.cells #[.bool false] 4)).alloc (.cells #[.slice p len cap] 38)):=((zF _ w).alloc (zE _) _).alloc (by simp) _;refine wpIn_rangeFunc_ownF rfl (by omega) (gf:=78) (lb:=#[.pointer (some ⟨w.heap.size+1,0,none⟩)]) rfl trivial (enters_of Tryz.func78 (by kernel_rfl) rfl)
  (aI3 _ (by omega) (fun x=>x=w.heap.size) (w.heap.size+1) w.heap.size (.slice p len cap) ds hmx _ (by simp) (by simp;omega) c1.1 (hD.below hB0) (fun x h=>by subst h;exact⟨zE _,by simp;omega⟩)) KC.trans (fun W l o o' _ h hc _=>KC.put W l o o' h hc) (zF _ _) (fun _=>rfl)
  (fun pre W=>(allD pre=true/\W.cell? ⟨w.heap.size,0,none⟩=some (.bool false)/\W.frozen? ⟨w.heap.size,0,none⟩=false)/\Bl w W)
  (fun c pre W=>(c=.ret/\allD pre=false/\W.cell? ⟨w.heap.size,0,none⟩=some (.bool false))/\Bl w W)
  (OwnFrom.and (Own.from (fun s A B row hs hg hr=>⟨hs.1,cell_kept hs.2.1 hg hr,(frozen_kept hs.2.1 hg hr).trans hs.2.2⟩) _) (ownFrom_below (zE _) (by simp;omega)))
  (fun c=>OwnFrom.and (Own.from (fun s A B row hs hg hr=>⟨hs.1,hs.2.1,cell_kept hs.2.2 hg hr⟩) _) (ownFrom_below (zE _) (by simp;omega)))
  ⟨⟨rfl,ar0 _ c0.1,b73 _ c0.1 c0.2⟩,hB0⟩
  (fun x=>{ tmps:=#[.slice p len cap,undef,.pointer (some ⟨w.heap.size,0,none⟩),.int .i64 x,.slice p len cap,.func (.func 78) #[] #[.pointer (some ⟨w.heap.size+1,0,none⟩)],.int .i64 x,undef,undef,undef,undef,undef,undef],defers:=[] }) ?assign ?body ?done ?stop
 case assign =>
  intro l x W K hK
  gi_wp2
  exact hK
 case body =>
  rintro l pre x W ⟨⟨hp,hcr,hfr⟩,hB⟩ _
  by_cases h1:x<0
  ·gi_wp2
   exact⟨KeepsOthers.setCell _ _ _,⟨rfl,b26 (bJ4 h1),World.cell?_setCell_same' _ _ _ (by rw[hcr];rfl)⟩,hB.setCell (p:=⟨w.heap.size,0,none⟩) (zE _) _⟩
  ·by_cases h2:1099511627776<x
   ·gi_wp2
    exact⟨KeepsOthers.setCell _ _ _,⟨rfl,b26 (bJ3 h2),World.cell?_setCell_same' _ _ _ (by rw[hcr];rfl)⟩,hB.setCell (p:=⟨w.heap.size,0,none⟩) (zE _) _⟩
   ·gi_wp2
    exact⟨KeepsOthers.refl _,KC.refl _ _,⟨bh1 (bJ5 h1 h2) hp,hcr,hfr⟩,hB⟩
 case done =>
  rintro D ys W hD' rfl ⟨⟨hp,hcr,hfr⟩,hB⟩ hK
  gi_wp2
  have hK':=(KeepsOthers.setCell W ⟨w.heap.size,0,none⟩ (.bool true)).same D _ hK rfl;refine⟨by simp,.inl ⟨_,_,rfl,run_takeDeferred hK',?_⟩⟩;have hc5:=cell_kept (World.cell?_setCell_same' W ⟨w.heap.size,0,none⟩ (.bool true) (by rw[hcr];rfl)) (grownBy_putObj' _ D (.deferred none)) (fun r e=>by cases e;exact⟨_,hK',rfl⟩);refine⟨.bool true,?_,by rw[hp],(hB.setCell (p:=⟨w.heap.size,0,none⟩) (zE _) _).trans (belowK_b (w:=w) (zE _) _ D _ _ (by simp at hD';omega) hK' rfl rfl)⟩
  simp[results,Tryz.f37,go_sem,hc5]
 case stop =>
  rintro D c pre W hD' hpre ⟨⟨rfl,hin,hcr⟩,hB⟩ hK
  gi_wp2
  refine⟨by simp,.inl ⟨_,_,rfl,run_takeDeferred hK,?_⟩⟩;have hc5:=cell_kept hcr (grownBy_putObj' _ D (.deferred none)) (fun r e=>by cases e;exact⟨_,hK,rfl⟩);have hz:allD (cnL ds)=false:=bh0 hpre hin;refine⟨.bool false,?_,by rw[hz],hB.trans (belowK_b (w:=w) (zE _) W D _ _ (by simp at hD';omega) hK rfl rfl)⟩
  simp[results,Tryz.f37,go_sem,hc5]
attribute [local go_sem] Oper.semAt_some
def exc (rd wr:Int) (d:Dn):Int:=if d.tag=2 then wrap64 (wrap64 (d.til - d.frm) - wrap64 (wrap64 (d.ahead+1)*wr)) else wrap64 (d.steps - rd)
def skB (d:Dn):Bool:=decide (d.tag=2) && decide (d.mark<0)
def ex1 (rd wr:Int) (k:Nat) (d:Dn):List (Int × Int):=if skB d then [] else [((k:Int),exc rd wr d)]
def exF (rd wr:Int):Nat->List Dn->List (Int × Int)
 | _,[]=>[]
 | k,d::ds=>ex1 rd wr k d ++ exF rd wr (k+1) ds
theorem ar5 (rd wr:Int):∀ (l m:List Dn) (k:Nat),exF rd wr k (l ++ m)=exF rd wr k l ++ exF rd wr (k+l.length) m
 | [],m,k=>by simp[exF]
 | d::l,m,k=>by
  show ex1 rd wr k d ++ exF rd wr (k+1) (l ++ m)=ex1 rd wr k d ++ exF rd wr (k+1) l ++ _
  rw[ar5 rd wr l m (k+1),List.append_assoc,List.length_cons,show k+1+l.length=k+(l.length+1) by omega]
theorem an7 {rd wr:Int} {ds:List Dn} {k:Nat} {d:Dn} (h:ds[k]?=some d):exF rd wr 0 (ds.take (k+1))=exF rd wr 0 (ds.take k) ++ ex1 rd wr k d:=by
 have hl:(ds.take k).length=k:=by
  have:=(List.getElem?_eq_some_iff.1 h).1;rw[List.length_take];omega
 rw[List.take_add_one,h,ar5,hl]
 simp[exF]
theorem b61 {rd wr:Int} (ds:List Dn) (k:Nat):exF rd wr 0 (ds.take k) <+: exF rd wr 0 ds:=by
 have h:exF rd wr 0 ds=exF rd wr 0 (ds.take k ++ ds.drop k):=by rw[List.take_append_drop]
 rw[h,ar5];exact List.prefix_append _ _
theorem b60 (rd wr:Int):∀ (l:List Dn) (k:Nat),(exF rd wr k l).length<=l.length
 | [],_=>zE _
 | d::l,k=>by
  have ih:=b60 rd wr l (k+1)
  show (ex1 rd wr k d ++ exF rd wr (k+1) l).length<=_
  have h1:(ex1 rd wr k d).length<=1:=by unfold ex1;split <;> simp
  simp only[List.length_append,List.length_cons];omega
theorem ai6 {cs:Array Value} {d:Dn} (hd:DnC cs d) (rd wr:Int) (w:World):Calls Tryz.prog 65 #[.agg cs,.int .i64 rd,.int .i64 wr] w fun e w'=>e=.returned (.int .i64 (exc rd wr d))/\w'=w.alloc (.cells cs 46):=by
 have b1:=zy1 hd (zN w (.cells cs 46));obtain⟨q3,q5,q15,q16,q17,q18⟩:=b1
 by_cases h2:d.tag=2
 ·have e1:exc rd wr d=wrap64 (wrap64 (d.til - d.frm) - wrap64 (wrap64 (d.ahead+1)*wr)):=if_pos h2
  rw[e1];rw[h2]at q3;clear e1 h2 q5 hd;go_enter Tryz.func65,Tryz.ntmps65
  go_wp2
  go_ret;exact⟨rfl,rfl⟩
 ·have e1:exc rd wr d=wrap64 (d.steps - rd):=if_neg h2
  rw[e1];go_enter Tryz.func65,Tryz.ntmps65
  go_wp2
  go_ret;exact⟨rfl,rfl⟩
theorem aI5 (n:Nat) (hn:1<=n) (l Bl Br Bw B b off len cap:Nat) (rd wt:Int) (ds:List Dn) (hlen:len=ds.length) (hmx:len<=9223372036854775807) (R:Nat->Prop) (J Jx:List (Int × Int)->World->Prop) (B0:Nat) (hJ:AbidesFrom B0 J)
  (hY:∀ pre x W,J pre W->pre.length<ds.length->YieldAt Fence.wide (n - 1) Tryz.prog l #[.int .i64 x.1,.int .i64 x.2] W fun e W' =>
   (e=.returned (.bool true)/\J (pre ++ [x]) W'/\KC R W W')\/(e=.returned (.bool false)/\Jx (pre ++ [x]) W'))
  (W:World) (hr:∀ x,R x->B<=x/\x<W.heap.size) (hrr:¬ R Br) (hrw:¬ R Bw) (hBl:W.cell? ⟨Bl,0,none⟩=some (.slice (some ⟨b,off,none⟩) len cap)) (hBr:W.cell? ⟨Br,0,none⟩=some (.int .i64 rd)) (hBw:W.cell? ⟨Bw,0,none⟩=some (.int .i64 wt)) (hD:DnsAt B W b off ds) (h0:J [] W) :
  CallsIn Fence.wide n Tryz.prog 64 #[.func (.yield l) #[] #[],.pointer (some ⟨Bl,0,none⟩),.pointer (some ⟨Br,0,none⟩),.pointer (some ⟨Bw,0,none⟩)] W fun e W'=>(∃ v,e=.returned v) /\
   ((∃ ys,ys=exF rd wt 0 ds/\J ys W')\/(∃ pre,pre <+: exF rd wt 0 ds/\Jx pre W')):=by
 refine callsIn_of_wp Tryz.func64 rfl trivial ?_ rfl;simp only[Tryz.ntmps64,List.size_toArray,List.length_cons,List.length_nil,Nat.reduceAdd,Nat.reduceSub,Array.replicate_succ,Array.replicate_zero,List.push_toArray,List.append_toArray,List.nil_append,List.cons_append]
 gi_wp2
 gi_loopw [9] (fun i wr'=>∃ k:Nat,k<=len/\i=.int .i64 k/\J (exF rd wt 0 (ds.take k)) wr'/\KC R W wr')
  (fun i _=>len - (intOf i).toNat)
 case atStart=>exact⟨0,zV _,rfl,h0,KC.refl _ _⟩
 case round =>
  obtain⟨k,hk,rfl,hJs,hnx⟩:=hrel
  by_cases hlt:k<len
  ·have hd:ds[k]?=some ds[k]:=List.getElem?_eq_getElem (by omega)
   obtain⟨cs,hc,hcd⟩:=(hD.kc hnx (fun x h=>(hr x h).1)).2 k _ hd;have hpl:(exF rd wt 0 (ds.take k)).length<=k:=zQ (b60 _ _ _ _) (by rw[List.length_take];omega);obtain⟨dk,hdk⟩:∃ dk,ds[k]=dk:=⟨_,rfl⟩
   rw[hdk]at hd hcd;have nr:¬ R wr.heap.size:=fun h=>by have h1:=(hr _ h).2;have h2:=hnx.size;omega
   have J1:=ae0 hJ hJs (.cells cs 46);have HC:=zH hc;have HD:=zH hcd;have b1:=zy1 hcd (zN wr (.cells cs 46));obtain⟨q3,q5,q15,q16,q17,q18⟩:=b1;have r1:=ar0 (.cells cs 46) (hnx.cell (a:=⟨Br,0,none⟩) hrr hBr);have r2:=ar0 (.cells cs 46) (hnx.cell (a:=⟨Bw,0,none⟩) hrw hBw);clear hc hcd q15 q16 q17 q18
   rcases(show (dk.tag=2/\dk.mark<0)\/(dk.tag=2/\¬ dk.mark<0)\/¬ dk.tag=2 by omega) with⟨h2,hm⟩ | ⟨h2,hm⟩ | h2
   all_goals try rw[h2]at q3
   all_goals
    have J2:=ae0 hJ J1 (.cells cs 46);obtain⟨f1,t1,as1,bd1,hy1,hR1⟩:=hY _ ((k:Int),exc rd wt dk) _ J2 (by omega);dsimp only at hy1
    gi_wp2_with (first 
     | (refine a52 rfl 46 _ rfl b (off+k*19) rfl cs _ (fun j hj=>HC.out j (by rw[HD.out.size]at hj;exact hj)) Tryz.underlying46 rfl (by rw[HD.out.size];exact deedInfo) ?_)
     | (refine a52 rfl 46 _ rfl wr.heap.size 0 rfl cs _ (fun j _=>by rw[zR _ _ _ _ _ _ (zN wr (.cells cs 46)),Nat.zero_add]) Tryz.underlying46 rfl (by rw[HD.out.size];exact deedInfo) ?_)
     | (refine a83 rfl 46 _ _ rfl wr.heap.size cs rfl rfl _ _ (zN _ _) (by rw[HD.out.size];exact deedInfo) (by rw[HD.out.size];rfl) HD.out.one ?_;rw[World.setRow_alloc_new])
     | (refine⟨trivial,?_⟩;gi_at_call 65;refine(callsIn_wide.2 (ai6 HD.out rd wt _)).mono ?_;rintro e w2 ⟨rfl,rfl⟩))
   ·go_roundw
    case rel=>exact⟨k+1,by omega,by simp,by rw[an7 hd,show ex1 rd wt k dk=[] by simp[ex1,skB,h2,hm],List.append_nil];exact J1,hnx.alloc _⟩
    case measure=>simp[intOf];omega
   all_goals
    have ek:ex1 rd wt k dk=[((k:Int),exc rd wt dk)]:=by simp_all [ex1,skB]
    refine hR1.mono ?_;rintro e W1 (⟨rfl,J3,k1⟩ | ⟨rfl,x1⟩)
    ·gi_wp2
     go_roundw
     case rel=>exact⟨k+1,by omega,by simp,by rw[an7 hd,ek];exact J3,((hnx.alloc _).alloc _).trans k1⟩
     case measure=>simp[intOf];omega
    ·gi_wp2
     refine bodyPost_ret (results_none rfl _ _ _) rfl ?_;refine⟨⟨_,rfl⟩,.inr ⟨_,?_,x1⟩⟩;have:=b61 (rd:=rd) (wr:=wt) ds (k+1);rwa[an7 hd,ek]at this
  ·obtain rfl:k=len:=by omega
   gi_wp2
   go_end0
   refine⟨⟨_,rfl⟩,.inl ⟨_,?_,hJs⟩⟩;rw[hlen,List.take_length]
attribute [local go_sem] Oper.semAt_some
theorem aD9 (n l Bl cap:Nat) (b c:Value) (p:Option Addr) (J:List (Int × Int)->World->Prop) (W:World) (hBs:W.cell? ⟨Bl,0,none⟩=some (.slice p 0 cap)) (h0:J [] W) :
  CallsIn Fence.wide n Tryz.prog 64 #[.func (.yield l) #[] #[],.pointer (some ⟨Bl,0,none⟩),b,c] W fun e W'=>(∃ v,e=.returned v)/\J [] W':=by
 refine callsIn_of_wp Tryz.func64 rfl trivial ?_ rfl;simp only[Tryz.ntmps64,List.size_toArray,List.length_cons,List.length_nil,Nat.reduceAdd,Nat.reduceSub,Array.replicate_succ,Array.replicate_zero,List.push_toArray,List.append_toArray,List.nil_append,List.cons_append]
 gi_wp2
 gi_loopw [9] (fun i wr=>i=.int .i64 0/\J [] wr) (fun _ _=>0)
 case atStart=>exact⟨rfl,h0⟩
 case round =>
  obtain⟨rfl,hJs⟩:=hrel
  gi_wp2
  go_end0
  exact⟨⟨_,rfl⟩,hJs⟩
abbrev exW (w:World) (p:Option Addr) (len cap:Nat) (rd wt:Int):World:=((w.alloc (.cells #[.slice p len cap] 38)).alloc (.cells #[.int .i64 rd] 3)).alloc (.cells #[.int .i64 wt] 3)
theorem aI6 (p:Option Addr) (len cap:Nat) (rd wt:Int) (w:World):Calls Tryz.prog 38 #[.slice p len cap,.int .i64 rd,.int .i64 wt] w fun e w' =>
  e=.returned (.func (.func 64) #[] #[.pointer (some ⟨w.heap.size,0,none⟩),.pointer (some ⟨w.heap.size+1,0,none⟩),.pointer (some ⟨w.heap.size+1+1,0,none⟩)])/\w'=exW w p len cap rd wt:=by
 go_enter Tryz.func38,Tryz.ntmps38
 go_wp2
 go_ret;exact⟨rfl,rfl⟩
theorem aA2 (n:Nat) (hn:1<=n) (R:Nat->Prop) (B:Nat) (p:Option Addr) (len cap:Nat) (rd wt:Int) (ds:List Dn) (hmx:ds.length<=9223372036854775807) (w:World) (hB:B<=w.heap.size) (hD:DnL B w (.slice p len cap) ds) (hr:∀ x,R x->B<=x/\x<w.heap.size) :
  SeqStopsK Fence.wide n Tryz.prog 64 #[.pointer (some ⟨w.heap.size,0,none⟩),.pointer (some ⟨w.heap.size+1,0,none⟩),.pointer (some ⟨w.heap.size+1+1,0,none⟩)] (fun x:Int × Int=>#[Value.int .i64 x.1,Value.int .i64 x.2]) (KC R) (fun ys=>ys=exF rd wt 0 ds) (fun pre=>pre <+: exF rd wt 0 ds) ds.length (exW w p len cap rd wt):=fun l J Jx W hW hJ _ hY h0=>by
 have hs:(exW w p len cap rd wt).heap.size=w.heap.size+3:=by simp
 have c0:=(ai4 w (.slice p len cap) 38).1;have c1:=(ai4 (w.alloc (.cells #[.slice p len cap] 38)) (.int .i64 rd) 3).1;have c2:=(ai4 ((w.alloc (.cells #[.slice p len cap] 38)).alloc (.cells #[.int .i64 rd] 3)) (.int .i64 wt) 3).1;have c0:=ar0 (.cells #[.int .i64 wt] 3) (ar0 (.cells #[.int .i64 rd] 3) c0);have c1:=ar0 (.cells #[.int .i64 wt] 3) c1;simp only[World.size_alloc]at c1 c2;have hc0:=(hW.cell (p:=⟨w.heap.size,0,none⟩) (by rw[hs];show w.heap.size<_;omega)).trans c0;have hc1:=(hW.cell (p:=⟨w.heap.size+1,0,none⟩) (by rw[hs];show w.heap.size+1<_;omega)).trans c1;have hc2:=(hW.cell (p:=⟨w.heap.size+1+1,0,none⟩) (by rw[hs];show w.heap.size+1+1<_;omega)).trans c2;have hB1:Below B w (exW w p len cap rd wt):=(((zF B w).alloc hB _).alloc (by simp;omega) _).alloc (by simp;omega) _
 rcases hD.below (hB1.trans (hW.mono (by rw[hs];omega))) with⟨rfl,p',c,e⟩ | ⟨b,off,c,e,hd⟩
 ·simp only[Value.slice.injEq]at e
  obtain⟨rfl,rfl,rfl⟩:=e;exact(aD9 n l w.heap.size _ _ _ _ J W hc0 h0).mono fun e W' ⟨he,hj⟩=>⟨he,.inl ⟨_,rfl,hj⟩⟩
 ·simp only[Value.slice.injEq]at e
  obtain⟨rfl,rfl,rfl⟩:=e;exact aI5 n hn l w.heap.size (w.heap.size+1) (w.heap.size+1+1) B b off ds.length _ rd wt ds rfl hmx R J Jx _ hJ hY W (fun x h=>⟨(hr x h).1,by have h1:=(hr x h).2;have h2:=hW.size;rw[hs]at h2;omega⟩) (fun h=>by have:=(hr _ h).2;omega) (fun h=>by have:=(hr _ h).2;omega) hc0 hc1 hc2 hd h0
def fst0:List (Int × Int)->Int
 | []=>-1
 | p::l=>if 0<p.2 then p.1 else fst0 l
def aF4 (l:List (Int × Int)):Bool:=l.all fun p=>decide (p.2<=0)
theorem aZ6 {l:List (Int × Int)} {x:Int × Int} (hl:aF4 l=true) (h:x.2<=0):aF4 (l ++ [x])=true:=by
 unfold aF4 at *;rw[List.all_append,hl]
 simpa using h
theorem b74 {l:List (Int × Int)} (h:aF4 l=true):fst0 l=-1:=by
 induction l with
 | nil=>rfl
 | cons p l ih =>
  simp only[aF4,List.all_cons,Bool.and_eq_true,decide_eq_true_eq]at h
  show (if 0<p.2 then p.1 else fst0 l)=_
  rw[if_neg (by omega),ih h.2]
theorem b75 {l m:List (Int × Int)} {x:Int × Int} (h:aF4 l=true) (hx:0<x.2) (hp:l ++ [x] <+: m):fst0 m=x.1:=by
 obtain⟨q,rfl⟩:=hp
 induction l with
 | nil=>show (if 0<x.2 then x.1 else fst0 q)=_;rw[if_pos hx]
 | cons p l ih =>
  simp only[aF4,List.all_cons,Bool.and_eq_true,decide_eq_true_eq]at h
  show (if 0<p.2 then p.1 else fst0 (l ++ [x] ++ q))=_
  rw[if_neg (by omega),ih h.2]
attribute [local go_sem] Oper.semAt_some
structure Bx3 (a b c e:Int) (w w1:World):Prop where
 cfg:w1.heap[w.heap.size]?=some (.cells #[.int .i64 a,.int .i64 b,.int .i64 c,.int .i64 e] 23 (0,0))
 r1:w1.heap[w.heap.size+1]?=some (.cells #[.int .i64 0] 3 (0,0))
 r2:w1.heap[w.heap.size+1+1]?=some (.cells #[.int .i64 0] 32 (0,0))
 bl:Bl w w1
abbrev wB (a b c e:Int) (w:World):World:=((w.alloc (.cells #[.int .i64 a,.int .i64 b,.int .i64 c,.int .i64 e] 23)).alloc (.cells #[.int .i64 0] 3)).alloc (.cells #[.int .i64 0] 32)
section
variable {a b c e:Int} {w w1 w2:World}
theorem bG3:Bx3 a b c e w (wB a b c e w):=by
 refine⟨?_,?_,?_,(((zF _ w).alloc (zE _) _).alloc (by simp) _).alloc (by simp;omega) _⟩
 ·exact(Below.heap_alloc _ _ _ (by simp;omega)).trans ((Below.heap_alloc _ _ _ (by simp)).trans (zN w _))
 ·have:=(Below.heap_alloc _ (.cells #[.int .i64 0] 32) _ (by simp)).trans (zN (w.alloc (.cells #[.int .i64 a,.int .i64 b,.int .i64 c,.int .i64 e] 23)) (.cells #[.int .i64 0] 3))
  rwa[World.size_alloc]at this
 ·have:=zN ((w.alloc (.cells #[.int .i64 a,.int .i64 b,.int .i64 c,.int .i64 e] 23)).alloc (.cells #[.int .i64 0] 3)) (.cells #[.int .i64 0] 32)
  rwa[World.size_alloc,World.size_alloc]at this
theorem Bx3.on (h:Bx3 a b c e w w1) (hb:Bl w1 w2):Bx3 a b c e w w2 :=
 ⟨(hb.block _ (lt_of_block h.cfg)).trans h.cfg,(hb.block _ (lt_of_block h.r1)).trans h.r1,(hb.block _ (lt_of_block h.r2)).trans h.r2,h.bl.trans (hb.mono h.bl.size)⟩
theorem box1 {t:TypeId} {v:Value} {x:Nat} (h:w1.heap[x]?=some (.cells #[v] t (0,0))):w1.cell? ⟨x,0,none⟩=some v/\w1.frozen? ⟨x,0,none⟩=false :=
 ⟨by rw[zR _ _ 0 _ _ _ h];rfl,by rw[World.frozen?,show w1.heap[(⟨x,0,none⟩:Addr).block]?=_ from h];rfl⟩
theorem aR6 {x:Nat} {v v' u u':Value} (h1:w1.cell? ⟨x,0,none⟩=some u) (h2:w1.cell? ⟨x+1,0,none⟩=some u') :
  ((w1.setCell ⟨x,0,none⟩ v).setCell ⟨x+1,0,none⟩ v').cell? ⟨x,0,none⟩=some v/\((w1.setCell ⟨x,0,none⟩ v).setCell ⟨x+1,0,none⟩ v').cell? ⟨x+1,0,none⟩=some v':=by
 have h3:(w1.setCell ⟨x,0,none⟩ v).cell? ⟨x+1,0,none⟩=some u':=by rw[World.cell?_setCell_other _ _ _ _ (by simp)];exact h2
 exact⟨by rw[World.cell?_setCell_other _ _ _ _ (by simp)];exact World.cell?_setCell_same' _ _ _ (by rw[h1];rfl),World.cell?_setCell_same' _ _ _ (by rw[h3];rfl)⟩
end
section
variable (a b c e:Int) (p:Option Addr) (len cap:Nat) (w:World)
theorem late_ok (hc:cfgB a b c e=true) (ds:List Dn) (hmx:ds.length<=9223372036854775807) (hD:DnL w.heap.size w (.slice p len cap) ds) (hz:allD (cnL ds)=true) :
  Calls Tryz.prog 14 #[cfgV a b c e,.slice p len cap] w fun r w'=>r=.returned (okV (fst0 (exF (rdN c) (wrN b c e) 0 ds)))/\Bl w w':=by
 have HR:=zH (fun W=>zy0 a b c e W hc);have HW:=zH (fun W=>aC4 a b c e W hc);have HM:=zH (fun W h=>ba0 p len cap ds hmx W h);have HD:=zH hD;have HZ:=zH hz;clear hc hD hz;refine(callsIn_wide (n:=3)).1 (callsIn_of_wp_marks Tryz.func14 rfl trivial ?_ rfl);simp only[Tryz.ntmps14,List.size_toArray,List.length_cons,List.length_nil,Nat.reduceAdd,Nat.reduceSub,Array.replicate_succ,Array.replicate_zero,List.push_toArray,List.append_toArray,List.nil_append,List.cons_append]
 gi_wp2_with (first
  | (refine⟨trivial,?_⟩;gi_at_call 15;refine(callsIn_wide.2 (HR.out _)).mono ?_;rintro r w1 ⟨rfl,hb⟩;have HX1:=zH ((bG3 (a:=a) (b:=b) (c:=c) (e:=e)).on hb);obtain⟨q0,q1,q2,q3,q4⟩:=cells4 HX1.out.cfg;clear hb)
  | (refine⟨trivial,?_⟩;gi_at_call 24;refine(callsIn_wide.2 (HW.out _)).mono ?_;rintro r w2 ⟨rfl,hb⟩;have HX2:=zH (HX1.out.on hb);clear hb q0 q1 q2 q3)
  | (refine⟨trivial,?_⟩;gi_at_call 37;refine(callsIn_wide.2 (HM.out _ ((HD.out.below HX2.out.bl).mono HX2.out.bl.size))).mono ?_;rintro r w3 ⟨rfl,hb⟩;rw[HZ.out];have HX3:=zH (HX2.out.on hb);clear hb)
  | (refine⟨trivial,?_⟩;gi_at_call 38;refine(callsIn_wide.2 (aI6 p len cap (rdN c) (wrN b c e) _)).mono ?_;rintro r w4 ⟨rfl,rfl⟩;have HX:=zH (HX3.out.on (show Bl w3 (exW w3 p len cap (rdN c) (wrN b c e)) from(((zF _ _).alloc (zE _) _).alloc (by simp) _).alloc (by simp;omega) _))))
 have hs:(exW w3 p len cap (rdN c) (wrN b c e)).heap.size=w3.heap.size+3:=by simp
 have h3:w.heap.size+1+1<w3.heap.size:=lt_of_block HX3.out.r2;obtain⟨u1,u2⟩:=box1 HX.out.r1;obtain⟨u3,u4⟩:=box1 HX.out.r2;refine wpIn_rangeFunc_ownF rfl (by omega) (gf:=64) (lb:=#[.pointer (some ⟨w3.heap.size,0,none⟩),.pointer (some ⟨w3.heap.size+1,0,none⟩),.pointer (some ⟨w3.heap.size+1+1,0,none⟩)]) rfl trivial (enters_of Tryz.func64 (by kernel_rfl) rfl)
  (aA2 _ (by omega) (fun x=>x=w.heap.size+1\/x=w.heap.size+1+1) w.heap.size p len cap (rdN c) (wrN b c e) ds hmx w3 (by omega) (HD.out.below HX3.out.bl) (fun x h=>by rcases h with rfl | rfl <;> exact⟨by omega,by omega⟩)) KC.trans (fun W l o o' _ h hc _=>KC.put W l o o' h hc) (zF _ _) (fun _=>rfl)
  (fun pre W=>(aF4 pre=true/\(W.cell? ⟨w.heap.size+1,0,none⟩=some (.int .i64 0)/\W.frozen? ⟨w.heap.size+1,0,none⟩=false)/\W.cell? ⟨w.heap.size+1+1,0,none⟩=some (.int .i64 0)/\W.frozen? ⟨w.heap.size+1+1,0,none⟩=false)/\Bl w W)
  (fun c pre W=>(c=.ret/\(∃ q x,pre=q ++ [x]/\aF4 q=true/\0<x.2/\W.cell? ⟨w.heap.size+1,0,none⟩=some (.int .i64 x.1)/\W.cell? ⟨w.heap.size+1+1,0,none⟩=some (.int .i64 0)))/\Bl w W)
  (OwnFrom.and (Own.from (fun s A B row hs hg hr=>⟨hs.1,⟨cell_kept hs.2.1.1 hg hr,(frozen_kept hs.2.1.1 hg hr).trans hs.2.1.2⟩,cell_kept hs.2.2.1 hg hr,(frozen_kept hs.2.2.1 hg hr).trans hs.2.2.2⟩) _) (ownFrom_below (zE _) (by rw[hs];omega)))
  (fun c=>OwnFrom.and (Own.from (fun s A B row hs hg hr=>by
   obtain⟨e1,q,x,e2,e3,e4,e5,e6⟩:=hs;exact⟨e1,q,x,e2,e3,e4,cell_kept e5 hg hr,cell_kept e6 hg hr⟩) _) (ownFrom_below (zE _) (by rw[hs];omega)))
  ⟨⟨rfl,⟨u1,u2⟩,u3,u4⟩,HX.out.bl⟩
  (fun x=>{ tmps:=#[cfgV a b c e,.slice p len cap,.pointer (some ⟨w.heap.size,0,none⟩),undef,.pointer (some ⟨w.heap.size+1,0,none⟩),.pointer (some ⟨w.heap.size+1+1,0,none⟩),.int .i64 (rdN c),.int .i64 0,.int .i64 (wrN b c e),.int .i64 0,.int .i64 x.1,.int .i64 x.2,okV (rdN c),cfgV a b c e,okV (rdN c),.int .i64 (rdN c),.int .i64 0,.int .i64 0,.bool false,undef,okV (wrN b c e),cfgV a b c e,okV (wrN b c e),.int .i64 (wrN b c e),.int .i64 0,.slice p len cap,.bool true,.bool false,.slice p len cap,.int .i64 (rdN c),.int .i64 (wrN b c e),.func (.func 64) #[] #[.pointer (some ⟨w3.heap.size,0,none⟩),.pointer (some ⟨w3.heap.size+1,0,none⟩),.pointer (some ⟨w3.heap.size+1+1,0,none⟩)],.int .i64 x.1,.int .i64 x.2,undef,undef,undef],defers:=[] }) ?assign ?body ?done ?stop
 case assign =>
  intro l x W K hK
  gi_wp2
  exact hK
 case body =>
  rintro l pre x W ⟨⟨hp,⟨c1,f1⟩,c2,f2⟩,hB⟩ _
  by_cases h1:0<x.2
  ·gi_wp2
   refine⟨(KeepsOthers.setCell _ _ _).trans (KeepsOthers.setCell _ _ _),⟨rfl,pre,x,rfl,hp,h1,?_,?_⟩,(hB.setCell (p:=⟨w.heap.size+1,0,none⟩) (by simp) _).setCell (p:=⟨w.heap.size+1+1,0,none⟩) (by simp;omega) _⟩
   ·exact(aR6 c1 c2).1
   ·exact(aR6 c1 c2).2
  ·gi_wp2
   exact⟨KeepsOthers.refl _,KC.refl _ _,⟨aZ6 hp (by omega),⟨c1,f1⟩,c2,f2⟩,hB⟩
 case done =>
  rintro D ys W hD' rfl ⟨⟨hp,⟨c1,f1⟩,c2,f2⟩,hB⟩ hK
  gi_wp2
  have hK':=((KeepsOthers.setCell W ⟨w.heap.size+1,0,none⟩ (.int .i64 (-1))).trans (KeepsOthers.setCell _ ⟨w.heap.size+1+1,0,none⟩ (.int .i64 0))).same D _ hK rfl;refine⟨by simp,.inl ⟨_,_,rfl,run_takeDeferred hK',?_⟩⟩;have e12:=aR6 (v:=.int .i64 (-1)) (v':=.int .i64 0) c1 c2;have d1:=cell_kept e12.1 (grownBy_putObj' _ D (.deferred none)) (fun r e=>by cases e;exact⟨_,hK',rfl⟩);have d2:=cell_kept e12.2 (grownBy_putObj' _ D (.deferred none)) (fun r e=>by cases e;exact⟨_,hK',rfl⟩);refine⟨okV (-1),?_,by rw[b74 hp],((hB.setCell (p:=⟨w.heap.size+1,0,none⟩) (by simp) _).setCell (p:=⟨w.heap.size+1+1,0,none⟩) (by simp;omega) _).trans (belowK_b (w:=w) (zE _) _ D _ _ (by rw[hs]at hD';omega) hK' rfl rfl)⟩
  simp[results,Tryz.f14,go_sem,d1,d2]
 case stop =>
  rintro D cc pre W hD' hpre ⟨⟨rfl,q,x,rfl,hq,hx,c1,c2⟩,hB⟩ hK
  gi_wp2
  refine⟨by simp,.inl ⟨_,_,rfl,run_takeDeferred hK,?_⟩⟩;have d1:=cell_kept c1 (grownBy_putObj' _ D (.deferred none)) (fun r e=>by cases e;exact⟨_,hK,rfl⟩);have d2:=cell_kept c2 (grownBy_putObj' _ D (.deferred none)) (fun r e=>by cases e;exact⟨_,hK,rfl⟩);refine⟨okV x.1,?_,by rw[b75 hq hx hpre],hB.trans (belowK_b (w:=w) (zE _) W D _ _ (by rw[hs]at hD';omega) hK rfl rfl)⟩
  simp[results,Tryz.f14,go_sem,d1,d2]
end
abbrev zI:Value:=.int .i64 0
abbrev zS:Value:=.slice none 0 0
def lv0:Array Value:=#[zI,zI,zI,.int .i64 1,zS,zI,zI,zS,zS,zS,zI,zI,zI,zI,zI,.int .i64 86,zI,zI,zI]
def lv1 (t:Int):Array Value:=#[zI,zI,zI,.int .i64 2,zS,zI,zI,zS,zS,zS,zI,zI,zI,zI,zI,zI,.int .i64 1,.int .i64 10,.int .i64 t]
abbrev lvC (t:Int):Array Value:=#[zI,zI,zI,.int .i64 1,zS,zI,zI,zS,zS,zS,zI,zI,zI,zI,zI,.int .i64 86,zI,zI,zI,zI,zI,zI,.int .i64 2,zS,zI,zI,zS,zS,zS,zI,zI,zI,zI,zI,zI,.int .i64 1,.int .i64 10,.int .i64 t]
def lvD (t:Int):List Dn:=[⟨1,0,86,0,0,0⟩,⟨2,0,0,1,10,t⟩]
theorem bl3 (t:Int):lvC t=lv0 ++ lv1 t:=by simp[lv0,lv1]
theorem bJ7 (t:Int) (k j:Nat) (hk:k<2) (hj:j<19):(lvC t)[k*19+j]?=(if k=0 then lv0 else lv1 t)[j]?:=by
 rw[bl3]
 match k,hk with
 | 0,_=>rw[if_pos rfl,Nat.zero_mul,Nat.zero_add,Array.getElem?_append_left (by simpa[lv0]using hj)]
 | 1,_=>rw[if_neg (by decide),Array.getElem?_append_right (by simp[lv0])];simp[lv0]
theorem bP6 (t:Int) (w:World):DnL (w.alloc (.cells (lvC t) 46)).heap.size (w.alloc (.cells (lvC t) 46)) (.slice (some ⟨w.heap.size,0,none⟩) 2 2) (lvD t):=by
 refine .inr ⟨w.heap.size,0,2,rfl,by simp,fun k d hk=>?_⟩;have hlt:k<2:=(List.getElem?_eq_some_iff.1 hk).1;refine⟨if k=0 then lv0 else lv1 t,fun j hj=>?_,?_⟩
 ·rw[zR _ _ _ _ _ _ (zN w (.cells (lvC t) 46)),Nat.zero_add,bJ7 t k j hlt hj]
 ·match k,hlt with
  | 0,_=>obtain rfl:_=d:=Option.some.inj hk;exact⟨rfl,by simp[lv0,Value.oneCell'],rfl,rfl,rfl,rfl,rfl,rfl⟩
  | 1,_=>obtain rfl:_=d:=Option.some.inj hk;exact⟨rfl,by simp[lv1,Value.oneCell'],rfl,rfl,rfl,rfl,rfl,rfl⟩
theorem b98 {t k:Int} (h1:allD (cnL (lvD t))=true) (h2:fst0 (exF (rdN 20) (wrN 2 20 1) 0 (lvD t))=k) (w:World) :
  Calls Tryz.prog 14 #[cfgV 1 2 20 1,.slice (some ⟨w.heap.size,0,none⟩) 2 2] (w.alloc (.cells (lvC t) 46)) fun r w'=>r=.returned (okV k)/\Bl w w':=by
 refine(late_ok 1 2 20 1 _ 2 2 _ rfl (lvD t) (show 2<=9223372036854775807 by decide) (bP6 t w) h1).mono ?_;rintro r w' ⟨rfl,hb⟩;exact⟨by rw[h2],a17 ((zF _ w).alloc (zE _) _) hb⟩
theorem zy4 (w:World):Calls Tryz.prog 9 #[] w fun e w'=>e=.returned (.bool true)/\Bl w w':=by
 have HR:=zH (fun W=>zy0 1 2 20 1 W rfl);have HW:=zH (fun W=>aC4 1 2 20 1 W rfl);have HL1:=zH (fun W=>b98 (t:=248) (k:=-1) rfl (by kernel_rfl) W);have HL2:=zH (fun W=>b98 (t:=249) (k:=1) rfl (by kernel_rfl) W);have hr:rdN 20=86:=rfl;have hw:wrN 2 20 1=119:=rfl;rw[hr]at HR;rw[hw]at HW;go_enter Tryz.func9,Tryz.ntmps9
 go_wp2_with (first
  | (go_at_call 15;refine(HR.out _).mono ?_;rintro r w1 ⟨rfl,hb⟩;have HB1:=zH hb;have HX1:=zH (av8 hb (zN w _));obtain⟨q0,q1,q2,q3,q4⟩:=cells4 HX1.out;clear hb)
  | (go_at_call 24;refine(HW.out _).mono ?_;rintro r w2 ⟨rfl,hb⟩;have HB2:=zH hb;have HX2:=zH (av8 hb HX1.out);obtain⟨s0,s1,s2,s3,s4⟩:=cells4 HX2.out;clear hb q0 q1 q2 q3)
  | (go_at_call 14;refine(HL1.out _).mono ?_;rintro r w3 ⟨rfl,hb⟩;have HB3:=zH hb;have HX3:=zH (av8 hb HX2.out);obtain⟨t0,t1,t2,t3,t4⟩:=cells4 HX3.out;clear hb s0 s1 s2 s3 HL1)
  | (go_at_call 14;refine(HL2.out _).mono ?_;rintro r w4 ⟨rfl,hb⟩;have HB4:=zH hb;clear hb))
 go_ret;exact⟨rfl,a17 (a17 (a17 (a17 ((zF _ w).alloc (zE _) _) HB1.out) HB2.out) HB3.out) HB4.out⟩
def lateB (rd wt:Int) (d:Dn):Bool:=if d.tag=2 then decide (0<=d.mark) && decide (wrap64 (wrap64 (d.ahead+1)*wt)<wrap64 (d.til - d.frm)) else decide (rd<d.steps)
def rfst (rd wt:Int):Nat->List Dn->Int
 | _,[]=>-1
 | k,d::ds=>if lateB rd wt d then (k:Int) else rfst rd wt (k+1) ds
def okD (d:Dn):Bool:=allD (cn4 d)
theorem zy2 {x:Int}:inD x=true ↔ 0<=x/\x<=1099511627776:=by simp[inD]
theorem bk8 {rd wt:Int} {d:Dn} (h:okD d=true) (hr:0<=rd/\rd<=100000) (hw:0<=wt/\wt<=100000):lateB rd wt d=(!skB d && decide (0<exc rd wt d)):=by
 have h':inD d.steps=true/\inD d.ahead=true/\inD d.frm=true/\inD d.til=true:=by simpa[okD,allD,cn4]using h
 obtain⟨s,a,f,t⟩:=h';rw[zy2]at s a f t;have m1:(d.ahead+1)*wt<=1099511627777*100000:=Int.mul_le_mul (by omega) hw.2 hw.1 (by omega);have m0:0<=(d.ahead+1)*wt:=Int.mul_nonneg (by omega) hw.1;have w1:wrap64 (d.ahead+1)=d.ahead+1:=Go.IntWalk.wrap64_in _ ⟨by omega,by omega⟩;have w2:wrap64 ((d.ahead+1)*wt)=(d.ahead+1)*wt:=Go.IntWalk.wrap64_in _ ⟨by omega,by omega⟩;have w3:wrap64 (d.til - d.frm)=d.til - d.frm:=Go.IntWalk.wrap64_in _ ⟨by omega,by omega⟩;have w4:wrap64 (d.til - d.frm - (d.ahead+1)*wt)=d.til - d.frm - (d.ahead+1)*wt:=Go.IntWalk.wrap64_in _ ⟨by omega,by omega⟩;have w5:wrap64 (d.steps - rd)=d.steps - rd:=Go.IntWalk.wrap64_in _ ⟨by omega,by omega⟩;unfold lateB skB exc;rw[Bool.eq_iff_iff]
 by_cases h2:d.tag=2
 ·rw[if_pos h2,if_pos h2,w1,w2,w3,w4]
  simp[h2]
 ·rw[if_neg h2,if_neg h2,w5]
  simp[h2]
theorem zy6 {rd wt:Int} (hr:0<=rd/\rd<=100000) (hw:0<=wt/\wt<=100000):∀ (ds:List Dn) (k:Nat),(∀ d∈ds,okD d=true)->fst0 (exF rd wt k ds)=rfst rd wt k ds
 | [],_,_=>rfl
 | d::ds,k,h=>by
  have e:=bk8 (h d (by simp)) hr hw;have ih:=zy6 hr hw ds (k+1) (fun d' hd=>h d' (by simp[hd]))
  show fst0 (ex1 rd wt k d ++ exF rd wt (k+1) ds)=if lateB rd wt d then (k:Int) else rfst rd wt (k+1) ds
  rw[e,<- ih];unfold ex1
  cases hs:skB d
  ·simp only[Bool.false_eq_true,if_false,Bool.not_false,Bool.true_and,decide_eq_true_eq]
   rfl
  ·simp
theorem zy5 {rd wt:Int}:∀ (l:List Dn) (k:Nat),(∀ d∈l,lateB rd wt d=false)->rfst rd wt k l=-1
 | [],_,_=>rfl
 | d::l,k,h=>by
  show (if lateB rd wt d then (k:Int) else rfst rd wt (k+1) l)=_
  rw[h d (by simp),if_neg Bool.false_ne_true];exact zy5 l (k+1) (fun x hx=>h x (by simp[hx]))
end Go.Proofs.YtkihgongjedheaaGreatDoor.Bo
namespace Go.Proofs.YtkihgongjedheaaGreatDoor.En
open Go.ChangeShapes Go.WideShapes Go.ChangeAt Go.RowKit Num Ww
open Rr (Rx a16 InX okW u64B Alike step_in newX a44)
def dnZ (Z:Es) (i:Nat):Bo.Dn:=⟨tagT (Z.X.H.D i).tx,bJ8 (Z.X.H.D i).tx,aM4 (Z.X.H.D i).tx,Z.A i,Z.X.fr i,if (Z.X.H.D i).en=0 then (Z.X.R:Int) else (Z.X.to_ i:Int)⟩
def dnL (Z:Es):List Bo.Dn:=(List.range Z.X.H.dn).map (dnZ Z)
theorem bi4 (s:Su) (Z:Es) (i:Nat) (D:Rr.Dd):Bo.DnC (ar4 s Z i D (Z.X.R:Int)) (dnZ Z i):=⟨rfl,ac2 ..,rfl,rfl,rfl,rfl,rfl,rfl⟩
section
variable {s:Su} {Z:Es} {i:Nat}
structure Fine (s:Su) (d:Bo.Dn):Prop where
 ok:Bo.okD d=true
 late:Bo.lateB (Bo.rdN s.c) (Bo.wrN s.b s.c s.e) d=false
 own:d.tag≠2->d.steps<=Bo.rdN s.c
 to_:d.frm<=d.til
 ah:0<=d.ahead
theorem bS7 (s:Su):Wn s=Bo.wrN s.b s.c s.e:=by unfold Wn Bo.wrN Bo.rdN;omega
theorem bu8 (hs:SuIn s) (wi:WI s Z.X) (n:NI s Z) (rn:Z.X.R<=Z.X.H.N) (hN:Z.X.H.N<=1000000) (hi:i<Z.X.H.dn):Fine s (dnZ Z i):=by
 obtain⟨S,k,pt,ld,o,r⟩:=n.ri;obtain⟨⟨_,_⟩,⟨_,_⟩,⟨c1,c2⟩,⟨e1,e2⟩⟩:=Md.cfgB_iff.1 hs.cfg;have b8:=hs.b8;have al:=n.al i hi;have fr:=n.fr i hi;have tg:=n.tg.D i hi;obtain⟨_,d2,_,_,_,_,_⟩:=wi.D i hi;have un:=r.un.deed i hi;have til:(Z.X.fr i:Int)<=(dnZ Z i).til/\(dnZ Z i).til<=(Z.X.R:Int):=by
  show _<=(if (Z.X.H.D i).en=0 then (Z.X.R:Int) else (Z.X.to_ i:Int))/\(if (Z.X.H.D i).en=0 then (Z.X.R:Int) else (Z.X.to_ i:Int))<=_
  split
  ·omega
  ·next q =>
   have:=n.to_ i hi q;omega
 have st:0<=(dnZ Z i).steps/\(dnZ Z i).steps<=1000000/\((dnZ Z i).tag≠2->(dnZ Z i).steps<=Bo.rdN s.c):=by
  show 0<=aM4 (Z.X.H.D i).tx/\aM4 (Z.X.H.D i).tx<=1000000/\(tagT (Z.X.H.D i).tx≠2->aM4 (Z.X.H.D i).tx<=Bo.rdN s.c)
  revert tg d2 un
  generalize (Z.X.H.D i).tx=y
  intro tg d2 un;unfold Bo.rdN
  rcases y with⟨m,x⟩ | ⟨m,x⟩
  ·have f:=d2.1.few_steps
   have p:=d2.1.pos;have u:x.m.fuel=s.c:=un;rw[u]at f
   show 0<=x.steps/\x.steps<=1000000/\(_->x.steps<=_)
   exact⟨p,by omega,fun _=>by omega⟩
  ·obtain⟨_,_,_,_,p1,p2⟩:=d2
   show 0<=x.steps/\x.steps<=1000000/\(x.tag≠2->x.steps<=_)
   exact⟨p1,by omega,fun q=>absurd tg q⟩
 have ok:Bo.okD (dnZ Z i)=true:=by
  have a1:Bo.inD (dnZ Z i).steps=true:=Bo.zy2.2 ⟨st.1,by omega⟩;have a2:Bo.inD (dnZ Z i).ahead=true:=Bo.zy2.2 ⟨al.1,by have:=al.2;show Z.A i<=_;omega⟩;have a3:Bo.inD (dnZ Z i).frm=true:=Bo.zy2.2 ⟨by show (0:Int)<=(Z.X.fr i:Int);omega,by show (Z.X.fr i:Int)<=_;omega⟩;have a4:Bo.inD (dnZ Z i).til=true:=Bo.zy2.2 ⟨by omega,by omega⟩
  simp[Bo.okD,Bo.allD,Bo.cn4,a1,a2,a3,a4]
 refine⟨ok,?_,st.2.2,til.1,al.1⟩;have hr:0<=Bo.rdN s.c/\Bo.rdN s.c<=100000:=by unfold Bo.rdN;omega
 have hw:0<=Bo.wrN s.b s.c s.e/\Bo.wrN s.b s.c s.e<=100000:=by unfold Bo.wrN Bo.rdN;omega
 unfold Bo.lateB
 split
 ·next q =>
  have q:tagT (Z.X.H.D i).tx=2:=q;have hu:isU (Z.X.H.D i).tx=true:=by
   revert q tg
   generalize (Z.X.H.D i).tx=y
   intro tg q
   rcases y with⟨m,x⟩ | ⟨m,x⟩
   ·exact absurd q tg
   ·rfl
  have ah:=n.ah i hi hu;obtain⟨m,x,ex⟩:∃ m x,(Z.X.H.D i).tx=.inr (m,x):=by
   revert hu
   generalize (Z.X.H.D i).tx=y
   intro hu
   rcases y with⟨m,x⟩ | ⟨m,x⟩
   ·cases hu
   ·exact⟨m,x,rfl⟩
  have bd:(dnZ Z i).til<=(Z.X.fr i:Int)+((Z.X.ah i:Int)+1)*Bo.wrN s.b s.c s.e:=by
   rw[<- bS7]
   show (if (Z.X.H.D i).en=0 then (Z.X.R:Int) else (Z.X.to_ i:Int))<=_
   split
   ·next z=>exact r.going hi ex z
   ·next z=>exact r.fin i m x hi ex z
  rw[<- ah]at bd;have m1:(Z.A i+1)*Bo.wrN s.b s.c s.e<=2147483648*100000:=Int.mul_le_mul (by omega) hw.2 hw.1 (by omega);have m0:0<=(Z.A i+1)*Bo.wrN s.b s.c s.e:=Int.mul_nonneg (by omega) hw.1;have w1:wrap64 ((dnZ Z i).ahead+1)=Z.A i+1:=Go.IntWalk.wrap64_in (Z.A i+1) ⟨by omega,by omega⟩;have w2:wrap64 ((Z.A i+1)*Bo.wrN s.b s.c s.e)=(Z.A i+1)*Bo.wrN s.b s.c s.e:=Go.IntWalk.wrap64_in _ ⟨by omega,by omega⟩;have w3:wrap64 ((dnZ Z i).til - (dnZ Z i).frm)=(dnZ Z i).til - (Z.X.fr i:Int):=Go.IntWalk.wrap64_in ((dnZ Z i).til - (Z.X.fr i:Int)) ⟨by omega,by omega⟩;rw[w1,w2,w3];have:¬ (Z.A i+1)*Bo.wrN s.b s.c s.e<(dnZ Z i).til - (Z.X.fr i:Int):=by omega
  simp[this]
 ·next q =>
  have:=st.2.2 q
  simpa using this
theorem ba8 (hs:SuIn s) (wi:WI s Z.X) (n:NI s Z) (rn:Z.X.R<=Z.X.H.N) (hN:Z.X.H.N<=1000000):Bo.allD (Bo.cnL (dnL Z))=true/\Bo.fst0 (Bo.exF (Bo.rdN s.c) (Bo.wrN s.b s.c s.e) 0 (dnL Z))=-1:=by
 have fine:∀ d∈dnL Z,Fine s d:=fun d hd=>by
  obtain⟨i,h1,rfl⟩:=List.mem_map.1 hd;exact bu8 hs wi n rn hN (List.mem_range.1 h1)
 have e1:Bo.allD (Bo.cnL (dnL Z))=true:=by
  unfold Bo.allD Bo.cnL;rw[List.all_eq_true];intro x hx;obtain⟨d,h1,h2⟩:=List.mem_flatMap.1 hx;have h3:=(fine d h1).ok;unfold Bo.okD Bo.allD at h3;exact List.all_eq_true.1 h3 x h2
 obtain⟨⟨_,_⟩,⟨_,_⟩,⟨_,_⟩,⟨_,_⟩⟩:=Md.cfgB_iff.1 hs.cfg;refine⟨e1,?_⟩;rw[Bo.zy6 (by unfold Bo.rdN;omega) (by unfold Bo.wrN Bo.rdN;omega) _ 0 (fun d hd=>(fine d hd).ok)];exact Bo.zy5 _ 0 (fun d hd=>(fine d hd).late)
end
def Su.upto (s:Su) (i:Nat):Su:={ s with cl:=s.cl.take i }
theorem am5 (s:Su) (i t:Nat):(s.upto i).cs t=if t<i then s.cs t else []:=by
 show (s.cl.take i).getD t []=if t<i then s.cl.getD t [] else []
 rw[zG,List.getElem?_take]
 by_cases q:t<i
 ·rw[if_pos q,if_pos q,zG]
 ·rw[if_neg q,if_neg q];rfl
theorem aG8 {s:Su} {i:Nat} (h:s.cl.length<=i):s.upto i=s:=by
 unfold Su.upto;rw[List.take_of_length_le h]
def rdI (s:Su) (i:Nat):Sd.Rd:={ n:=s.n,g:=fun k=>decide (k<s.n) && !(decide (k<i) && decide ((s.cs k).length=0)),s:=Sd.noneF,o:=0 }
theorem bC2 {s:Su} {i:Nat} (hi:i<s.n):Alk (if (s.cs i).length=0 then Sd.finN (rdI s i) i else rdI s i) (rdI s (i+1)):=by
 have hg:(rdI s i).g i=true:=by
  show (decide (i<s.n) && !(decide (i<i) && _))=true
  rw[zT hi,zU (Nat.lt_irrefl i)]
  rfl
 have G:∀ k,k≠i->(rdI s (i+1)).g k=(rdI s i).g k:=fun k hk=>by
  show (decide (k<s.n) && !(decide (k<i+1) && _))=(decide (k<s.n) && !(decide (k<i) && _))
  rw[show decide (k<i+1)=decide (k<i) from decide_eq_decide.2 ⟨fun q=>by omega,fun q=>by omega⟩]
 by_cases q:(s.cs i).length=0
 ·rw[if_pos q]
  have gi:(rdI s (i+1)).g i=false:=by
   show (decide (i<s.n) && !(decide (i<i+1) && decide ((s.cs i).length=0)))=false
   rw[zT (Nat.lt_succ_self i),zT q]
   simp
  unfold Sd.finN;rw[if_pos hg];have no:Sd.overB { rdI s i with g:=Sd.putF (rdI s i).g i false,s:=Sd.putF (rdI s i).s i false }=false:=by
   rw[Bool.eq_false_iff];unfold Sd.overB;rw[Ne,Bool.and_eq_true,Sd.eq8_iff];rintro⟨z1,z2⟩;rw[Bool.not_eq_true',Bool.eq_false_iff]at z1
   apply z1
   refine(Sd.eq8_iff _ _).2 fun k hk=>?_
   have:=z2 k hk;rw[<- this]
   show (if k=i then false else false)=false
   simp
  unfold Sd.settleM;rw[no,if_neg Bool.false_ne_true];refine⟨rfl,rfl,fun k hk=>?_,fun k hk=>?_⟩
  ·show (if k=i then false else (rdI s i).g k)=_
   by_cases e:k=i
   ·rw[if_pos e,e,gi]
   ·rw[if_neg e,G k e]
  ·show (if k=i then false else false)=false
   simp
 ·rw[if_neg q]
  refine⟨rfl,rfl,fun k hk=>?_,fun k hk=>rfl⟩
  by_cases e:k=i
  ·rw[e,hg]
   show true=(decide (i<s.n) && !(decide (i<i+1) && decide ((s.cs i).length=0)))
   rw[zT hi,zU q]
   simp
  ·exact(G k e).symm
theorem bC1 (s:Su):Alk (rdI s s.n) (rdZ s (X0 s)):=by
 refine⟨rfl,rfl,fun k hk=>?_,fun k hk=>?_⟩
 ·show (decide (k<s.n) && !(decide (k<s.n) && decide ((s.cs k).length=0)))=(decide (k<s.n) && !finB (X0 s).H.E k)
  have e:finB (X0 s).H.E k=decide ((s.cs k).length=0):=by
   rw[aJ0 rfl]
   show decide (0=(s.cs k).length)=_
   exact decide_eq_decide.2 ⟨fun q=>q.symm,fun q=>q.symm⟩
  rw[e]
  cases decide (k<s.n) <;> rfl
 ·show false=(decide (k<s.n) && (false && _))
  simp
section
variable {w w':World} {f:Ex} {v:Ev} {s:Su} {d:Ed} {i:Nat}
theorem EnAt.setK (h:EnAt w f v (s.upto i) d) (hi:i<s.n) (hil:i<s.cl.length) {R:List Nat} {gl:Nat} (k:Bl w w') (a:Abv w.heap.size R) (b:Blw w' R) (hR:∀ j,j<(s.cs i).length->ClIn w' R (some ⟨gl,0,none⟩) j ((s.cs i).getD j (0,[]))) {n c:Nat} (hn:(s.cs i).length=n) :
  EnAt (w'.setCell ⟨f.gc,i*3,none⟩ (.slice (some ⟨gl,0,none⟩) n c)) f { v with R:=R ++ v.R } (s.upto (i+1)) { d with cr:=updA d.cr i ((d.cr i).setIfInBounds 0 (.slice (some ⟨gl,0,none⟩) n c)) }/\Ext f v { v with R:=R ++ v.R } w (w'.setCell ⟨f.gc,i*3,none⟩ (.slice (some ⟨gl,0,none⟩) n c)):=by
 obtain⟨h1,x1⟩:=h.grow k a b;have hin:i<(s.upto i).n:=hi;have tt:Turn (own f { v with R:=R ++ v.R } 3) (own f { v with R:=R ++ v.R } 3) w' (w'.setCell ⟨f.gc,i*3,none⟩ (.slice (some ⟨gl,0,none⟩) n c)):=a23 w' f.gc _ _;have kk:=h1.but tt;have k5:=kk 5 (by omega);have A:=h1.crs.put hin (j:=0) (by omega) (.slice (some ⟨gl,0,none⟩) n c);have hsz:=h1.crs.sz i hin;refine⟨⟨h1.kBox (kk 0 (by omega)),h1.kMem (kk 1 (by omega)),h1.kRds (kk 2 (by omega)),A,h1.kTrn (kk 4 (by omega)),h1.tsz,⟨ay7 h1.fx.tab k5 h1.fx.tin,h1.fx.tin,fun j hj=>(h1.fx.prg j hj).keep k5 fun _ q=>q,fun t ht=>?_⟩,fun _ _ e=>h1.kTx k5 e (kk _ (by omega)),h1.no,h1.kDl k5,h1.kBl k5,h1.apart⟩,x1.trans (aw4 h1 (by omega) tt)⟩;rw[am5]
 by_cases q:t=i
 ·subst q
  rw[if_pos (Nat.lt_succ_self _)];refine⟨some ⟨gl,0,none⟩,c,?_,fun j hj=>?_⟩
  ·dsimp only
   rw[a22,Array.getElem?_setIfInBounds_self_of_lt (by omega),hn]
  ·have e:(s.upto (t+1)).call t j=(s.cs t).getD j (0,[]):=by
    show ((s.upto (t+1)).cs t).getD j (0,[])=_
    rw[am5,if_pos (Nat.lt_succ_self _)]
   rw[e];exact(hR j hj).keep ⟨k5.1,fun z hz=>k5.2 z (List.mem_append.2 (.inl hz))⟩ fun z hz=>List.mem_append.2 (.inl hz)
 ·obtain⟨qa,qc,e1,e2⟩:=h1.fx.cls t ht
  rw[am5]at e1 e2;have ec:(if t<i then s.cs t else [])=(if t<i+1 then s.cs t else []):=by
   by_cases z:t<i
   ·rw[if_pos z,if_pos (by omega)]
   ·rw[if_neg z,if_neg (by omega)]
  rw[<- ec];refine⟨qa,qc,?_,fun j hj=>?_⟩
  ·dsimp only
   rw[a34 _ _ q];exact e1
  ·have e:(s.upto (i+1)).call t j=(s.upto i).call t j:=by
    show ((s.upto (i+1)).cs t).getD j (0,[])=((s.upto i).cs t).getD j (0,[])
    rw[am5,am5,ec]
   rw[e];exact(e2 j hj).keep k5 fun _ z=>z
end
structure Frs (B:Nat) (f:Ex) (v:Ev):Prop where
 own:∀ k∈fF f v,B<=k
 ro:∀ k∈v.R,k=1\/B<=k
section
variable {w w':World} {f:Ex} {v v':Ev} {s:Su} {d:Ed} {B i:Nat}
theorem Frs.ext (h:Frs B f v) (hB:B<=w.heap.size) (x:Ext f v v' w w'):Frs B f v'/\Below B w w' :=
 ⟨⟨fun k hk=>(x.turn.own k hk).elim (h.own k) (zQ hB),fun k hk=>(x.ro k hk).elim (h.ro k) (fun q=>.inr (zQ hB q))⟩,
  ⟨x.turn.os,x.turn.tape,x.turn.output,x.turn.size,fun k hk=>x.turn.block k (zL hk hB) fun q=>by have:=h.own k q;omega⟩⟩
def d0 (s:Su):Ed:=⟨0,aa1 s,0,rdI s 0,fun _=>#[.slice none 0 0,.int .i64 0,.int .i64 0],0,fun _=>#[],fun _=>none,fun _=>none⟩
def v0 (R:List Nat):Ev:=⟨none,0,fun _=>0,fun _=>[],1::R⟩
theorem bv2 (h:Shaped5 w):1<w.heap.size:=zK w _ (h.shp 0 (by decide)).1
theorem bi9 {b mb mg rb gc pp:Nat} {R:List Nat} (hb:w.heap[b]?=some (.cells (eBox s ⟨b,mb,mg,rb,gc,pp⟩ (v0 R) (d0 s)) 76 (0,0))) (hm:MemAt 105 w mb mg (aa1 s) false 0) (hr:Sd.RdAt w rb (Sd.newR s.n)) (hc:Arr w gc 79 3 s.n s.n (d0 s).cr) (hT:Shaped5 w) (hp:∀ i,i<s.pg.length->PgIn w R pp i (s.pg.getD i (0,[]))) (hR:Blw w R)
  (n1:b≠mb/\b≠mg/\b≠rb/\b≠gc/\mb≠rb/\mb≠gc/\mg≠rb/\mg≠gc/\rb≠gc) (n2:∀ k∈1::R,k≠b/\k≠mb/\k≠mg/\k≠rb/\k≠gc):EnAt w ⟨b,mb,mg,rb,gc,pp⟩ (v0 R) (s.upto 0) (d0 s):=by
 have C:∃ c:Nat->Nat,∀ i k,k∈own ⟨b,mb,mg,rb,gc,pp⟩ (v0 R) i->c k=i:=by
  refine⟨fun k=>if k=b then 0 else if k=mb\/k=mg then 1 else if k=rb then 2 else if k=gc then 3 else 5,fun i k hk=>?_⟩;dsimp only
  match i,hk with
  | 0,hk =>
   have e:k=b:=by simpa[own]using hk
   rw[if_pos e]
  | 1,hk =>
   have e:k=mb\/k=mg:=by simpa[own]using hk
   rw[if_neg (by omega),if_pos e]
  | 2,hk =>
   have e:k=rb:=by simpa[own]using hk
   rw[if_neg (by omega),if_neg (by omega),if_pos e]
  | 3,hk =>
   have e:k=gc:=by simpa[own]using hk
   rw[if_neg (by omega),if_neg (by omega),if_neg (by omega),if_pos e]
  | 4,hk=>simp[own,v0,fpR]at hk
  | 5,hk =>
   obtain⟨z0,z1,z2,z3,z4⟩:=n2 k hk;rw[if_neg z0,if_neg (by omega),if_neg z3,if_neg z4]
  | t+6,hk=>simp[own,v0]at hk
 obtain⟨c,C⟩:=C;have al:Alk (Sd.newR s.n) (rdI s 0):=⟨rfl,rfl,fun k _=>by show decide (k<s.n)=(decide (k<s.n) && !(decide (k<0) && _));simp,fun _ _=>rfl⟩;refine⟨hb,⟨false,hm⟩,al.at_ hr,hc,World.ownsRow_nil _ _ _ _,fun i hi=>absurd hi (zI _),⟨hT,List.mem_cons_self ..,fun i hi=>(hp i hi).keep ⟨zE _,fun _ _=>rfl⟩ (fun k hk=>List.mem_cons_of_mem _ hk),fun t ht=>⟨none,0,?_,fun j hj=>?_⟩⟩,fun t y e=>(by cases e),fun _ _=>rfl,fun i D a m e=>(by cases e),fun k hk=>?_,fun i j hij k h1 h2=>hij ((C i k h1).symm.trans (C j k h2))⟩
 ·rw[am5,if_neg (zI _)]
  rfl
 ·rw[am5,if_neg (zI _)]at hj
  exact absurd hj (zI _)
 ·rcases List.mem_cons.1 hk with rfl | q
  ·exact bv2 hT
  ·exact hR k q
structure Beg (w:World) (f:Ex) (v:Ev) (s:Su) (d:Ed) (i B:Nat):Prop where
 en:EnAt w f v (s.upto i) d
 N:d.N=0
 ws:d.ws=aa1 s
 cnt:d.cnt=0
 rd:d.rd=rdI s i
 T:d.T=fun _=>none
 dn:d.dn=0
 lo:∀ t,t<i->∃ qa qc,d.cr t=#[.slice qa (s.cs t).length qc,.int .i64 0,.int .i64 (-1)]
 hi:∀ t,i<=t->d.cr t=#[.slice none 0 0,.int .i64 0,.int .i64 0]
 fr:Frs B f v
theorem beg0 {b mb mg rb gc pp:Nat} {R:List Nat} (h:EnAt w ⟨b,mb,mg,rb,gc,pp⟩ (v0 R) (s.upto 0) (d0 s)) (h1:B<=b/\B<=mb/\B<=mg/\B<=rb/\B<=gc) (h2:Abv B R):Beg w ⟨b,mb,mg,rb,gc,pp⟩ (v0 R) s (d0 s) 0 B:=by
 refine⟨h,rfl,rfl,rfl,rfl,rfl,rfl,fun t ht=>absurd ht (zI _),fun _ _=>rfl,⟨fun k hk=>?_,fun k hk=>?_⟩⟩
 ·obtain⟨j,_,_,hk⟩:=aJ6.1 hk
  match j,hk with
  | 0,hk =>
   have e:k=b:=by simpa[own]using hk
   omega
  | 1,hk =>
   have e:k=mb\/k=mg:=by simpa[own]using hk
   omega
  | 2,hk =>
   have e:k=rb:=by simpa[own]using hk
   omega
  | 3,hk =>
   have e:k=gc:=by simpa[own]using hk
   omega
  | 4,hk=>simp[own,v0,fpR]at hk
  | 5,hk=>omega
  | t+6,hk=>simp[own,v0]at hk
 ·rcases List.mem_cons.1 hk with q | q
  ·exact .inl q
  ·exact .inr (h2 k q)
theorem SuIn.upto (h:SuIn s) (i:Nat):SuIn (s.upto i) :=
 ⟨⟨h.st,h.pg,fun l hl=>h.cl l (List.mem_of_mem_take hl)⟩,h.cfg,h.sl,h.pl,by have:=h.tl;show (((s.cl.take i).length:Nat):Int)<=s.b;rw[List.length_take];omega,fun l hl=>h.ml l (List.mem_of_mem_take hl),fun l hl=>h.may l (List.mem_of_mem_take hl)⟩
theorem Beg.all (h:Beg w f v s d s.n B) (hs:SuIn s):Eng w f v s (Z0 s):=by
 have e:=h.en;rw[aG8 (by have:=hs.tl;have:=hs.nb;omega)]at e;have al:=bC1 s;rw[<- h.rd]at al;refine⟨⟨_,e.reRd al,⟨h.N,h.ws,h.cnt,rfl,h.T,h.dn,fun t ht=>?_,fun i hi=>absurd hi (zI _),fun i hi=>absurd hi (zI _)⟩⟩,WI0 hs,zE _⟩;obtain⟨qa,qc,q⟩:=h.lo t ht;exact⟨qa,qc,q⟩
theorem Beg.mark (h:Beg w f v s d i B) (hi:i<s.n):∃ d',EnAt (w.setCell ⟨f.gc,i*3+2,none⟩ (.int .i64 (-1))) f v (s.upto i) d'/\Ext f v v w (w.setCell ⟨f.gc,i*3+2,none⟩ (.int .i64 (-1)))/\d'={ d with cr:=updA d.cr i #[.slice none 0 0,.int .i64 0,.int .i64 (-1)] }:=by
 obtain⟨e,x⟩:=h.en.setC (t:=i) (j:=2) hi (by omega) (by omega) (.int .i64 (-1));rw[h.hi i (zE _)]at e;exact⟨_,e,x,rfl⟩
theorem Beg.next {w1:World} {v1:Ev} {d1:Ed} {qa:Option Addr} {qc:Nat} (h:Beg w f v s d i B) (hi:i<s.n) (hd:d1={ d with cr:=updA d.cr i #[.slice qa (s.cs i).length qc,.int .i64 0,.int .i64 (-1)] }) (fr:Frs B f v1) (e:EnAt w1 f v1 (s.upto (i+1)) { d1 with rd:=if finI 0 (-1) (s.cs i).length then Sd.finN d1.rd i else d1.rd }):Beg w1 f v1 s { d1 with rd:=rdI s (i+1) } (i+1) B:=by
 subst hd;have al:=bC2 (s:=s) hi;have ef:(if (s.cs i).length=0 then Sd.finN (rdI s i) i else rdI s i)=(if finI 0 (-1) (s.cs i).length then Sd.finN d.rd i else d.rd):=by
  rw[h.rd];unfold finI
  by_cases q:(s.cs i).length=0
  ·rw[if_pos q,if_pos (by simp;omega)]
  ·rw[if_neg q,if_neg (by simp;omega)]
 rw[ef]at al;refine⟨e.reRd al,h.N,h.ws,h.cnt,rfl,h.T,h.dn,fun t ht=>?_,fun t ht=>?_,fr⟩
 ·dsimp only
  by_cases q:t=i
  ·subst q
   rw[a22];exact⟨_,_,rfl⟩
  ·rw[a34 _ _ q]
   exact h.lo t (by omega)
 ·dsimp only
  rw[a34 _ _ (by omega)];exact h.hi t (by omega)
end
abbrev bxO (s:Su) (p4 n5:Int) (mb rb gc pp:Nat):Obj:=.cells #[.int .i64 s.a,.int .i64 s.b,.int .i64 s.c,.int .i64 s.e,.slice (some ⟨pp,0,none⟩) s.pg.length s.pg.length,.int .i64 0,.int .i64 1,.int .i64 2,.int .i64 3,.int .i64 p4,.int .i64 n5,.pointer (some ⟨mb,0,none⟩),.pointer (some ⟨rb,0,none⟩),.slice (some ⟨gc,0,none⟩) s.n s.n,.slice none 0 0,.int .i64 0] 76
structure Mde (u wc:World) (s:Su) (p4 n5:Int) (mb rb b gc pp:Nat) (R:List Nat):Prop where
 box:wc.heap[b]?=some (bxO s p4 n5 mb rb gc pp)
 crs:Arr wc gc 79 3 s.n s.n (d0 s).cr
 prg:∀ i,i<s.pg.length->PgIn wc R pp i (s.pg.getD i (0,[]))
 blw:Blw wc R
 abv:Abv u.heap.size R
 n1:gc∉R
 n2:b∉R
 l1:u.heap.size<=gc
 l2:u.heap.size<=b
 n3:b≠gc
 bel:Bl u wc
section
variable {u5 u6 v1:World} {s:Su} {p4 n5:Int} {mb rb pp:Nat} {R:List Nat} {arr0:Array Value}
theorem bQ1 (hA:∀ u u':World,u'.heap[u.heap.size]?=some (.cells arr0 79 (0,0))->Arr u' u.heap.size 79 3 s.n s.n (d0 s).cr) (k6:Bl u5 u6) (r1:Abv u5.heap.size R) (r2:Blw u6 R) (r3:∀ j,j<s.pg.length->PgIn u6 R pp j (s.pg.getD j (0,[]))):Mde u5 ((u6.alloc (.cells arr0 79)).alloc (bxO s p4 n5 mb rb u6.heap.size pp)) s p4 n5 mb rb (u6.heap.size+1) u6.heap.size pp R:=by
 have b1:=below_alloc u6 (.cells arr0 79);have b2:=b1.alloc b1.size (bxO s p4 n5 mb rb u6.heap.size pp);have e1:(u6.alloc (.cells arr0 79)).heap.size=u6.heap.size+1:=by simp
 have x1:(u6.alloc (.cells arr0 79)).heap[u6.heap.size]?=some (.cells arr0 79 (0,0)):=zN _ _;have x2:((u6.alloc (.cells arr0 79)).alloc (bxO s p4 n5 mb rb u6.heap.size pp)).heap[u6.heap.size+1]?=some (bxO s p4 n5 mb rb u6.heap.size pp):=by rw[<- e1];exact zN _ _
 refine⟨x2,hA u6 _ ((Below.heap_alloc _ _ _ (lt_of_block x1)).trans x1),fun i hi=>(r3 i hi).keep (a26 b2 r2) fun _ q=>q,fun k hk=>zL (r2 k hk) b2.size,r1,fun q=>absurd (r2 _ q) (Nat.lt_irrefl _),fun q=>absurd (r2 _ q) (by omega),k6.size,by have:=k6.size;omega,by omega,k6.trans (b2.mono k6.size)⟩
theorem bQ2 (hA:∀ u u':World,u'.heap[u.heap.size]?=some (.cells arr0 79 (0,0))->Arr u' u.heap.size 79 3 s.n s.n (d0 s).cr) (k5:Bl u5 v1) (hv:v1.heap[u5.heap.size]?=some (.cells arr0 79 (0,0))) (k6:Bl v1 u6) (r1:Abv v1.heap.size R) (r2:Blw u6 R) (r3:∀ j,j<s.pg.length->PgIn u6 R pp j (s.pg.getD j (0,[]))):Mde u5 (u6.alloc (bxO s p4 n5 mb rb u5.heap.size pp)) s p4 n5 mb rb u6.heap.size u5.heap.size pp R:=by
 have b2:=below_alloc u6 (bxO s p4 n5 mb rb u5.heap.size pp);have x2:(u6.alloc (bxO s p4 n5 mb rb u5.heap.size pp)).heap[u6.heap.size]?=some (bxO s p4 n5 mb rb u5.heap.size pp):=zN _ _;have l1:=lt_of_block hv;have l2:=k6.size;refine⟨x2,hA u5 _ ((b2.block _ (by omega)).trans ((k6.block _ l1).trans hv)),fun i hi=>(r3 i hi).keep (a26 b2 r2) fun _ q=>q,fun k hk=>zL (r2 k hk) b2.size,fun k hk=>by have:=r1 k hk;omega,fun q=>by have:=r1 _ q;omega,fun q=>absurd (r2 _ q) (Nat.lt_irrefl _),zE _,by omega,by omega,(k5.trans (k6.mono k5.size)).trans (b2.mono (by omega))⟩
end
section
variable {w w2:World} {f:Ex} {v:Ev} {s:Su} {d:Ed} {i B:Nat}
def Lai (w2:World) (f:Ex) (s:Su) (d:Ed) (i B:Nat):Prop:=∃ v1 qa qc,EnAt w2 f v1 (s.upto (i+1)) { d with cr:=updA d.cr i #[.slice qa (s.cs i).length qc,.int .i64 0,.int .i64 (-1)] }/\Frs B f v1
theorem bF6 (c:Nat->Array Value) (i:Nat) (x y:Array Value):updA (updA c i x) i y=updA c i y:=by
 funext k
 by_cases q:k=i
 ·rw[q,a22,a22]
 ·rw[a34 _ _ q,a34 _ _ q,a34 _ _ q]
theorem Beg.yes (h:Beg w f v s d i B) (hB:B<=w.heap.size) (hi:i<s.n) (hl:i<s.cl.length) {u:World} {R:List Nat} {gl:Nat} (k:Below (w.setCell ⟨f.gc,i*3+2,none⟩ (.int .i64 (-1))).heap.size (w.setCell ⟨f.gc,i*3+2,none⟩ (.int .i64 (-1))) u) (a:Abv (w.setCell ⟨f.gc,i*3+2,none⟩ (.int .i64 (-1))).heap.size R) (b:Blw u R) (hR:∀ j,j<(s.cs i).length->ClIn u R (some ⟨gl,0,none⟩) j ((s.cs i).getD j (0,[]))) :
  Lai (u.setCell ⟨f.gc,i*3,none⟩ (.slice (some ⟨gl,0,none⟩) (s.cs i).length (s.cs i).length)) f s d i B/\Below B w (u.setCell ⟨f.gc,i*3,none⟩ (.slice (some ⟨gl,0,none⟩) (s.cs i).length (s.cs i).length)):=by
 obtain⟨d1,e1,x1,hd⟩:=h.mark hi;obtain⟨e2,x2⟩:=e1.setK hi hl k a b hR rfl;obtain⟨f2,b2⟩:=h.fr.ext hB (x1.trans x2);subst hd;dsimp only at e2;rw[a22,bF6]at e2;exact⟨⟨_,_,_,e2,f2⟩,b2⟩
theorem Beg.no (h:Beg w f v s d i B) (hB:B<=w.heap.size) (hi:i<s.n) (hl:¬ i<s.cl.length):Lai (w.setCell ⟨f.gc,i*3+2,none⟩ (.int .i64 (-1))) f s d i B/\Below B w (w.setCell ⟨f.gc,i*3+2,none⟩ (.int .i64 (-1))):=by
 obtain⟨d1,e1,x1,hd⟩:=h.mark hi;obtain⟨f2,b2⟩:=h.fr.ext hB x1;subst hd;have e:s.upto i=s.upto (i+1):=by rw[aG8 (by omega),aG8 (by omega)]
 have c:s.cs i=[]:=by
  unfold Su.cs;rw[zG,List.getElem?_eq_none (by omega)]
  rfl
 rw[e]at e1;refine⟨⟨v,none,0,?_,f2⟩,b2⟩;rw[c];exact e1
theorem Lai.note (l:Lai w2 f s d i B) (h:Beg w f v s d i B) (hs:SuIn s) (hi:i<s.n) (hB:B<=w2.heap.size):Calls Tryz.prog 32 #[.pointer (some ⟨f.b,0,none⟩),.int .i64 (i:Int)] w2 fun r w3=>r=.returned (.tuple #[])/\Hid ((∃ v' d',Beg w3 f v' s d' (i+1) B)/\Below B w2 w3):=by
 obtain⟨v1,qa,qc,e,fr⟩:=l;refine(av3 e (hs.upto (i+1)) hi (by show d.rd.n=s.n;rw[h.rd];rfl) (by show d.rd.o<_;rw[h.rd];exact(by decide:0<9223372036854775807)) (a22 _ _ _)).mono ?_;rintro r w3 ⟨rfl,q⟩;obtain⟨f3,b3⟩:=fr.ext hB q.out.2;exact⟨rfl,⟨_,_,h.next hi rfl f3 q.out.1⟩,b3⟩
theorem Beg.reads (h:Beg w f v s d i B) (hi:i<s.n):w.cell? ⟨f.gc,i*3+2,none⟩=some (.int .i64 0)/\w.cell? ⟨f.gc,i*3,none⟩=some (.slice none 0 0)/\w.frozen? ⟨f.gc,i*3+2,none⟩=false/\w.frozen? ⟨f.gc,i*3,none⟩=false/\f.gc<w.heap.size:=by
 have c:=h.hi i (zE _);have e:∀ j,j<3->w.cell? ⟨f.gc,i*3+j,none⟩=(d.cr i)[j]?:=fun j hj=>h.en.crs.cell hi hj
 rw[c]at e;exact⟨(e 2 (by omega)).trans rfl,(e 0 (by omega)).trans rfl,h.en.crs.free _,h.en.crs.free _,h.en.crs.lt⟩
end
section
variable {w w':World} {f:Ex} {v:Ev} {s:Su} {d:Ed} {i:Nat}
theorem bu7 {p:Sp} (h:SuAt w s p) (hT:Shaped5 w) (he:errS s=0):Calls Tryz.prog 10 #[.agg (suC s p)] w fun r w'=>∃ f v,r=.returned (.tuple #[.pointer (some ⟨Ex.b f,0,none⟩),.int .i64 0])/\Hid (Eng w' f v s (Z0 s)/\Frs w.heap.size f v/\Bl w w'):=by
 have hs:=suIn h.ok he;have HS0:=zH hs;have HTT:=zH hT;have HB:=zH (aR2 w s p);have HF:=zH (aI9 (h.on HB.out.1));rw[he]at HF;have b8:=hs.b8;have a256:=hs.a256;have hnb:=hs.nb;have HX:Hid (∀ u,Bw w s p u->SuAt u s p/\u.heap[w.heap.size]?=some (suO s p)/\Bl w u):=fun u hu=>⟨(h.on HB.out.1).on hu,(hu.block _ (lt_of_block HB.out.2)).trans HB.out.2,HB.out.1.trans (hu.mono HB.out.1.size)⟩
 have HP:=zH (fun u=>Md.place_any s.a s.b s.c s.e u);simp only[hs.cfg]at HP;obtain⟨p4,hp4⟩:∃ p4,3+s.b=p4:=⟨_,rfl⟩
 obtain⟨n5,hn5⟩:∃ n5:Nat,p4+3*s.a=(n5:Int):=⟨(p4+3*s.a).toNat,by omega⟩
 rw[hp4,hn5]at HP;have HM:=zH (fun u=>Md.new_some n5 (by omega) (by omega) u);have HSD:=zH (fun u=>Sd.new_yes s.n (by omega) (by omega) u);rw[hnb]at HSD;have HST:Hid (∀ u mb mg,Bw w s p u->(w.alloc (suO s p)).heap.size<=mb->(w.alloc (suO s p)).heap.size<=mg->MemAt 105 u mb mg (List.replicate n5 0) false 0->Calls Tryz.prog 28 #[.pointer (some ⟨mb,0,none⟩),plV p4 (n5:Int),.slice p.ps s.st.length p.cs] u fun e w'=>e=.returned (.int .i64 (Md.Ce.startE (List.replicate n5 0) p4 s.st))/\MemAt 105 w' mb mg (aa1 s) false 0/\Chg mb mg u w'):=fun u mb mg hu h1 h2 hm=>by
  have e0:aa1 s=Md.Ce.startW (List.replicate n5 0) p4 s.st:=by unfold aa1;rw[hp4,hn5,Int.toNat_natCast]
  rw[e0];refine Md.Ce.start_any hm (fun k hk=>?_) 0 1 2 3 p4 n5;obtain⟨g,o,e,hg,c⟩:=(HX.out u hu).1.st k hk;obtain⟨g',o',e',hg',_⟩:=h.st k hk;have eg:g=g':=by rw[e]at e';injection e' with e';injection e'
  have hb:=HB.out.1.size;refine⟨g,o,e,hg,fun q=>?_,c⟩;simp only[List.mem_cons,List.not_mem_nil,or_false]at q;omega
 have HOP:Hid (∀ u,Bw w s p u->Calls Tryz.prog 30 #[.slice p.pp s.pg.length p.cp] u fun r w'=>∃ g,r=.returned (.slice (some ⟨g,0,none⟩) s.pg.length s.pg.length)/\Hid (∃ R,Abv u.heap.size R/\Blw w' R/\(∀ j,j<s.pg.length->PgIn w' R g j (s.pg.getD j (0,[])))/\Bl u w')):=fun u hu=>by
  refine(ay2 (HX.out u hu).1.pg hs.pl).mono ?_;rintro r w' ⟨g,rfl,q⟩;obtain⟨⟨P,C,q1⟩,q2⟩:=q.out;obtain⟨R,r1,r2,_,r4⟩:=q1.in_ (fun j hj=>by obtain⟨_,_,_,_,_,_,_,_,_,_,e⟩:=h.pg j hj;omega);exact⟨g,rfl,R,r1,r2,r4,q2⟩
 have HOC:Hid (∀ u i,Bw w s p u->i<s.cl.length->∃ g o qa c,p.pt=some ⟨g,o,none⟩/\g<u.heap.size/\g<w.heap.size/\u.cell? ⟨g,o+i,none⟩=some (.slice qa (s.cs i).length c)/\∀ u',Bw w s p u'->Calls Tryz.prog 31 #[.slice qa (s.cs i).length c] u' fun r w'=>∃ g,r=.returned (.slice (some ⟨g,0,none⟩) (s.cs i).length (s.cs i).length)/\Hid (∃ R,Abv u'.heap.size R/\Blw w' R/\(∀ j,j<(s.cs i).length->ClIn w' R (some ⟨g,0,none⟩) j ((s.cs i).getD j (0,[])))/\Bl u' w')):=fun u i hu hi=>by
  obtain⟨g,o,qa,c,e1,e2,e3,e4,e5⟩:=h.cl i hi;refine⟨g,o,qa,c,e1,zL e2 (HX.out u hu).2.2.size,e2,((HX.out u hu).2.2.cell (p:=⟨g,_,none⟩) e2).trans e3,fun u' hu'=>?_⟩;have hlen:=hs.few i;refine(aK8 (l:=s.cs i) (e4.on (HX.out u' hu').2.2) hlen (fun j hj=>?_)).mono ?_
  ·have m:=Su.csIn (s:=s) (t:=i) (j:=j) hj
   have:=hs.may _ m.1 _ m.2;unfold a63 at this;simp only[Bool.and_eq_true,decide_eq_true_eq]at this;exact this.2
  ·rintro r w' ⟨g,rfl,q⟩
   obtain⟨⟨P,C,q1⟩,q2⟩:=q.out;obtain⟨R,r1,r2,r4⟩:=q1.in_;exact⟨g,rfl,R,r1,r2,r4,q2⟩
 obtain⟨arr0,ha1,ha2,hmk⟩:=bG8 s.n (by omega);rw[hnb]at hmk;have HAR:Hid (∀ u:World,∀ u',u'.heap[u.heap.size]?=some (.cells arr0 79 (0,0))->Arr u' u.heap.size 79 3 s.n s.n (d0 s).cr):=fun u u' hu=>⟨⟨arr0,hu,ha1,ha2⟩,zE _,fun _ _=>rfl⟩
 clear h he ha1 ha2 hs hT;go_enter Tryz.func10,Tryz.ntmps10
 go_upto_region 8 with(first
  | (go_at_call 29;refine(HSD.out _).mono ?_;rintro r u5 ⟨rfl,q1,q2⟩;have H5:Hid (Sd.RdAt u5 u4.heap.size (Sd.newR s.n)/\MemAt 105 u5 (u2.heap.size+1+1) (u2.heap.size+1) (aa1 s) false 0/\Bw w s p u5/\u5.heap[u2.heap.size]?=some (plO p4 (n5:Int))/\u2.heap.size+1+1<u4.heap.size/\(w.alloc (suO s p)).heap.size<=u2.heap.size/\u4.heap.size<u5.heap.size):=⟨q1,H4.out.1.on q2,H4.out.2.1.trans (q2.mono H4.out.2.1.size),(q2.block _ (lt_of_block H4.out.2.2.1)).trans H4.out.2.2.1,H4.out.1.ltB,H4.out.2.2.2,q1.lt⟩;clear q1 q2 HSD H4 s1)
  | (go_at_call 28;refine(HST.out u3 (u2.heap.size+1+1) (u2.heap.size+1) H3.out.2.1 (by have:=H3.out.2.2.2;omega) (by have:=H3.out.2.2.2;omega) H3.out.1).mono ?_;rintro r u4 ⟨rfl,q1,q2⟩;have H4:Hid (MemAt 105 u4 (u2.heap.size+1+1) (u2.heap.size+1) (aa1 s) false 0/\Bw w s p u4/\u4.heap[u2.heap.size]?=some (plO p4 (n5:Int))/\(w.alloc (suO s p)).heap.size<=u2.heap.size):=⟨q1,⟨q2.os.trans H3.out.2.1.os,q2.tape.trans H3.out.2.1.tape,q2.output.trans H3.out.2.1.output,zQ H3.out.2.1.size q2.size,fun j hj=>(q2.block j (zL hj H3.out.2.1.size) (by have:=H3.out.2.2.2;omega) (by have:=H3.out.2.2.2;omega)).trans (H3.out.2.1.block j hj)⟩,(q2.block _ (lt_of_block H3.out.2.2.1) (by omega) (by omega)).trans H3.out.2.2.1,H3.out.2.2.2⟩;clear q1 q2 HST H3 t0 t1 t2 t3 t4 t5 s4;obtain⟨_,s1,_,_,_,_,_,_⟩:=a70 (HX.out _ H4.out.2.1).2.1)
  | (go_at_call 27;refine(HM.out _).mono ?_;rintro r u3 ⟨rfl,q1,q2⟩;have e9:(u2.alloc (plO p4 (n5:Int))).heap.size=u2.heap.size+1:=(by simp);rw[e9]at q1;have q2:=q2.mono (Nat.le_of_eq e9.symm);have b9:Bw w s p (u2.alloc (plO p4 (n5:Int))):=H2.out.alloc H2.out.size _;have H3:Hid (MemAt 105 u3 (u2.heap.size+1+1) (u2.heap.size+1) (List.replicate n5 0) false 0/\Bw w s p u3/\u3.heap[u2.heap.size]?=some (plO p4 (n5:Int))/\(w.alloc (suO s p)).heap.size<=u2.heap.size):=⟨q1,b9.trans (q2.mono (by have:=b9.size;omega)),(q2.block _ (by omega)).trans (zN _ _),H2.out.size⟩;clear q1 q2 HM e9 b9;obtain⟨t0,t1,t2,t3,t4,t5⟩:=af3 H3.out.2.2.1;obtain⟨_,_,_,_,s4,_,_,_⟩:=a70 (HX.out _ H3.out.2.1).2.1)
  | (go_at_call 26;refine(HP.out _).mono ?_;rintro r u2 ⟨rfl,q⟩;have H2:=zH (a17 H1.out q);clear q HP s0 s1 s2 s3 s4 s5 s6 s7)
  | (go_at_call 25;refine HF.out.mono ?_;rintro r u1 ⟨rfl,q⟩;have H1:=zH q;obtain⟨s0,s1,s2,s3,s4,s5,s6,s7⟩:=a70 (HX.out _ q).2.1;clear q HF))
 obtain⟨g2,hg2⟩:∃ g2,u2.heap.size=g2:=⟨_,rfl⟩
 obtain⟨g4,hg4⟩:∃ g4,u4.heap.size=g4:=⟨_,rfl⟩
 rw[hg2,hg4]at H5 ⊢;clear H1 H2 hg2 hg4
 go_cut [11] (fun v11 wc=>∃ b gc pp R,v11=.pointer (some ⟨b,0,none⟩)/\Hid (Mde u5 wc s p4 (n5:Int) (g2+1+1) g4 b gc pp R))
 case first =>
  have HSS:Hid (∀ u,Bl u5 u->(u.cell? ⟨w.heap.size,0,none⟩=some (.int .i64 s.a)/\u.cell? ⟨w.heap.size,1,none⟩=some (.int .i64 s.b)/\u.cell? ⟨w.heap.size,2,none⟩=some (.int .i64 s.c)/\u.cell? ⟨w.heap.size,3,none⟩=some (.int .i64 s.e)/\u.cell? ⟨w.heap.size,5,none⟩=some (.slice p.pp s.pg.length p.cp))/\u.cell? ⟨g2,0,none⟩=some (.int .i64 0)/\u.cell? ⟨g2,1,none⟩=some (.int .i64 1)/\u.cell? ⟨g2,2,none⟩=some (.int .i64 2)/\u.cell? ⟨g2,3,none⟩=some (.int .i64 3)/\u.cell? ⟨g2,4,none⟩=some (.int .i64 p4)/\u.cell? ⟨g2,5,none⟩=some (.int .i64 (n5:Int))):=fun u hu=>by
   obtain⟨s0,s1,s2,s3,_,s5,_,_⟩:=a70 (HX.out _ (a17 H5.out.2.2.1 hu)).2.1;exact⟨⟨s0,s1,s2,s3,s5⟩,af3 ((hu.block _ (lt_of_block H5.out.2.2.2.1)).trans H5.out.2.2.2.1)⟩
  refine aH0 (fun u=>(u.cell? ⟨w.heap.size,0,none⟩=some (.int .i64 s.a)/\u.cell? ⟨w.heap.size,1,none⟩=some (.int .i64 s.b)/\u.cell? ⟨w.heap.size,2,none⟩=some (.int .i64 s.c)/\u.cell? ⟨w.heap.size,3,none⟩=some (.int .i64 s.e)/\u.cell? ⟨w.heap.size,5,none⟩=some (.slice p.pp s.pg.length p.cp))/\u.cell? ⟨g2,0,none⟩=some (.int .i64 0)/\u.cell? ⟨g2,1,none⟩=some (.int .i64 1)/\u.cell? ⟨g2,2,none⟩=some (.int .i64 2)/\u.cell? ⟨g2,3,none⟩=some (.int .i64 3)/\u.cell? ⟨g2,4,none⟩=some (.int .i64 p4)/\u.cell? ⟨g2,5,none⟩=some (.int .i64 (n5:Int))) [0,1,2,3,5,6,7,8,9,10] 4 [(11,false),(12,true),(13,false),(14,true)] 11 [(4,false),(12,true),(13,false),(14,true)] Md.Cv.follows13 (by kernel_rfl) (fun _ _ _ _ _ h=>h) (HSS.out _ ((Same.drew u5).below _)) ?_
  repeat (refine b19 (v:=?_) rfl (by rfl) (fun wq hSq=>?_) ?_;rotate_left;(focus ((try dsimp only at hSq);go_simp;try with_reducible rfl));simp only[Act.put,zA,zB,zC])
  refine bg3 ?_ ?_
  ·(refine a05 rfl (by rfl) (fun KK hK=>?_);go_simp)
   refine(HOP.out _ (H5.out.2.2.1.trans ((Same.drew u5).below _))).mono ?_;rintro r u6 ⟨pp,rfl,q⟩;obtain⟨R,r1,r2,r3,r4⟩:=q.out;have k6:Bl u5 u6:=((Same.drew u5).below _).trans r4;refine hK.out _ _ (HSS.out _ k6) ?_
   (clear hK KK;try simp only[Act.put,zA,zB,zC])
   (refine a05 rfl (by rfl) (fun KK hK=>?_);go_simp)
   refine hK.out _ _ (HSS.out _ (k6.alloc k6.size _)) ?_
   (clear hK KK;try simp only[Act.put,zA,zB,zC])
   (repeat ((first | (refine a02 (v:=?_) rfl (by rfl) (fun wq hSq=>?_) ?_;rotate_left;(focus ((try dsimp only at hSq);go_simp;try with_reducible rfl))) | refine a03 rfl (by rfl) ?_);simp only[Act.put,zA,zB,zC]))
   (refine a05 rfl (by rfl) (fun KK hK=>?_);go_simp)
   have k7:=k6.alloc k6.size (.cells arr0 79);refine hK.out _ _ (HSS.out _ (k7.alloc k7.size _)) ?_
   (clear hK KK;try simp only[Act.put,zA,zB,zC])
   (repeat ((first | (refine a02 (v:=?_) rfl (by rfl) (fun wq hSq=>?_) ?_;rotate_left;(focus ((try dsimp only at hSq);go_simp;try with_reducible rfl))) | refine a03 rfl (by rfl) ?_);simp only[Act.put,zA,zB,zC]))
   refine a13 ?_;have HH:=zH (bQ1 (p4:=p4) (n5:=(n5:Int)) (mb:=g2+1+1) (rb:=g4) HAR.out k6 r1 r2 r3);go_wp2_with fail
   go_meet
   exact⟨_,_,_,R,rfl,HH.out⟩
  ·(refine a05 rfl (by rfl) (fun KK hK=>?_);go_simp)
   obtain⟨v1,hv1⟩:∃ v1,v1=(u5.alloc (.cells arr0 79)).drew:=⟨_,rfl⟩
   have k5:Bl u5 v1:=by rw[hv1];exact(below_alloc _ _).trans ((Same.drew _).below _)
   have x5:v1.heap[u5.heap.size]?=some (.cells arr0 79 (0,0)):=by rw[hv1];exact zN _ _
   rw[<- hv1];clear hv1;refine hK.out _ _ (HSS.out _ k5) ?_
   (clear hK KK;try simp only[Act.put,zA,zB,zC])
   (refine a05 rfl (by rfl) (fun KK hK=>?_);go_simp)
   refine(HOP.out _ (a17 H5.out.2.2.1 k5)).mono ?_;rintro r u6 ⟨pp,rfl,q⟩;obtain⟨R,r1,r2,r3,r4⟩:=q.out;have k6:Bl u5 u6:=k5.trans (r4.mono k5.size);refine hK.out _ _ (HSS.out _ k6) ?_
   (clear hK KK;try simp only[Act.put,zA,zB,zC])
   (repeat ((first | (refine a02 (v:=?_) rfl (by rfl) (fun wq hSq=>?_) ?_;rotate_left;(focus ((try dsimp only at hSq);go_simp;try with_reducible rfl))) | refine a03 rfl (by rfl) ?_);simp only[Act.put,zA,zB,zC]))
   (refine a05 rfl (by rfl) (fun KK hK=>?_);go_simp)
   refine hK.out _ _ (HSS.out _ (k6.alloc k6.size _)) ?_
   (clear hK KK;try simp only[Act.put,zA,zB,zC])
   (repeat ((first | (refine a02 (v:=?_) rfl (by rfl) (fun wq hSq=>?_) ?_;rotate_left;(focus ((try dsimp only at hSq);go_simp;try with_reducible rfl))) | refine a03 rfl (by rfl) ?_);simp only[Act.put,zA,zB,zC]))
   refine a13 ?_;have HH:=zH (bQ2 (p4:=p4) (n5:=(n5:Int)) (mb:=g2+1+1) (rb:=g4) HAR.out k5 x5 r4 r1 r2 r3);go_wp2_with fail
   go_meet
   exact⟨_,_,_,R,rfl,HH.out⟩
 case rest =>
  obtain⟨b,gc,pp,R,rfl,HMD⟩:=hcut;obtain⟨W0,hW0⟩:∃ W0,W0=w.alloc (suO s p):=⟨_,rfl⟩
  unfold Bw at HX HOC H5;rw[<- hW0]at HX HB HOC H5;have HBG:Hid (Beg wc ⟨b,g2+1+1,g2+1,g4,gc,pp⟩ (v0 R) s (d0 s) 0 W0.heap.size/\Bl W0 wc):=by
   have m:=HMD.out;obtain⟨z1,z2,z3,z4,z5,z6,z7⟩:=H5.out;have l1:=m.l1;have l2:=m.l2;have lz:=z3.size;have hsh:Shaped5 wc:=(HTT.out.on HB.out.1).on (a17 z3 m.bel);have gv:1<w.heap.size:=bv2 HTT.out;have lw:=HB.out.1.size;refine⟨beg0 (bi9 ?_ (z2.on m.bel) (z1.on m.bel) m.crs hsh m.prg m.blw ?_ ?_) (by omega) (fun k hk=>by have:=m.abv k hk;omega),a17 z3 m.bel⟩
   ·rw[m.box]
    unfold eBox;dsimp only;rw[hp4,hn5]
    rfl
   ·have:=m.n3
    omega
   ·intro k hk
    rcases List.mem_cons.1 hk with rfl | q
    ·omega
    ·have:=m.abv k q
     have e1:k≠b:=fun e=>m.n2 (e ▸ q)
     have e2:k≠gc:=fun e=>m.n1 (e ▸ q)
     omega
  have HCC:Hid (∀ u v d i,Beg u ⟨b,g2+1+1,g2+1,g4,gc,pp⟩ v s d i W0.heap.size->Bl W0 u->u.cell? ⟨b,13,none⟩=some (.slice (some ⟨gc,0,none⟩) s.n s.n)/\u.cell? ⟨w.heap.size,6,none⟩=some (.slice p.pt s.cl.length p.ct)/\b<u.heap.size/\w.heap.size<u.heap.size):=fun u v d i h1 h2=>by
   obtain⟨_,_,_,_,_,_,c6,c7⟩:=a70 (HX.out u h2).2.1;exact⟨(h1.en.cell 13).trans rfl,c6,h1.en.ltB,c7⟩
  have hn8:(s.n:Int)<=8:=by omega
  have hcl:s.cl.length<=s.n:=by have:=HS0.out.tl;omega
  obtain⟨k13,k6,lb,ls⟩:=HCC.out _ _ _ _ HBG.out.1 HBG.out.2;clear H5 HOP HAR hmk HMD HTT hn5 hp4;go_wp2_with fail;clear k13 k6 lb ls
  go_loopw [61] (fun v61 wr=>∃ i:Nat,v61=.int .i64 (i:Int)/\i<=s.n/\Hid (∃ v d,Beg wr ⟨b,g2+1+1,g2+1,g4,gc,pp⟩ v s d i W0.heap.size/\Bl W0 wr)) (fun v61 _=>s.n - (intOf v61).toNat)
  case atStart=>exact⟨0,rfl,zV _,_,_,HBG.out⟩
  case round =>
   obtain⟨i,rfl,hin,HR⟩:=hrel;clear HBG;obtain⟨v,d,h1,h2⟩:=HR.out;have H1:=zH (And.intro h1 h2);obtain⟨k13,k6,lb,ls⟩:=HCC.out _ _ _ _ h1 h2
   by_cases hi:i<s.n
   ·have hi':(i:Int)<(s.n:Int):=by omega
    obtain⟨y1,y2,y3,y4,y5⟩:=h1.reads hi;dsimp only at y1 y2 y3 y4 y5;obtain⟨w1,hw1⟩:∃ w1,w1=wr.setCell ⟨gc,i*3+2,none⟩ (.int .i64 (-1)):=⟨_,rfl⟩
    have HL:Hid (∀ u,Bl w1 u->(u.cell? ⟨b,13,none⟩=some (.slice (some ⟨gc,0,none⟩) s.n s.n)/\u.cell? ⟨w.heap.size,6,none⟩=some (.slice p.pt s.cl.length p.ct))/\u.cell? ⟨gc,i*3,none⟩=some (.slice none 0 0)/\u.frozen? ⟨gc,i*3,none⟩=false/\gc<u.heap.size/\b<u.heap.size/\w.heap.size<u.heap.size/\Bl W0 u):=fun u hu=>by
     obtain⟨d1,e1,x1,hd1⟩:=h1.mark hi;have e1':EnAt w1 ⟨b,g2+1+1,g2+1,g4,gc,pp⟩ v (s.upto i) d1:=by rw[hw1];exact e1
     have bw:Bl W0 w1:=by rw[hw1];exact h2.trans (h1.fr.ext h2.size x1).2
     have eu:=e1'.on hu;have bu:=bw.trans (hu.mono bw.size);obtain⟨_,_,_,_,_,_,c6,c7⟩:=a70 (HX.out u bu).2.1;have ec:=eu.crs.cell (i:=i) (j:=0) hi (by omega);rw[hd1]at ec;dsimp only at ec;rw[a22]at ec;exact⟨⟨(eu.cell 13).trans rfl,c6⟩,ec.trans rfl,eu.crs.free _,eu.crs.lt,eu.ltB,c7,bu⟩
    have HNF:Hid (∀ w2,Lai w2 ⟨b,g2+1+1,g2+1,g4,gc,pp⟩ s d i W0.heap.size/\Below W0.heap.size wr w2->Calls Tryz.prog 32 #[.pointer (some ⟨b,0,none⟩),.int .i64 (i:Int)] w2 fun r w3=>r=.returned (.tuple #[])/\Hid (∃ v' d',Beg w3 ⟨b,g2+1+1,g2+1,g4,gc,pp⟩ v' s d' (i+1) W0.heap.size/\Bl W0 w3)):=fun w2 q=>by
     have b2:=h2.trans q.2;refine(q.1.note h1 HS0.out hi b2.size).mono ?_;rintro r w3 ⟨rfl,z⟩;obtain⟨⟨v',d',z1⟩,z2⟩:=z.out;exact⟨rfl,v',d',z1,b2.trans z2⟩
    by_cases hl:i<s.cl.length
    ·have hl':(i:Int)<(s.cl.length:Int):=by omega
     have HY:Hid (∀ u R gl,Bl w1 u->Abv w1.heap.size R->Blw u R->(∀ j,j<(s.cs i).length->ClIn u R (some ⟨gl,0,none⟩) j ((s.cs i).getD j (0,[])))->Lai (u.setCell ⟨gc,i*3,none⟩ (.slice (some ⟨gl,0,none⟩) (s.cs i).length (s.cs i).length)) ⟨b,g2+1+1,g2+1,g4,gc,pp⟩ s d i W0.heap.size/\Below W0.heap.size wr (u.setCell ⟨gc,i*3,none⟩ (.slice (some ⟨gl,0,none⟩) (s.cs i).length (s.cs i).length))):=by
      intro u R gl z1 z2 z3 z4;rw[hw1]at z1 z2;exact h1.yes h2.size hi hl z1 z2 z3 z4
     obtain⟨g,o,qa,c,ep,hg,hgw,c0,HCL0⟩:=HOC.out w1 i (HL.out w1 (zF _ _)).2.2.2.2.2.2 hl;have HCL:=zH HCL0;have HTC:Hid (∀ u,Bl w1 u->u.cell? ⟨g,o+i,none⟩=some (.slice qa (s.cs i).length c)/\g<u.heap.size):=fun u hu=>⟨(hu.cell (p:=⟨g,_,none⟩) hg).trans c0,zL hg hu.size⟩
     obtain⟨m,hm⟩:∃ m,(s.cs i).length=m:=⟨_,rfl⟩
     rw[hm]at HY HTC HCL;have HMM:=zH hm;rw[ep]at HL k6;clear h1 h2 HCL0 c0 hg hgw hm
     go_upto_region 13 with fail
     rw[<- hw1];clear hw1 k13 k6 lb ls y1 y2 y3 y4 y5;obtain⟨⟨k13,k6⟩,y2,y4,y5,lb,ls,_⟩:=HL.out w1 (zF _ _);obtain⟨c0,hg⟩:=HTC.out w1 (zF _ _)
     go_upto_region 14 with fail
     refine a45 (fun u=>u.cell? ⟨b,13,none⟩=some (.slice (some ⟨gc,0,none⟩) s.n s.n)/\u.cell? ⟨w.heap.size,6,none⟩=some (.slice (some ⟨g,o,none⟩) s.cl.length p.ct)/\u.cell? ⟨g,o+i,none⟩=some (.slice qa m c) )  ((0,true)::(1,true)::(2,true)::(3,true)::(4,true)::(5,true)::(6,true)::(7,true)::(8,true)::(9,true)::(10,false)::(11,true)::(12,true)::(13,false)::[])  Md.Cv.follows13 (by kernel_rfl) (fun _ _ _ _ _ h=>h)  ⟨k13,k6,c0⟩ ?_
     (repeat (refine a31 (v:=?_) rfl (by rfl) (fun wq hSq=>?_) ?_;rotate_left;(focus ((try dsimp only at hSq);go_simp;try with_reducible rfl));simp only[Act.put,zA,zB,zC]))
     (refine a27 rfl (by rfl) (fun KK hK=>?_);go_simp)
     refine(HCL.out _ ((HL.out w1 (zF _ _)).2.2.2.2.2.2.trans ((Same.drew w1).below _))).mono ?_;rintro r u2 ⟨gl,rfl,q⟩;obtain⟨R',r1,r2,r3,r4⟩:=q.out;have k2:Bl w1 u2:=((Same.drew w1).below _).trans r4;have HQ:=zH (HY.out u2 R' gl k2 r1 r2 r3);refine hK.out _ _ (fun _=>⟨(HL.out u2 k2).1.1,(HL.out u2 k2).1.2,(HTC.out u2 k2).1⟩) ?_;clear k13 k6 y2 y4 y5 lb ls c0 hg;obtain⟨_,y2,y4,y5,lb,ls,_⟩:=HL.out u2 k2
     (clear hK KK;try simp only[Act.put,zA,zB,zC])
     (repeat (refine a31 (v:=?_) rfl (by rfl) (fun wq hSq=>?_) ?_;rotate_left;(focus ((try dsimp only at hSq);go_simp;try with_reducible rfl));simp only[Act.put,zA,zB,zC]))
     (refine a27 rfl (by rfl) (fun KK hK=>?_);go_simp)
     refine hK.out _ _ (fun hn=>absurd rfl hn) ?_
     (clear hK KK;try simp only[Act.put])
     refine a84 ?_
     go_wp2_with (go_at_call 32;refine(HNF.out _ HQ.out).mono ?_;rintro r u3 ⟨rfl,q⟩;have H3:=zH q.out;clear q)
     exact⟨⟨i+1,by first | rfl | (congr 1),by omega,H3.out⟩,by simp[intOf];omega⟩
    ·have hl':¬ (i:Int)<(s.cl.length:Int):=by omega
     have HQ:Hid (Lai w1 ⟨b,g2+1+1,g2+1,g4,gc,pp⟩ s d i W0.heap.size/\Below W0.heap.size wr w1):=by rw[hw1];exact h1.no h2.size hi hl
     clear h1 h2
     go_upto_region 13 with fail
     rw[<- hw1];clear hw1 k13 k6 lb ls y1 y2 y3 y4 y5;obtain⟨⟨k13,k6⟩,y2,y4,y5,lb,ls,_⟩:=HL.out w1 (zF _ _)
     go_wp2_with (go_at_call 32;refine(HNF.out _ HQ.out).mono ?_;rintro r u3 ⟨rfl,q⟩;have H3:=zH q.out;clear q)
     exact⟨⟨i+1,by first | rfl | (congr 1),by omega,H3.out⟩,by simp[intOf];omega⟩
   ·have hi':¬ (i:Int)<(s.n:Int):=by omega
    have e:i=s.n:=by omega
    have HZ:Hid (Eng wr ⟨b,g2+1+1,g2+1,g4,gc,pp⟩ v s (Z0 s)/\Frs w.heap.size ⟨b,g2+1+1,g2+1,g4,gc,pp⟩ v/\Bl w wr):=by
     subst e;have l:=HB.out.1.size;exact⟨h1.all HS0.out,⟨fun k hk=>zQ l (h1.fr.own k hk),fun k hk=>(h1.fr.ro k hk).imp id (zQ l)⟩,(HX.out _ h2).2.2⟩
    clear h1 h2;go_wp2_with fail;go_ret2;exact⟨⟨b,g2+1+1,g2+1,g4,gc,pp⟩,rfl,v,HZ.out⟩
end
def aZ2 (s:Su) (n:Nat):Bool:=anyU (fun i=>decide (64<(s.cl.getD i []).length)) n
theorem bl5 (s:Su):aA4 s=(decide (64<s.pg.length) || decide (s.b<(s.cl.length:Int)) || aZ2 s s.cl.length):=by unfold aA4 aZ2;rw[b28 s.cl []]
section
variable {w w':World} {s:Su} {p:Sp}
theorem az7 (h:SuAt w s p):Calls Tryz.prog 11 #[.agg (suC s p)] w fun r w'=>r=.returned (.int .i64 (errS s))/\Bl w w':=by
 have HB:=zH (aR2 w s p);have HX:Hid (∀ u,Bw w s p u->SuAt u s p/\u.heap[w.heap.size]?=some (suO s p)/\Bl w u):=fun u hu=>⟨(h.on HB.out.1).on hu,(hu.block _ (lt_of_block HB.out.2)).trans HB.out.2,HB.out.1.trans (hu.mono HB.out.1.size)⟩
 have HP:=zH (fun u=>Md.refPlace_any s.a s.b s.c s.e u);have l1:=h.l1;have l2:=h.l2;have l3:=h.l3;have HE:=zH (b59 s);have HMA:=zH (bl5 s);clear h
 cases hc:Md.cfgB s.a s.b s.c s.e with
 | false =>
  rw[hc]at HP;simp only[if_neg Bool.false_ne_true]at HP;have HE2:Hid (errS s=1):=by rw[HE.out,hc];trivial
  clear HE HMA;go_enter Tryz.func11,Tryz.ntmps11
  go_wp2_with (go_at_call 33;refine(HP.out _).mono ?_;rintro r u1 ⟨rfl,q⟩;have H1:=zH q;clear q HP)
  go_ret;have:=(HX.out _ H1.out).2.2;exact⟨by rw[HE2.out];rfl,this.alloc this.size _⟩
 | true =>
  rw[hc]at HP;simp only[if_pos]at HP
  by_cases q1:(s.st.length:Int)<=s.a
  ·have q1':¬ s.a<(s.st.length:Int):=by omega
   by_cases q2:64<s.pg.length
   ·have q2':(64:Int)<(s.pg.length:Int):=by omega
    have HE2:Hid (errS s=160):=by rw[HE.out,hc,HMA.out,zT q1,zT q2];trivial
    clear HE HMA;go_enter Tryz.func11,Tryz.ntmps11
    go_wp2_with (go_at_call 33;refine(HP.out _).mono ?_;rintro r u1 ⟨rfl,q⟩;have H1:=zH q;obtain⟨s0,s1,s2,s3,s4,s5,s6,s7⟩:=a70 (HX.out _ q).2.1;clear q HP)
    go_ret;have:=(HX.out _ H1.out).2.2;exact⟨by rw[HE2.out];rfl,this.alloc this.size _⟩
   ·have q2':¬ (64:Int)<(s.pg.length:Int):=by omega
    by_cases q3:s.b<(s.cl.length:Int)
    ·have HE2:Hid (errS s=160):=by rw[HE.out,hc,HMA.out,zT q1,zT q3,Bool.or_true,Bool.true_or];trivial
     clear HE HMA;go_enter Tryz.func11,Tryz.ntmps11
     go_wp2_with (go_at_call 33;refine(HP.out _).mono ?_;rintro r u1 ⟨rfl,q⟩;have H1:=zH q;obtain⟨s0,s1,s2,s3,s4,s5,s6,s7⟩:=a70 (HX.out _ q).2.1;clear q HP)
     go_ret;have:=(HX.out _ H1.out).2.2;exact⟨by rw[HE2.out];rfl,this.alloc this.size _⟩
    ·have HE2:Hid (errS s=if aZ2 s s.cl.length then 160 else if badT s s.cl.length then 1 else 0):=by rw[HE.out,hc,HMA.out,zT q1,zU q2,zU q3,Bool.false_or,Bool.false_or];trivial
     clear HE HMA;go_enter Tryz.func11,Tryz.ntmps11
     go_wp2_with (go_at_call 33;refine(HP.out _).mono ?_;rintro r u1 ⟨rfl,q⟩;have H1:=zH (fun o=>q.alloc q.size o);obtain⟨s0,s1,s2,s3,s4,s5,s6,s7⟩:=a70 (HX.out _ q).2.1;clear q HP)
     clear s0 s1 s2 s3 s4 s5 s6 s7
     go_loopw [2,44] (fun v2 v44 wr=>∃ k:Nat,v44=.int .i64 (k:Int)/\v2=.int .i64 0/\k<=s.cl.length/\Hid (Bw w s p wr/\aZ2 s k=false)) (fun v2 v44 _=>s.cl.length - (intOf v44).toNat)
     case atStart=>exact⟨0,rfl,rfl,zV _,H1.out _,rfl⟩
     case round =>
      obtain⟨k,rfl,rfl,hk,HR⟩:=hrel;clear H1
      by_cases hlt:k<s.cl.length
      ·have hlt':(k:Int)<(s.cl.length:Int):=by omega
       obtain⟨g,o,qa,c,e,hg,c0,_,ln⟩:=(HX.out _ HR.out.1).1.cl k hlt;obtain⟨m,hm⟩:∃ m,(s.cl.getD k []).length=m:=⟨_,rfl⟩
       rw[hm]at c0 ln
       by_cases q:64<m
       ·have q':(64:Int)<(m:Int):=by omega
        have HY:Hid (aZ2 s s.cl.length=true):=(ae1 _ _).2 ⟨k,hlt,zT (by omega)⟩;clear hm;rw[e];go_wp2_with fail;go_ret;exact⟨by rw[HE2.out,HY.out];rfl,(HX.out _ HR.out.1).2.2⟩
       ·have q':¬ (64:Int)<(m:Int):=by omega
        have HY:Hid (aZ2 s (k+1)=false):=by
         show (anyU _ k || decide _)=false
         rw[zU (by omega),Bool.or_false];exact HR.out.2
        clear hm;rw[e];go_wp2_with fail;exact⟨⟨k+1,by first | rfl | (congr 1),rfl,by omega,HR.out.1,HY.out⟩,by simp[intOf];omega⟩
      ·have hk':k=s.cl.length:=by omega
       have hlt':¬ (k:Int)<(s.cl.length:Int):=by omega
       have HE3:Hid (errS s=if badT s s.cl.length then 1 else 0):=by rw[HE2.out,<- hk',HR.out.2];trivial
       obtain⟨s0,s1,s2,s3,s4,s5,s6,s7⟩:=a70 (HX.out _ HR.out.1).2.1;have HR1:=zH HR.out.1;clear HE2 hk';go_wp2_with fail;clear s0 s1 s2 s3 s4 s5 s6 s7 HR hlt hlt' hk
       go_loopw [2,55] (fun v2 v55 wr=>∃ k:Nat,v55=.int .i64 (k:Int)/\v2=.int .i64 0/\k<=s.cl.length/\Hid (Bw w s p wr/\badT s k=false)) (fun v2 v55 _=>s.cl.length - (intOf v55).toNat)
       case atStart=>exact⟨0,rfl,rfl,zV _,HR1.out,rfl⟩
       case round =>
        obtain⟨k,rfl,rfl,hk,HR⟩:=hrel;clear HR1
        by_cases hlt:k<s.cl.length
        ·have hlt':(k:Int)<(s.cl.length:Int):=by omega
         obtain⟨g,o,qa,c,e,hg,c0,ca,ln⟩:=(HX.out _ HR.out.1).1.cl k hlt;have HY:Hid ((badC s (s.cl.getD k []) (s.cl.getD k []).length=true->errS s=1)/\(badC s (s.cl.getD k []) (s.cl.getD k []).length=false->badT s (k+1)=false)):=by
          refine⟨fun q=>?_,fun q=>?_⟩
          ·rw[HE3.out,show badT s s.cl.length=true from(ae1 _ _).2 ⟨k,hlt,q⟩]
           rfl
          ·show (anyU _ k || badC s (s.cl.getD k []) (s.cl.getD k []).length)=false
           rw[q,Bool.or_false];exact HR.out.2
         obtain⟨l,hl⟩:∃ l,s.cl.getD k []=l:=⟨_,rfl⟩
         rw[hl]at c0 ca ln HY;obtain⟨m,hm⟩:∃ m,l.length=m:=⟨_,rfl⟩
         rw[hm]at c0 ln HY;have HCA:=zH ca;have HM:=zH hm;obtain⟨wo,hwo⟩:∃ wo,wo=wr:=⟨_,rfl⟩
         rw[<- hwo]at HR c0 hg HCA ⊢;clear hl hm ca hwo;rw[e];go_wp2_with fail
         go_loopw [2,61] (fun v2 v61 wi=>∃ j:Nat,v61=.int .i64 (j:Int)/\v2=.int .i64 0/\j<=m/\Hid (Bl wo wi/\badC s l j=false)) (fun v2 v61 _=>m - (intOf v61).toNat)
         case atStart=>exact⟨0,rfl,rfl,zV _,zF _ _,rfl⟩
         case round =>
          obtain⟨j,rfl,rfl,hj,HI⟩:=hrel;have HBW:=zH (HR.out.1.trans (HI.out.1.mono HR.out.1.size))
          by_cases hjt:j<m
          ·have hjt':(j:Int)<(m:Int):=by omega
           obtain⟨g2,o2,po,cc,e2,hg2,d0,d1,_,_,lx⟩:=(HCA.out.on HI.out.1) j (by rw[HM.out];exact hjt);obtain⟨x,hx⟩:∃ x,l.getD j (0,[])=x:=⟨_,rfl⟩
           have HZ:Hid ((a63 s.pg.length x=true->badC s l (j+1)=false)/\(a63 s.pg.length x=false->errS s=1)):=by
            refine⟨fun q=>?_,fun q=>HY.out.1 ((ae1 _ _).2 ⟨j,hjt,by rw[hx,q];rfl⟩)⟩
            show (anyU _ j || !a63 s.pg.length (l.getD j (0,[])))=false
            rw[hx,q,Bool.not_true,Bool.or_false];exact HI.out.2
           rw[hx]at d0 d1 lx;have HMY:Hid (a63 s.pg.length x=(decide (0<=x.1) && decide (x.1<(s.pg.length:Int)) && decide (x.2.length<=8))):=rfl;obtain⟨n2,hn2⟩:∃ n2,x.2.length=n2:=⟨_,rfl⟩
           obtain⟨x1,hx1⟩:∃ x1,x.1=x1:=⟨_,rfl⟩
           rw[hn2]at HMY d1 lx;rw[hx1]at HMY d0;clear hx hn2 hx1;have HAL:Hid (∀ ob,Bw w s p (wr.alloc ob)/\Bl wo (wr.alloc ob)):=fun ob=>⟨HBW.out.alloc HBW.out.size ob,HI.out.1.alloc HI.out.1.size ob⟩
           obtain⟨s0,s1,s2,s3,s4,s5,s6,s7⟩:=a70 (HX.out _ (HAL.out (.cells #[.int .i64 x1,.slice po n2 cc] 83)).1).2.1;clear s0 s1 s2 s3 s4 s6;subst e2
           by_cases y1:x1<0
           ·have hb:a63 s.pg.length x=false:=by rw[HMY.out,zU (by omega)];rfl
            go_wp2_with fail;go_ret;exact⟨by rw[HZ.out.2 hb];rfl,(HX.out _ (HAL.out (.cells #[.int .i64 x1,.slice po n2 cc] 83)).1).2.2⟩
           ·by_cases y2:(s.pg.length:Int)<=x1
            ·have hb:a63 s.pg.length x=false:=by rw[HMY.out,zU (show ¬ x1<(s.pg.length:Int) by omega),Bool.and_false];rfl
             go_wp2_with fail;go_ret;exact⟨by rw[HZ.out.2 hb];rfl,(HX.out _ (HAL.out (.cells #[.int .i64 x1,.slice po n2 cc] 83)).1).2.2⟩
            ·by_cases y3:8<n2
             ·have y3':(8:Int)<(n2:Int):=by omega
              have hb:a63 s.pg.length x=false:=by rw[HMY.out,zU (show ¬ n2<=8 by omega),Bool.and_false]
              go_wp2_with fail;go_ret;exact⟨by rw[HZ.out.2 hb];rfl,(HX.out _ (HAL.out (.cells #[.int .i64 x1,.slice po n2 cc] 83)).1).2.2⟩
             ·have y3':¬ (8:Int)<(n2:Int):=by omega
              have hb:a63 s.pg.length x=true:=by rw[HMY.out,zT (show 0<=x1 by omega),zT (show x1<(s.pg.length:Int) by omega),zT (show n2<=8 by omega)];rfl
              go_wp2_with fail;exact⟨⟨j+1,by first | rfl | (congr 1),rfl,by omega,(HAL.out _).2,HZ.out.1 hb⟩,by simp[intOf];omega⟩
          ·have hjm:j=m:=by omega
           have hjt':¬ (j:Int)<(m:Int):=by omega
           go_wp2_with fail;exact⟨⟨k+1,by first | rfl | (congr 1),rfl,by omega,HBW.out,HY.out.2 (by rw[<- hjm];exact HI.out.2)⟩,by simp[intOf];omega⟩
        ·have hk':k=s.cl.length:=by omega
         have hlt':¬ (k:Int)<(s.cl.length:Int):=by omega
         go_wp2_with fail;go_ret;exact⟨by rw[HE3.out,<- hk',HR.out.2];rfl,(HX.out _ HR.out.1).2.2⟩
  ·have q1':s.a<(s.st.length:Int):=by omega
   have HE2:Hid (errS s=1):=by rw[HE.out,zU q1,Bool.and_false];trivial
   clear HE HMA;go_enter Tryz.func11,Tryz.ntmps11
   go_wp2_with (go_at_call 33;refine(HP.out _).mono ?_;rintro r u1 ⟨rfl,q⟩;have H1:=zH q;obtain⟨s0,s1,s2,s3,s4,s5,s6,s7⟩:=a70 (HX.out _ q).2.1;clear q HP)
   go_ret;have:=(HX.out _ H1.out).2.2;exact⟨by rw[HE2.out];rfl,this.alloc this.size _⟩
end
theorem bH1 {w:World} {B g:Nat} {s:Su} {Z:Es} {D:Nat->Rr.Dd} (h:DdsAt w B g Z.X.H.dn Z.X.H.dn s Z D):Bo.DnsAt w.heap.size w g 0 (dnL Z):=by
 obtain⟨arr,h1,h2,h3⟩:=h.row.blk;refine⟨lt_of_block h1,fun k d hk=>?_⟩;have hlt:k<Z.X.H.dn:=by
  have:=(List.getElem?_eq_some_iff.1 hk).1
  simpa[dnL]using this
 have e:dnZ Z k=d:=by simpa[dnL,hlt]using hk
 refine⟨ar4 s Z k (D k) (Z.X.R:Int),fun j hj=>?_,e ▸ bi4 s Z k (D k)⟩;rw[zR _ _ _ _ _ _ h1,Nat.zero_add];exact h3 k j hlt hj
def yS (s:Su) (x:Nat->Int) (i:Nat):Nat:=(x i % s.b).toNat
theorem bM1 {s:Su} (hs:SuIn s) (x:Nat->Int) (i:Nat):x i % s.b=(yS s x i:Int)/\yS s x i<s.n:=by
 have b8:=hs.b8;have nb:=hs.nb;have h1:=Int.emod_nonneg (x i) (show s.b≠0 by omega);have h2:=Int.emod_lt_of_pos (x i) (show 0<s.b by omega);unfold yS;omega
theorem bz7 {w w':World} {B n:Nat} {q:Option Addr} {x:Nat->Int} (h:Sd.IntsAt w q n x) (k:Below B w w') (hB:w.heap.size<=B):Sd.IntsAt w' q n x:=fun i hi=>by
 obtain⟨g,o,e,hg,c⟩:=h i hi;exact⟨g,o,e,zL hg k.size,(k.cell (p:=⟨g,_,none⟩) (zL hg hB)).trans c⟩
section
variable {W:World} {s:Su} {p:Sp}
theorem bn9 (h:SuAt W s p) (hT:Shaped5 W) {W0:World} (hW0:W0=W.alloc (suO s p)):(∀ u,Bl W0 u->u.heap[W.heap.size]?=some (suO s p)/\Bl W u/\SuAt u s p/\Shaped5 u)/\W.heap.size<=W0.heap.size:=by
 have b:=(aR2 W s p).1;have e:=(aR2 W s p).2;rw[<- hW0]at b e;exact⟨fun u hu=>⟨(hu.block _ (lt_of_block e)).trans e,a17 b hu,(h.on b).on hu,(hT.on b).on hu⟩,b.size⟩
theorem zy3 (hT:Shaped5 W) (h:SuAt W s p) (q:Option Addr) (n c:Nat) (hn:errS s=0->65536<n):Calls Tryz.prog 3 #[.agg (suC s p),.slice q n c] W fun r w'=>r=.returned (.bool true)/\Bl W w':=by
 obtain⟨W0,hW0⟩:∃ W0,W0=W.alloc (suO s p):=⟨_,rfl⟩
 have HX:=zH (bn9 h hT hW0).1;obtain⟨e,he⟩:∃ e,errS s=e:=⟨_,rfl⟩
 have HN:Hid (∀ u,SuAt u s p->Shaped5 u->Calls Tryz.prog 10 #[.agg (suC s p)] u fun r w'=>∃ b:Option Addr,r=.returned (.tuple #[.pointer b,.int .i64 e])/\((b=none/\¬ e=0/\(e == 0)=false)\/(∃ g:Nat,b=some ⟨g,0,none⟩)/\e=0/\(65536:Int)<(n:Int))/\Bl u w'):=zH (fun u hu hS=>by
  by_cases z:errS s=0
  ·exact(bu7 hu hS z).mono fun r w' ⟨f,v,k,l⟩=>⟨_,by rw[<- he,z];exact k,.inr ⟨⟨_,rfl⟩,he ▸ z,by have:=hn z;omega⟩,l.out.2.2⟩
  ·exact(bB0 hu z).mono fun r w' ⟨k,l⟩=>⟨_,by rw[<- he];exact k,.inl ⟨rfl,he ▸ z,by rw[<- he];simpa using z⟩,l⟩)
 have HW:Hid (∀ u,SuAt u s p->Calls Tryz.prog 11 #[.agg (suC s p)] u fun r w'=>r=.returned (.int .i64 e)/\Bl u w'):=zH (fun u hu=>by rw[<- he];exact az7 hu);clear h hT he hn;go_enter Tryz.func3,Tryz.ntmps3
 go_upto_region 1 with fail
 rw[show W.alloc (.cells (suC s p) 28)=W0 from hW0.symm];clear hW0
 go_upto_region 3 with(first
  | (go_at_call 9;refine(Bo.zy4 W0).mono ?_;rintro r u1 ⟨rfl,hb⟩;have H1:=zH hb;clear hb;obtain⟨x0,x1,x2,x3,x4,x5,x6,x7⟩:=a70 (HX.out u1 H1.out).1)
  | (go_at_call 10;refine(HN.out u1 (HX.out u1 H1.out).2.2.1 (HX.out u1 H1.out).2.2.2).mono ?_;rintro r u2 ⟨b,rfl,hp,hb⟩;have H2:=zH (a17 H1.out hb);clear hb x0 x1 x2 x3 x4 x5 x6 x7;obtain⟨x0,x1,x2,x3,x4,x5,x6,x7⟩:=a70 (HX.out u2 H2.out).1))
 rcases hp with⟨rfl,z1,z2⟩ | ⟨⟨g,rfl⟩,rfl,z1⟩
 all_goals
  go_wp2_with (go_at_call 11;refine(HW.out u2 (HX.out u2 H2.out).2.2.1).mono ?_;rintro r u3 ⟨rfl,hb⟩;have H3:=zH (a17 H2.out hb);clear hb x0 x1 x2 x3 x4 x5 x6 x7)
  go_ret;exact⟨rfl,(HX.out u3 H3.out).2.1⟩
theorem bR4 {w:World} {f:Ex} {v:Ev} {B:Nat} (he:Eng w f v s (Z0 s)) (hf:Frs B f v) (hB:B<=w.heap.size) (hs:SuIn s) {q:Option Addr} {n c:Nat} {x:Nat->Int} (hx:Sd.IntsAt w q n x) (hn:n<=65536) :
  Calls Tryz.prog 12 #[.pointer (some ⟨f.b,0,none⟩),.slice q n c] w fun r w'=>∃ k:Int,r=.returned (.tuple #[.int .i64 k,.int .i64 0])/\Hid (∃ v',Eng w' f v' s (runZ s (Z0 s) (yS s x) n)/\Below B w w'):=by
 refine(bD3 he hs hx hn (show (0:Nat)+65536<4611686018427387904 by decide) (fun i _=>bM1 hs x i)).mono ?_;rintro r w' ⟨rfl,k⟩;obtain⟨v',h1,h2⟩:=k.out;exact⟨_,rfl,zH ⟨v',h1,(hf.ext hB h2).2⟩⟩
theorem by2 {w:World} {f:Ex} {v:Ev} {Z:Es} (he:Eng w f v s Z) (hs:SuIn s):Calls Tryz.prog 13 #[.pointer (some ⟨f.b,0,none⟩)] w fun r w'=>∃ g,r=.returned (.slice (some ⟨g,0,none⟩) (dnL Z).length (dnL Z).length)/\Hid (Bo.DnsAt w'.heap.size w' g 0 (dnL Z)/\Bl w w'):=by
 have e:(dnL Z).length=Z.X.H.dn:=by simp[dnL]
 rw[e];refine(b55 he hs).mono ?_;rintro r w' ⟨g,rfl,k⟩;obtain⟨D,h1,h2⟩:=k.out;exact⟨g,rfl,zH ⟨bH1 h1,h2⟩⟩
theorem bj1 (hs:SuIn s) {x:Nat->Int} {n:Nat} {w:World} {f:Ex} {v:Ev} (he:Eng w f v s (runZ s (Z0 s) (yS s x) n)) (hn:n<=65536):(∀ d∈dnL (runZ s (Z0 s) (yS s x) n),Fine s d)/\Bo.allD (Bo.cnL (dnL (runZ s (Z0 s) (yS s x) n)))=true/\Bo.fst0 (Bo.exF (Bo.rdN s.c) (Bo.wrN s.b s.c s.e) 0 (dnL (runZ s (Z0 s) (yS s x) n)))=-1/\(dnL (runZ s (Z0 s) (yS s x) n)).length<=512:=by
 have w0:=WI0 hs;have hy:∀ i,i<n->yS s x i<s.n:=fun i _=>(bM1 hs x i).2
 obtain⟨w1,w2⟩:=aG5 (Z:=Z0 s) hs w0 n hy;have n1:=NI.run (Z:=Z0 s) hs w0 (NI0 hs) n hy;have rn:=he.rn;have hN:(runZ s (Z0 s) (yS s x) n).X.H.N<=1000000:=by
  have:(Z0 s).X.H.N=0:=rfl;omega
 obtain⟨z1,z2⟩:=ba8 hs w1 n1 rn hN;refine⟨fun d hd=>?_,z1,z2,by rw[show (dnL (runZ s (Z0 s) (yS s x) n)).length=(runZ s (Z0 s) (yS s x) n).X.H.dn from by simp[dnL]];exact w1.few hs⟩;obtain⟨i,h1,rfl⟩:=List.mem_map.1 hd;exact bu8 hs w1 n1 rn hN (List.mem_range.1 h1)
theorem ba7 (hT:Shaped5 W) (h:SuAt W s p) (he:errS s=0) {q:Option Addr} {n c:Nat} {x:Nat->Int} (hx:Sd.IntsAt W q n x) (hn:n<=65536):Calls Tryz.prog 3 #[.agg (suC s p),.slice q n c] W fun r w'=>r=.returned (.bool true)/\Bl W w':=by
 obtain⟨W0,hW0⟩:∃ W0,W0=W.alloc (suO s p):=⟨_,rfl⟩
 have HX:=zH (bn9 h hT hW0).1;have HZ:=zH (bn9 h hT hW0).2;have hs:=suIn h.ok he;have HS:=zH hs;have HN:Hid (∀ u,SuAt u s p->Shaped5 u->Calls Tryz.prog 10 #[.agg (suC s p)] u fun r w'=>∃ f:Ex,r=.returned (.tuple #[.pointer (some ⟨f.b,0,none⟩),.int .i64 0])/\Hid (∃ v,Eng w' f v s (Z0 s)/\Frs u.heap.size f v/\Bl u w')):=zH (fun u hu hS=>(bu7 hu hS he).mono fun r w' ⟨f,v,e,k⟩=>⟨f,e,zH ⟨v,k.out⟩⟩);have HW:Hid (∀ u,SuAt u s p->Calls Tryz.prog 11 #[.agg (suC s p)] u fun r w'=>r=.returned (.int .i64 0)/\Bl u w'):=zH (fun u hu=>by rw[<- he];exact az7 hu);have HI:=zH hx;have HR:=zH (fun u=>Bo.zy0 s.a s.b s.c s.e u hs.cfg);have hni:(n:Int)<=65536:=by omega
 have HQ:=zH hn;obtain⟨rd,hrd⟩:∃ rd,Bo.rdN s.c=rd:=⟨_,rfl⟩
 have HRD:=zH hrd;rw[hrd]at HR;clear h hT he hn hs hx hrd;go_enter Tryz.func3,Tryz.ntmps3
 go_upto_region 1 with fail
 rw[show W.alloc (.cells (suC s p) 28)=W0 from hW0.symm];clear hW0
 go_upto_region 9 with(first
  | (go_at_call 9;refine(Bo.zy4 W0).mono ?_;rintro r u1 ⟨rfl,hb⟩;have H1:=zH hb;clear hb;obtain⟨x0,x1,x2,x3,x4,x5,x6,x7⟩:=a70 (HX.out u1 H1.out).1)
  | (go_at_call 10;refine(HN.out u1 (HX.out u1 H1.out).2.2.1 (HX.out u1 H1.out).2.2.2).mono ?_;rintro r u2 ⟨f,rfl,k⟩;obtain⟨v,k1,k2,k3⟩:=k.out;have HE2:=zH k1;have HF2:=zH k2;have H2:=zH (a17 H1.out k3);have HB2:=zH k3.size;clear k k1 k2 k3 x0 x1 x2 x3 x4 x5 x6 x7;obtain⟨x0,x1,x2,x3,x4,x5,x6,x7⟩:=a70 (HX.out u2 H2.out).1)
  | (go_at_call 11;refine(HW.out u2 (HX.out u2 H2.out).2.2.1).mono ?_;rintro r u3 ⟨rfl,hb⟩;have H3:=zH (a17 H2.out hb);have HE3:=zH (HE2.out.on hb);have HB3:=zH (zQ HB2.out hb.size);clear hb x0 x1 x2 x3 x4 x5 x6 x7)
  | (go_at_call 12;refine(bR4 HE3.out HF2.out HB3.out HS.out (bz7 HI.out (HX.out u3 H3.out).2.1 (zE _)) HQ.out).mono ?_;rintro r u4 ⟨kk,rfl,k⟩;obtain⟨v4,k1,k2⟩:=k.out;have HE4:=zH k1;have H4:=zH (H3.out.trans (k2.mono H1.out.size));have HG:=zH (bj1 HS.out k1 HQ.out);clear k k1 k2))
 obtain⟨ds,hds⟩:∃ ds,dnL (runZ s (Z0 s) (yS s x) n)=ds:=⟨_,rfl⟩
 have HD4:=zH (by2 HE4.out HS.out);rw[hds]at HD4 HG;clear hds HE4;have HLT:Hid (∀ u g,Bo.DnsAt u.heap.size u g 0 ds->Calls Tryz.prog 14 #[Bo.cfgV s.a s.b s.c s.e,.slice (some ⟨g,0,none⟩) ds.length ds.length] u fun r w'=>r=.returned (Bo.okV (-1))/\Bl u w'):=zH (fun u g hu=>by
  have z:=Bo.late_ok s.a s.b s.c s.e (some ⟨g,0,none⟩) ds.length ds.length u HS.out.cfg ds (by have:=HG.out.2.2.2;omega) (.inr ⟨g,0,_,rfl,hu⟩) HG.out.2.1;rw[HG.out.2.2.1]at z;exact z)
 have hlen:(ds.length:Int)<=512:=by have:=HG.out.2.2.2;omega
 go_upto_region 12 with(first
  | (go_at_call 13;refine HD4.out.mono ?_;rintro r u5 ⟨g,rfl,k⟩;have HD5:=zH k.out.1;have H5:=zH (a17 H4.out k.out.2);clear k;obtain⟨x0,x1,x2,x3,x4,x5,x6,x7⟩:=a70 (HX.out u5 H5.out).1)
  | (go_at_call 14;refine(HLT.out u5 g HD5.out).mono ?_;rintro r u6 ⟨rfl,hb⟩;have HD6:=zH (Bo.DnsAt.below HD5.out hb);have HS6:=zH hb.size;have H6:=zH (a17 H5.out hb);clear hb x0 x1 x2 x3 x4 x5 x6 x7;obtain⟨x0,x1,x2,x3,x4,x5,x6,x7⟩:=a70 (HX.out u6 H6.out).1)
  | (go_at_call 15;refine(HR.out u6).mono ?_;rintro r u7 ⟨rfl,hb⟩;have H7:=zH (a17 H6.out hb);have HD7:=zH (HD6.out.below (hb.mono HS6.out));have HS7:=zH (zQ HS6.out hb.size);clear hb x0 x1 x2 x3 x4 x5 x6 x7))
 go_wp2
 go_loopw [80] (fun i wr=>∃ k:Nat,k<=ds.length/\i=.int .i64 k/\Bl u7 wr) (fun i _=>ds.length - (intOf i).toNat)
 case atStart=>exact⟨0,zV _,rfl,zF _ _⟩
 case round =>
  obtain⟨k,hk,rfl,hB⟩:=hrel
  by_cases hlt:k<ds.length
  ·have hd:ds[k]?=some ds[k]:=List.getElem?_eq_getElem hlt
   have hfi:=HG.out.1 ds[k] (List.getElem_mem hlt);obtain⟨dk,hdk⟩:∃ dk,ds[k]=dk:=⟨_,rfl⟩
   rw[hdk]at hd hfi;obtain⟨cs,hcc,hcd⟩:=(HD7.out.below (hB.mono HS7.out)).2 k _ hd;rw[Nat.zero_add]at hcc;obtain⟨q3,q5,q15,q16,q17,q18⟩:=Bo.zy1 hcd (zN wr (.cells cs 46));have HBn:=zH (a17 hB ((zF _ wr).alloc (zE _) (.cells cs 46)));have HC1:∀ j,j<cs.size->wr.cell? ⟨g,k*19+j,none⟩=cs[j]?:=fun j hj=>hcc j (by rw[hcd.size]at hj;exact hj)
   have HI1:(Tryz.prog.info? 46).map (·.size)=some cs.size:=by rw[hcd.size];exact Bo.deedInfo
   have HS1:Hid (19=cs.size):=zH hcd.size.symm;have HO1:=hcd.one;have g1:=hfi.to_;have g2:=hfi.ah;have g3:=hfi.own;rw[HRD.out]at g3;clear hcc hcd q5 hfi
   rcases(show dk.tag=2\/(¬ dk.tag=2/\dk.steps<=rd) from(Classical.em _).imp_right fun z=>⟨z,g3 z⟩) with h2 | ⟨h2,g4⟩
   all_goals try rw[h2]at q3
   all_goals
    clear g3
    go_wp2_with (first
     | (refine ae9 rfl 46 _ rfl g (k*19) rfl cs _ HC1 Tryz.underlying46 rfl HI1 ?_;clear HC1;simp only[Act.put,zA,zB,zC])
     | (refine wpList_store_row rfl 46 _ _ rfl wr.heap.size cs rfl rfl _ _ (zN _ _) HI1 HS1.out HO1 ?_;clear HS1 HI1 HO1;rw[World.setRow_alloc_new];simp only[Act.put];refine Hid.out ?_))
    refine zH ?_
    go_wp2
    go_roundw
    case rel=>exact⟨k+1,by omega,by simp,HBn.out⟩
    case measure=>simp[intOf];omega
  ·obtain rfl:k=ds.length:=by omega
   go_wp2
   go_ret;exact⟨rfl,(HX.out _ (a17 H7.out hB)).2.1⟩
theorem nobody_any (hT:Shaped5 W) (h:SuAt W s p) {q:Option Addr} {n c:Nat} {x:Nat->Int} (hx:Sd.IntsAt W q n x):Calls Tryz.prog 3 #[.agg (suC s p),.slice q n c] W fun r w'=>r=.returned (.bool true)/\Bl W w':=by
 by_cases he:errS s=0
 ·by_cases hn:n<=65536
  ·exact ba7 hT h he hx hn
  ·exact zy3 hT h q n c (fun _=>by omega)
 ·exact zy3 hT h q n c (fun z=>absurd z he)
end
end Go.Proofs.YtkihgongjedheaaGreatDoor.En
namespace Go.Proofs.YtkihgongjedheaaGreatDoor.En
open Go.ChangeShapes Go.WideShapes Go.ChangeAt Go.RowKit Go.Deep Num Ww
theorem aH9:Tryz.prog.cellsOf 3=1:=by kernel_rfl
theorem aS7:Tryz.prog.cellsOf 123=3:=by kernel_rfl
theorem bx1:Tryz.prog.cellsOf 23=4:=by kernel_rfl
theorem b42:Tryz.prog.cellsOf 120=2:=by kernel_rfl
theorem b40:Tryz.prog.cellsOf 83=2:=by kernel_rfl
theorem bx3:Tryz.prog.cellsOf 118=1:=by kernel_rfl
theorem b41:Tryz.prog.cellsOf 24=1:=by kernel_rfl
theorem bx2:Tryz.prog.cellsOf 77=1:=by kernel_rfl
theorem bx5:Tryz.prog.cellsOf 25=1:=by kernel_rfl
theorem bx6:Tryz.prog.cellsOf 26=1:=by kernel_rfl
theorem bx7:Tryz.prog.cellsOf 28=7:=by kernel_rfl
theorem bh7:Tryz.prog.bytesOf 123=24:=by kernel_rfl
section
variable {H:Type} {enc:TypeId × Value->H}
theorem am6 {P:Program} {e:TypeId} {d:DataW H} {z:Nat}:∀ {l:List (DataW H)},d∈l->z∈d.weights P e->z∈DataW.weightsAll P e l:=by
 intro l
 induction l with
 | nil=>intro h;cases h
 | cons a l ih =>
  intro h hz;simp only[DataW.weightsAll,List.mem_append]
  rcases List.mem_cons.1 h with rfl | q
  ·exact .inl hz
  ·exact .inr (ih q hz)
theorem aZ7 {W:World} {fuel:Nat} {cs:List Value} {x:DataW H × List MemPlace} (hf:DataW.trod enc Tryz.prog W 0 (fun _=>true) true fuel 118 cs=some x) :
  ∃ (ao:Option Addr) (c:List Ins) (cap:Nat),cs=[.slice ao c.length cap]/\(∀ k,k<c.length->(ci c k).x<18446744073709551616)/\a39 W ao c/\Pln ao c.length cap/\((∀ z∈x.1.weights Tryz.prog 118,z<=reachBytes)->c.length*24<=reachBytes):=by
 rcases open_slice Tryz.underlying118 hf with⟨hcs,_⟩ | ⟨a,len,cap,m,n,D,Pl,hcs,_,hl,hm,hmm,hd,hx⟩
 ·exact⟨none,[],0,hcs,fun i hi=>absurd hi (zI i),fun i hi=>absurd hi (zI i),.inl ⟨rfl,rfl,rfl⟩,fun _=>by simp⟩
 ·simp only[if_true]at hmm
  have hd1:x.1=.slice ((List.range len).map D) ((List.range (m - len)).map fun j=>D (len+j)):=congrArg Prod.fst hd;obtain⟨b,off,spot⟩:=a;have hs:0<len->spot=none:=by
   intro h0;obtain⟨cs',h1,_⟩:=hx 0 (by omega);rw[aS7]at h1;obtain⟨_,hlen,hcell⟩:=World.cells?_some h1
   match cs',hlen with
   | [c0,c1,c2],_ =>
    have f0:=hcell 0 (by omega)
    simpa[Addr.add]using World.cell?_spot f0
  have each:∀ i,i<len->∃ q:Ins,spot=none/\b<W.heap.size/\q.x<18446744073709551616/\W.cell? ⟨b,off+i*3,none⟩=some (.int .i64 q.op)/\W.cell? ⟨b,off+i*3+1,none⟩=some (.int .i64 q.n)/\W.cell? ⟨b,off+i*3+2,none⟩=some (.float .f64 q.x):=by
   intro i hi;obtain⟨cs',h1,h2⟩:=hx i (by omega);rw[aS7]at h1;obtain⟨_,hlen,hcell⟩:=World.cells?_some h1;obtain⟨xs,k,_,_,_,hxl,hg⟩:=DataW.trod_struct Tryz.underlying123 h2
   match xs,hxl,cs',hlen with
   | [y0,y1,y2],_,[c0,c1,c2],_ =>
    have g0:=hg 0 _ rfl;have g1:=hg 1 _ rfl;have g2:=hg 2 _ rfl
    simp[aH9,bt9]at g0 g1 g2
    obtain⟨x0,e0,_,_⟩:=DataW.trod_int Tryz.underlying3 g0;obtain⟨x1,e1,_,_⟩:=DataW.trod_int Tryz.underlying3 g1;obtain⟨x2,e2,hx2⟩:=aW1 g2
    simp at e0 e1 e2
    subst e0 e1 e2;have f0:=hcell 0 (by omega);have f1:=hcell 1 (by omega);have f2:=hcell 2 (by omega);rw[add_add]at f0 f1 f2;have hspot:=hs (by omega);subst hspot;rw[zJ]at f0 f1 f2;exact⟨⟨x0,x1,x2⟩,rfl,zK W _ f0,hx2,f0,f1,f2⟩
  have:Inhabited Ins:=⟨⟨0,0,0⟩⟩;obtain⟨q,hq⟩:=choose_lt each;have hcl:((List.range len).map q).length=len:=by simp
  have hci:∀ i,i<len->ci ((List.range len).map q) i=q i:=fun i hi=>by
   unfold ci
   simp[List.getD_eq_getElem?_getD,hi]
  refine⟨some ⟨b,off,spot⟩,(List.range len).map q,cap,by rw[hcl];exact hcs,fun i hi=>?_,fun i hi=>?_,.inr ⟨b,off,spot,rfl⟩,fun hz=>?_⟩
  ·rw[hcl]at hi
   rw[hci i hi];exact(hq i hi).2.2.1
  ·rw[hcl]at hi
   rw[hci i hi];obtain⟨rfl,h2,_,r⟩:=hq i hi;exact⟨b,off,rfl,h2,r⟩
  ·have:=hz ((len+(m - len))*24) (by
    rw[hd1]
    simp[DataW.weights,Tryz.underlying118,bh7])
   rw[hcl];omega
theorem aK6 {W:World} {fuel:Nat} {cs:List Value} {x:DataW H × List MemPlace} (hf:DataW.trod enc Tryz.prog W 0 (fun _=>true) true fuel 24 cs=some x) :
  ∃ (ao:Option Addr) (l:List Nat) (cap:Nat),cs=[.slice ao l.length cap]/\(∀ y∈l,y<18446744073709551616)/\FlAt W ao l/\Pln ao l.length cap/\l.length<=maxLen:=by
 rcases open_slice1 Tryz.underlying24 bt9 hf with⟨hcs,_⟩ | ⟨a,len,cap,m,n,V,D,Pl,hcs,_,hl,hm,hmm,_,hx⟩
 ·exact⟨none,[],0,hcs,fun y hy=>(by cases hy),fun i hi=>absurd hi (zI i),.inl ⟨rfl,rfl,rfl⟩,zV _⟩
 ·simp only[if_true]at hmm
  obtain⟨b,off,spot⟩:=a;have hs:0<len->spot=none:=by
   intro h0;obtain⟨h1,_⟩:=hx 0 (by omega)
   simpa[Addr.add]using World.cell?_spot h1
  have each:∀ i,i<len->∃ q:Nat,spot=none/\b<W.heap.size/\q<18446744073709551616/\W.cell? ⟨b,off+i,none⟩=some (.float .f64 q):=by
   intro i hi;obtain⟨h1,h2⟩:=hx i (by omega);obtain⟨q,e,hq⟩:=aW1 h2
   simp at e
   rw[e]at h1;have hs:=hs (by omega);subst hs;rw[zJ]at h1;exact⟨q,rfl,zK W _ h1,hq,h1⟩
  obtain⟨q,hq⟩:=choose_lt each;have hlen:((List.range len).map q).length=len:=by simp
  have hget:∀ i,i<len->((List.range len).map q).getD i 0=q i:=fun i hi=>by simp[hi]
  refine⟨some ⟨b,off,spot⟩,(List.range len).map q,cap,by rw[hlen];exact hcs,fun y hy=>?_,fun i hi=>?_,.inr ⟨b,off,spot,rfl⟩,by rw[hlen];exact zQ hl hm⟩
  ·obtain⟨j,hj,rfl⟩:=List.mem_map.1 hy
   exact(hq j (List.mem_range.1 hj)).2.2.1
  ·rw[hlen]at hi
   obtain⟨rfl,r1,_,r3⟩:=hq i hi;exact⟨b,off,rfl,r1,by rw[hget i hi];exact r3⟩
theorem aP8 {W:World} {fuel:Nat} {cs:List Value} {x:DataW H × List MemPlace} (hf:DataW.trod enc Tryz.prog W 0 (fun _=>true) true fuel 25 cs=some x) (hz:∀ z∈x.1.weights Tryz.prog 25,z<=reachBytes) :
  ∃ (ao:Option Addr) (l:List (Int × List Ins)) (cap:Nat),cs=[.slice ao l.length cap]/\l.length<=maxLen/\PrAt W ao l/\(∀ p∈l,∀ k,k<p.2.length->(ci p.2 k).x<18446744073709551616):=by
 rcases open_slice Tryz.underlying25 hf with⟨hcs,_⟩ | ⟨a,len,cap,m,n,D,Pl,hcs,_,hl,hm,hmm,hd,hx⟩
 ·exact⟨none,[],0,hcs,zV _,fun i hi=>absurd hi (zI i),fun p hp=>(by cases hp)⟩
 ·simp only[if_true]at hmm
  have hd1:x.1=.slice ((List.range len).map D) ((List.range (m - len)).map fun j=>D (len+j)):=congrArg Prod.fst hd;rw[hd1]at hz;obtain⟨b,off,spot⟩:=a;have hs:0<len->spot=none:=by
   intro h0;obtain⟨cs',h1,_⟩:=hx 0 (by omega);rw[b42]at h1;obtain⟨_,hlen,hcell⟩:=World.cells?_some h1
   match cs',hlen with
   | [c0,c1],_ =>
    have f0:=hcell 0 (by omega)
    simpa[Addr.add]using World.cell?_spot f0
  have each:∀ i,i<len->∃ q:(Int × List Ins) × (Option Addr × Nat),spot=none/\b<W.heap.size/\W.cell? ⟨b,off+i*2,none⟩=some (.int .i64 q.1.1)/\W.cell? ⟨b,off+i*2+1,none⟩=some (.slice q.2.1 q.1.2.length q.2.2)/\a39 W q.2.1 q.1.2/\Pln q.2.1 q.1.2.length q.2.2/\(∀ k,k<q.1.2.length->(ci q.1.2 k).x<18446744073709551616)/\q.1.2.length*24<=reachBytes:=by
   intro i hi;obtain⟨cs',h1,h2⟩:=hx i (by omega);rw[b42]at h1;obtain⟨_,hlen,hcell⟩:=World.cells?_some h1;obtain⟨xs,k,_,hxd,_,hxl,hg⟩:=DataW.trod_struct Tryz.underlying120 h2
   match xs,hxl,cs',hlen with
   | [y0,y1],_,[c0,c1],_ =>
    have g0:=hg 0 _ rfl;have g1:=hg 1 _ rfl
    simp[aH9,bx3]at g0 g1
    obtain⟨x0,e0,_,_⟩:=DataW.trod_int Tryz.underlying3 g0;obtain⟨ao,cc,cp,e1,hcx,hco,hpl,hsz⟩:=aZ7 g1
    simp at e0 e1
    subst e0 e1;have f0:=hcell 0 (by omega);have f1:=hcell 1 (by omega);rw[add_add]at f0 f1;have hspot:=hs (by omega);subst hspot;rw[zJ]at f0 f1;have hDi:D i=.agg [y0.1,y1.1]:=congrArg Prod.fst hxd;refine⟨((x0,cc),(ao,cp)),rfl,zK W _ f0,f0,f1,hco,hpl,hcx,hsz fun z hz'=>hz z ?_⟩;simp only[DataW.weights,Tryz.underlying25];refine List.mem_cons_of_mem _ (List.mem_append_left _ (am6 (List.mem_map.2 ⟨i,List.mem_range.2 hi,rfl⟩) ?_));rw[hDi]
    simp[DataW.weights,DataW.weightsEach,Tryz.underlying120,hz']
  have:Inhabited ((Int × List Ins) × (Option Addr × Nat)):=⟨((0,[]),(none,0))⟩;obtain⟨q,hq⟩:=choose_lt each;have hcl:((List.range len).map fun i=>(q i).1).length=len:=by simp
  have hget:∀ i,i<len->((List.range len).map fun i=>(q i).1).getD i (0,[])=(q i).1:=fun i hi=>by simp[hi]
  have hr:reachBytes=140737488351232:=rfl;refine⟨some ⟨b,off,spot⟩,(List.range len).map fun i=>(q i).1,cap,by rw[hcl];exact hcs,by rw[hcl];exact zQ hl hm,fun i hi=>?_,fun p hp=>?_⟩
  ·rw[hcl]at hi
   rw[hget i hi];obtain⟨rfl,r1,r2,r3,r4,r5,_,r6⟩:=hq i hi;exact⟨b,off,(q i).2.1,(q i).2.2,rfl,r1,r2,r3,r4,r5,by omega⟩
  ·obtain⟨j,hj,rfl⟩:=List.mem_map.1 hp
   exact(hq j (List.mem_range.1 hj)).2.2.2.2.2.2.1
theorem aP7 {W:World} {fuel:Nat} {cs:List Value} {x:DataW H × List MemPlace} (hf:DataW.trod enc Tryz.prog W 0 (fun _=>true) true fuel 77 cs=some x) :
  ∃ (ao:Option Addr) (l:List (Int × List Nat)) (cap:Nat),cs=[.slice ao l.length cap]/\l.length<=maxLen/\CaAt W ao l/\(∀ p∈l,∀ y∈p.2,y<18446744073709551616):=by
 rcases open_slice Tryz.underlying77 hf with⟨hcs,_⟩ | ⟨a,len,cap,m,n,D,Pl,hcs,_,hl,hm,hmm,_,hx⟩
 ·exact⟨none,[],0,hcs,zV _,fun i hi=>absurd hi (zI i),fun p hp=>(by cases hp)⟩
 ·simp only[if_true]at hmm
  obtain⟨b,off,spot⟩:=a;have hs:0<len->spot=none:=by
   intro h0;obtain⟨cs',h1,_⟩:=hx 0 (by omega);rw[b40]at h1;obtain⟨_,hlen,hcell⟩:=World.cells?_some h1
   match cs',hlen with
   | [c0,c1],_ =>
    have f0:=hcell 0 (by omega)
    simpa[Addr.add]using World.cell?_spot f0
  have each:∀ i,i<len->∃ q:(Int × List Nat) × (Option Addr × Nat),spot=none/\b<W.heap.size/\W.cell? ⟨b,off+i*2,none⟩=some (.int .i64 q.1.1)/\W.cell? ⟨b,off+i*2+1,none⟩=some (.slice q.2.1 q.1.2.length q.2.2)/\FlAt W q.2.1 q.1.2/\Pln q.2.1 q.1.2.length q.2.2/\q.1.2.length<=maxLen/\(∀ y∈q.1.2,y<18446744073709551616):=by
   intro i hi;obtain⟨cs',h1,h2⟩:=hx i (by omega);rw[b40]at h1;obtain⟨_,hlen,hcell⟩:=World.cells?_some h1;obtain⟨xs,k,_,_,_,hxl,hg⟩:=DataW.trod_struct Tryz.underlying83 h2
   match xs,hxl,cs',hlen with
   | [y0,y1],_,[c0,c1],_ =>
    have g0:=hg 0 _ rfl;have g1:=hg 1 _ rfl
    simp[aH9,b41]at g0 g1
    obtain⟨x0,e0,_,_⟩:=DataW.trod_int Tryz.underlying3 g0;obtain⟨ao,ll,cp,e1,hll,hfl,hpl,hml⟩:=aK6 g1
    simp at e0 e1
    subst e0 e1;have f0:=hcell 0 (by omega);have f1:=hcell 1 (by omega);rw[add_add]at f0 f1;have hspot:=hs (by omega);subst hspot;rw[zJ]at f0 f1;exact⟨((x0,ll),(ao,cp)),rfl,zK W _ f0,f0,f1,hfl,hpl,hml,hll⟩
  have:Inhabited ((Int × List Nat) × (Option Addr × Nat)):=⟨((0,[]),(none,0))⟩;obtain⟨q,hq⟩:=choose_lt each;have hcl:((List.range len).map fun i=>(q i).1).length=len:=by simp
  have hget:∀ i,i<len->((List.range len).map fun i=>(q i).1).getD i (0,[])=(q i).1:=fun i hi=>by simp[hi]
  refine⟨some ⟨b,off,spot⟩,(List.range len).map fun i=>(q i).1,cap,by rw[hcl];exact hcs,by rw[hcl];exact zQ hl hm,fun i hi=>?_,fun p hp=>?_⟩
  ·rw[hcl]at hi
   rw[hget i hi];obtain⟨rfl,r1,r2,r3,r4,r5,r6,_⟩:=hq i hi;exact⟨b,off,(q i).2.1,(q i).2.2,rfl,r1,r2,r3,r4,r5,r6⟩
  ·obtain⟨j,hj,rfl⟩:=List.mem_map.1 hp
   exact(hq j (List.mem_range.1 hj)).2.2.2.2.2.2.2
theorem aF5 {W:World} {fuel:Nat} {cs:List Value} {x:DataW H × List MemPlace} (hf:DataW.trod enc Tryz.prog W 0 (fun _=>true) true fuel 26 cs=some x) :
  ∃ (ao:Option Addr) (l:List (List (Int × List Nat))) (cap:Nat),cs=[.slice ao l.length cap]/\l.length<=maxLen/\ThAt W ao l/\(∀ k∈l,∀ p∈k,∀ y∈p.2,y<18446744073709551616):=by
 rcases open_slice1 Tryz.underlying26 bx2 hf with⟨hcs,_⟩ | ⟨a,len,cap,m,n,V,D,Pl,hcs,_,hl,hm,hmm,_,hx⟩
 ·exact⟨none,[],0,hcs,zV _,fun i hi=>absurd hi (zI i),fun p hp=>(by cases hp)⟩
 ·simp only[if_true]at hmm
  obtain⟨b,off,spot⟩:=a;have hs:0<len->spot=none:=by
   intro h0;obtain⟨h1,_⟩:=hx 0 (by omega)
   simpa[Addr.add]using World.cell?_spot h1
  have each:∀ i,i<len->∃ q:List (Int × List Nat) × (Option Addr × Nat),spot=none/\b<W.heap.size/\W.cell? ⟨b,off+i,none⟩=some (.slice q.2.1 q.1.length q.2.2)/\CaAt W q.2.1 q.1/\q.1.length<=maxLen/\(∀ p∈q.1,∀ y∈p.2,y<18446744073709551616):=by
   intro i hi;obtain⟨h1,h2⟩:=hx i (by omega);obtain⟨ao,ll,cp,e1,hml,hca,hll⟩:=aP7 h2
   simp at e1
   rw[e1]at h1;have hs:=hs (by omega);subst hs;rw[zJ]at h1;exact⟨(ll,(ao,cp)),rfl,zK W _ h1,h1,hca,hml,hll⟩
  have:Inhabited (List (Int × List Nat) × (Option Addr × Nat)):=⟨([],(none,0))⟩;obtain⟨q,hq⟩:=choose_lt each;have hcl:((List.range len).map fun i=>(q i).1).length=len:=by simp
  have hget:∀ i,i<len->((List.range len).map fun i=>(q i).1).getD i []=(q i).1:=fun i hi=>by simp[hi]
  refine⟨some ⟨b,off,spot⟩,(List.range len).map fun i=>(q i).1,cap,by rw[hcl];exact hcs,by rw[hcl];exact zQ hl hm,fun i hi=>?_,fun p hp=>?_⟩
  ·rw[hcl]at hi
   rw[hget i hi];obtain⟨rfl,r1,r2,r3,r4,_⟩:=hq i hi;exact⟨b,off,(q i).2.1,(q i).2.2,rfl,r1,r2,r3,r4⟩
  ·obtain⟨j,hj,rfl⟩:=List.mem_map.1 hp
   exact(hq j (List.mem_range.1 hj)).2.2.2.2.2
theorem open_setup {W:World} {base:Nat} {v:Value} {d:DataW H} {ps:List MemPlace} (hval:Value.okWide Tryz.prog W .any base 28 v) (h:DataW.Trod enc Tryz.prog W 0 (fun _=>true) true 28 v d ps)
  {ts:List TypeId} {ds:List (DataW H)} (hz:(DataW.weightsEach Tryz.prog ts ds).all (·<=reachBytes)=true) {j:Nat} (h1:ts[j]?=some 28) (h2:ds[j]?=some d) :
  ∃ s p,v=.agg (suC s p)/\SuAt W s p/\True:=by
 obtain⟨csv,rfl,hsz⟩:=okWide_struct Tryz.underlying28 hval;rw[bx7]at hsz;obtain⟨lv⟩:=csv
 match lv,hsz with
 | [c0,c1,c2,c3,c4,c5,c6],_ =>
  obtain⟨fuel,hf⟩:=h;obtain⟨xs,n,_,hxd,_,hlen,hg⟩:=DataW.trod_struct Tryz.underlying28 hf
  match xs,hlen with
  | [y0,y1,y2,y3],_ =>
   have g0:=hg 0 _ rfl;have g1:=hg 1 _ rfl;have g2:=hg 2 _ rfl;have g3:=hg 3 _ rfl
   simp[bx1,b41,bx5,bx6,Value.cells]at g0 g1 g2 g3
   obtain⟨zs,n0,_,_,_,zl,zg⟩:=DataW.trod_struct Tryz.underlying23 g0;have hd0:d=.agg [y0.1,y1.1,y2.1,y3.1]:=congrArg Prod.fst hxd;have wt:∀ z∈d.weights Tryz.prog 28,z<=reachBytes:=fun z hz'=>by simpa using List.all_eq_true.1 hz _ (DataW.weights_mem_each h1 h2 z hz')
   rw[hd0]at wt;simp only[DataW.weights,Tryz.underlying28]at wt
   match zs,zl with
   | [z0,z1,z2,z3],_ =>
    have k0:=zg 0 _ rfl;have k1:=zg 1 _ rfl;have k2:=zg 2 _ rfl;have k3:=zg 3 _ rfl
    simp[aH9]at k0 k1 k2 k3
    obtain⟨a,ea,_,_⟩:=DataW.trod_int Tryz.underlying3 k0;obtain⟨b,eb,_,_⟩:=DataW.trod_int Tryz.underlying3 k1;obtain⟨c,ec,_,_⟩:=DataW.trod_int Tryz.underlying3 k2;obtain⟨e,ee,_,_⟩:=DataW.trod_int Tryz.underlying3 k3;obtain⟨po,l,co,e1,r1,r2,_,r4⟩:=aK6 g1;obtain⟨pp,lp,cp,e2,s1,s2,s3⟩:=aP8 g2 fun z hz'=>wt z (by simp[DataW.weightsEach,hz'])
    obtain⟨pt,lt,ct,e3,t1,t2,t3⟩:=aF5 g3
    simp at ea eb ec ee e1 e2 e3
    exact⟨⟨a,b,c,e,l,lp,lt⟩,⟨po,co,pp,cp,pt,ct⟩,by rw[ea,eb,ec,ee,e1,e2,e3],⟨r2,s2,t2,r4,s1,t1,⟨r1,s3,t3⟩⟩,trivial⟩
theorem open_ints {W:World} {base:Nat} {v:Value} {d:DataW H} {ps:List MemPlace} (hval:Value.okWide Tryz.prog W .any base 29 v) (h:DataW.Trod enc Tryz.prog W 0 (fun _=>true) true 29 v d ps) :
  ∃ ao len cap x,v=.slice ao len cap/\len<=maxLen/\Sd.IntsAt W ao len x/\Pln ao len cap:=by
 obtain⟨a0,len,cap,rfl⟩:=okWide_slice Tryz.underlying29 hval;obtain⟨fuel,hf⟩:=h
 rcases open_slice1 Tryz.underlying29 aH9 hf with⟨hcs,_⟩ | ⟨a,len',cap',m,n,V,D,Pl,hcs,_,hl,hm,hmm,hd,hx⟩
 ·simp[Value.cells]at hcs
  obtain⟨rfl,rfl,rfl⟩:=hcs;exact⟨none,0,0,fun _=>0,rfl,zV _,fun i hi=>absurd hi (zI i),.inl ⟨rfl,rfl,rfl⟩⟩
 ·simp[Value.cells]at hcs
  obtain⟨rfl,rfl,rfl⟩:=hcs;simp only[if_true]at hmm;obtain⟨b,off,spot⟩:=a;have hs:0<len->spot=none:=by
   intro h0;obtain⟨h1,_⟩:=hx 0 (by omega)
   simpa[Addr.add]using World.cell?_spot h1
  have each:∀ i,i<len->∃ q:Int,spot=none/\b<W.heap.size/\W.cell? ⟨b,off+i,none⟩=some (.int .i64 q):=by
   intro i hi;obtain⟨h1,h2⟩:=hx i (by omega);obtain⟨q,e,_,_⟩:=DataW.trod_int Tryz.underlying3 h2
   simp at e
   rw[e]at h1;have hs:=hs (by omega);subst hs;rw[zJ]at h1;exact⟨q,rfl,zK W _ h1,h1⟩
  obtain⟨q,hq⟩:=choose_lt each;refine⟨some ⟨b,off,spot⟩,len,cap,q,rfl,by omega,fun i hi=>?_,.inr ⟨b,off,spot,rfl⟩⟩;obtain⟨rfl,r⟩:=hq i hi;exact⟨b,off,rfl,r⟩
end
end Go.Proofs.YtkihgongjedheaaGreatDoor.En
