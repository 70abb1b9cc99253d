import Derived.Test.YtipakfjpfjehmaaGreatDoorJ1
import Derived.Deep.RegionHeld
import Derived.Test.YtipakfjpfjehmaaGreatDoorTie
import Derived.ProofKit
import Derived.LaidMore
import Derived.OpenShut
import Derived.Handed
import Derived.SizedLaws
import Derived.ChangeSame
import Derived.ChangeVars
import Derived.JoinedOf
import Derived.RowKitTokens
import Derived.LaidLaws
import Derived.LaidHandle
import Derived.MakeChecks
import Derived.Lib.LaidTab
import Derived.Stop.LaidErr
import Derived.Stop.Joined
import Derived.SevenTiedAt
import Derived.ChangeMaps5
import Derived.HandedShaped
import Derived.Deep.Slices
import Derived.Carry
import Derived.Laws.Tables
import Derived.Laws.Rows
import Derived.Deep.WholeRow
import Derived.Recover
import Derived.Defers
import Derived.Laws.StructEq
import Derived.Deep.QuietTactic
import Derived.BigQuiet
import Derived.Laws.CopyRow
import Derived.Deep.RegionWith
set_option maxRecDepth 100000
set_option maxHeartbeats 8000000
namespace Go.Proofs.YtipakfjpfjehmaaGreatDoor
open Go.ChangeShapes Go.WideShapes Go.ChangeAt Go.RowKit Num
attribute [local go_sem] a00
theorem b53:(Tryz.prog.info? 124).map (fun i=>(i.zero,i.size,i.bytes))=some (some (.agg #[.int .i64 0,.int .i64 0,.float .f64 0]),3,24):=by kernel_rfl
theorem aA1 (w:World):Calls Tryz.prog 59 #[.slice none 0 0] w fun e w'=>e=.returned (.slice none 0 0)/\w'=w:=by
 have hq:=fun w=>Lib.run_eql_slice_nil (P:=Tryz.prog) w 24 49 none 0 0 0 0 Tryz.underlying24
 go_enter Tryz.func59,Tryz.ntmps59
 go_wp2
 go_ret;exact⟨rfl,rfl⟩
theorem au8 {w:World} {g o c n:Nat} {sp:Option Nat} {xs:List Value} (hn:xs.length=n*1) (hx:∀ j u,xs[j]?=some u->w.cell? ((⟨g,o,sp⟩:Addr).add j)=some u) (h1:∀ u∈xs,u.oneCell'=true) (hz:n<=1024):Calls Tryz.prog 59 #[.slice (some ⟨g,o,sp⟩) n c] w fun e w'=>∃ p' c',e=.returned (.slice p' n c')/\w'.ownsRow w.heap.size 49 1 (.slice p' n c') n xs/\Bl w w':=by
 have hq:=fun w c=>Lib.run_eql_slice_nil (P:=Tryz.prog) w 24 49 (some ⟨g,o,sp⟩) n c 0 0 Tryz.underlying24
 have HX:Hid (∀ j u,xs[j]?=some u->(w.alloc (.cells #[] 49)).cell? ((⟨g,o,sp⟩:Addr).add j)=some u):=fun j u hj=>((below_alloc w _).cell (zK w _ (hx j u hj))).trans (hx j u hj)
 have H1:=zH (And.intro h1 (And.intro hn hz));have HO:Hid ((w.alloc (.cells #[] 49)).ownsRow w.heap.size 49 1 (.slice (some ⟨w.heap.size,0,none⟩) 0 0) 0 []):=⟨rfl,.inr ⟨w.heap.size,0,#[],rfl,zE _,zN _ _,zE _,zV _,by simp,by simp⟩⟩;obtain⟨i0,hi,hz0,hz1,hz2⟩:=info_parts aH2;have HZI:=zH (And.intro hi (And.intro hz0 (And.intro hz1 hz2)));clear hi hz0 hz1 hz2 hx h1 hz hn;go_enter Tryz.func59,Tryz.ntmps59
 go_wp2_with (at_builtin;refine wpList_append_own_at _ rfl _ _ 24 rfl w.heap.size 49 i0 (.float .f64 0) 1 8 Tryz.underlying24 HZI.out.1 HZI.out.2.1 HZI.out.2.2.1 HZI.out.2.2.2 rfl (by decide) _ 0 [] rfl HO.out ⟨g,o,sp⟩ n _ xs rfl H1.out.2.1 HX.out H1.out.1 (by have:=H1.out.2.2;unfold maxLen;omega) (by have:=H1.out.2.2;omega) (by simp) ?_;intro v w3 hown hgrow hnil hloc;have HS:=zH (And.intro hown hgrow);clear hown hgrow hnil hloc)
 have ho3:=HS.out.1;rw[List.nil_append,Nat.zero_add]at ho3;obtain⟨p',c',hv,ha⟩:=ad3 ho3;subst hv;have hb3:Bl w w3:=(below_alloc w _).grown HS.out.2 (by simp) (fun j hj=>by
  have:=hj
  simp[Act.eval,Value.ownBlock]at this
  omega)
 have HF:=zH (And.intro ho3 hb3);clear ho3 ha hb3 HS H1
 go_wp2
 go_ret;exact⟨_,_,rfl,HF.out.1,HF.out.2⟩
theorem aU6 (w:World):Calls Tryz.prog 79 #[.slice none 0 0] w fun e w'=>e=.returned (.slice none 0 0)/\w'=w:=by
 have hq:=fun w=>Lib.run_eql_slice_nil (P:=Tryz.prog) w 44 51 none 0 0 0 0 Tryz.underlying44
 go_enter Tryz.func79,Tryz.ntmps79
 go_wp2
 go_ret;exact⟨rfl,rfl⟩
theorem aL7 {w:World} {g o c n:Nat} {xs:List Value} (hn:xs.length=n*2) (hx:∀ j u,xs[j]?=some u->w.cell? ((⟨g,o,none⟩:Addr).add j)=some u) (h1:∀ u∈xs,u.oneCell'=true) (hz:n<=1024):Calls Tryz.prog 79 #[.slice (some ⟨g,o,none⟩) n c] w fun e w'=>∃ p' c',e=.returned (.slice p' n c')/\w'.ownsRow w.heap.size 51 2 (.slice p' n c') n xs/\Bl w w':=by
 have hq:=fun w c=>Lib.run_eql_slice_nil (P:=Tryz.prog) w 44 51 (some ⟨g,o,none⟩) n c 0 0 Tryz.underlying44
 have HX:Hid (∀ j u,xs[j]?=some u->(w.alloc (.cells #[] 51)).cell? ((⟨g,o,none⟩:Addr).add j)=some u):=fun j u hj=>((below_alloc w _).cell (zK w _ (hx j u hj))).trans (hx j u hj)
 have H1:=zH (And.intro h1 (And.intro hn hz));have HO:Hid ((w.alloc (.cells #[] 51)).ownsRow w.heap.size 51 2 (.slice (some ⟨w.heap.size,0,none⟩) 0 0) 0 []):=⟨rfl,.inr ⟨w.heap.size,0,#[],rfl,zE _,zN _ _,zE _,zV _,by simp,by simp⟩⟩;obtain⟨i0,hi,hz0,hz1,hz2⟩:=info_parts ba9;have HZI:=zH (And.intro hi (And.intro hz0 (And.intro hz1 hz2)));clear hi hz0 hz1 hz2 hx h1 hz hn;go_enter Tryz.func79,Tryz.ntmps79
 go_wp2_with (at_builtin;refine wpList_append_own_at _ rfl _ _ 44 rfl w.heap.size 51 i0 _ 2 16 Tryz.underlying44 HZI.out.1 HZI.out.2.1 HZI.out.2.2.1 HZI.out.2.2.2 rfl (by decide) _ 0 [] rfl HO.out ⟨g,o,none⟩ n _ xs rfl H1.out.2.1 HX.out H1.out.1 (by have:=H1.out.2.2;unfold maxLen;omega) (by have:=H1.out.2.2;omega) (by simp) ?_;intro v w3 hown hgrow hnil hloc;have HS:=zH (And.intro hown hgrow);clear hown hgrow hnil hloc)
 have ho3:=HS.out.1;rw[List.nil_append,Nat.zero_add]at ho3;obtain⟨p',c',hv,ha⟩:=ad3 ho3;subst hv;have hb3:Bl w w3:=(below_alloc w _).grown HS.out.2 (by simp) (fun j hj=>by
  have:=hj
  simp[Act.eval,Value.ownBlock]at this
  omega)
 have HF:=zH (And.intro ho3 hb3);clear ho3 ha hb3 HS H1
 go_wp2
 go_ret;exact⟨_,_,rfl,HF.out.1,HF.out.2⟩
theorem aU5 (w:World):Calls Tryz.prog 58 #[.slice none 0 0] w fun e w'=>e=.returned (.slice none 0 0)/\w'=w:=by
 have hq:=fun w=>Lib.run_eql_slice_nil (P:=Tryz.prog) w 119 124 none 0 0 0 0 Tryz.underlying119
 go_enter Tryz.func58,Tryz.ntmps58
 go_wp2
 go_ret;exact⟨rfl,rfl⟩
theorem aL6 {w:World} {g o c n:Nat} {xs:List Value} (hn:xs.length=n*3) (hx:∀ j u,xs[j]?=some u->w.cell? ((⟨g,o,none⟩:Addr).add j)=some u) (h1:∀ u∈xs,u.oneCell'=true) (hz:n<=1024):Calls Tryz.prog 58 #[.slice (some ⟨g,o,none⟩) n c] w fun e w'=>∃ p' c',e=.returned (.slice p' n c')/\w'.ownsRow w.heap.size 124 3 (.slice p' n c') n xs/\Bl w w':=by
 have hq:=fun w c=>Lib.run_eql_slice_nil (P:=Tryz.prog) w 119 124 (some ⟨g,o,none⟩) n c 0 0 Tryz.underlying119
 have HX:Hid (∀ j u,xs[j]?=some u->(w.alloc (.cells #[] 124)).cell? ((⟨g,o,none⟩:Addr).add j)=some u):=fun j u hj=>((below_alloc w _).cell (zK w _ (hx j u hj))).trans (hx j u hj)
 have H1:=zH (And.intro h1 (And.intro hn hz));have HO:Hid ((w.alloc (.cells #[] 124)).ownsRow w.heap.size 124 3 (.slice (some ⟨w.heap.size,0,none⟩) 0 0) 0 []):=⟨rfl,.inr ⟨w.heap.size,0,#[],rfl,zE _,zN _ _,zE _,zV _,by simp,by simp⟩⟩;obtain⟨i0,hi,hz0,hz1,hz2⟩:=info_parts b53;have HZI:=zH (And.intro hi (And.intro hz0 (And.intro hz1 hz2)));clear hi hz0 hz1 hz2 hx h1 hz hn;go_enter Tryz.func58,Tryz.ntmps58
 go_wp2_with (at_builtin;refine wpList_append_own_at _ rfl _ _ 119 rfl w.heap.size 124 i0 _ 3 24 Tryz.underlying119 HZI.out.1 HZI.out.2.1 HZI.out.2.2.1 HZI.out.2.2.2 rfl (by decide) _ 0 [] rfl HO.out ⟨g,o,none⟩ n _ xs rfl H1.out.2.1 HX.out H1.out.1 (by have:=H1.out.2.2;unfold maxLen;omega) (by have:=H1.out.2.2;omega) (by simp) ?_;intro v w3 hown hgrow hnil hloc;have HS:=zH (And.intro hown hgrow);clear hown hgrow hnil hloc)
 have ho3:=HS.out.1;rw[List.nil_append,Nat.zero_add]at ho3;obtain⟨p',c',hv,ha⟩:=ad3 ho3;subst hv;have hb3:Bl w w3:=(below_alloc w _).grown HS.out.2 (by simp) (fun j hj=>by
  have:=hj
  simp[Act.eval,Value.ownBlock]at this
  omega)
 have HF:=zH (And.intro ho3 hb3);clear ho3 ha hb3 HS H1
 go_wp2
 go_ret;exact⟨_,_,rfl,HF.out.1,HF.out.2⟩
theorem b38 (l:List Nat):∀ u∈fls l,u.oneCell'=true:=fun u hu=>by
 unfold fls at hu;obtain⟨x,_,rfl⟩:=List.mem_map.1 hu
 rfl
theorem bA3 (l:Wr):∀ u∈l.flatMap tchC,u.oneCell'=true:=fun u hu=>by
 obtain⟨x,_,hx⟩:=List.mem_flatMap.1 hu
 simp[tchC]at hx
 rcases hx with rfl | rfl <;> rfl
theorem am7 {w:World} {p:Option Addr} {c n:Nat} {l:List Nat} (h:RowAt 49 w p c (fls l)) (hn:l.length=n) (hz:n<=1024):Calls Tryz.prog 59 #[.slice p n c] w fun e w'=>∃ p' c',e=.returned (.slice p' n c')/\RowAt 49 w' p' c' (fls l)/\Abv w.heap.size (fpR p')/\Bl w w':=by
 have ho:=h.own;rw[a32,hn]at ho
 rcases ho.2 with⟨hv,h0⟩ | ⟨g,cap,cur,hv,_⟩
 ·cases hv
  have e:l=[]:=List.eq_nil_of_length_eq_zero hn;subst e;exact(aA1 w).mono fun e w' ⟨a1,a2⟩=>⟨none,0,a1,a2 ▸ h,fun k hk=>by simp[fpR]at hk,a2 ▸ zF _ _⟩
 ·cases hv
  refine(au8 (by rw[a32,hn,Nat.mul_one]) (fun j u hj=>World.ownsRow.cells ho (g:=g) rfl j u hj) (b38 l) hz).mono fun e w' ⟨p',c',a1,a2,a3⟩=>⟨p',c',a1,⟨?_⟩,fun k hk=>(a2.lt k (a42.1 hk)).1,a3⟩
  rw[a32,hn];exact aJ1 a2
theorem aq1 {w:World} {p:Option Addr} {c n:Nat} {l:Wr} (h:TRow w p c l) (hn:l.length=n) (hz:n<=1024):Calls Tryz.prog 79 #[.slice p n c] w fun e w'=>∃ p' c',e=.returned (.slice p' n c')/\TRow w' p' c' l/\Abv w.heap.size (fpR p')/\Bl w w':=by
 have ho:=h.own;rw[hn]at ho
 rcases ho.2 with⟨hv,h0⟩ | ⟨g,cap,cur,hv,_⟩
 ·cases hv
  have e:l=[]:=List.eq_nil_of_length_eq_zero hn;subst e;exact(aU6 w).mono fun e w' ⟨a1,a2⟩=>⟨none,0,a1,a2 ▸ h,fun k hk=>by simp[fpR]at hk,a2 ▸ zF _ _⟩
 ·cases hv
  refine(aL7 (by rw[bb0,hn]) (fun j u hj=>World.ownsRow.cells ho (g:=g) rfl j u hj) (bA3 l) hz).mono fun e w' ⟨p',c',a1,a2,a3⟩=>⟨p',c',a1,⟨?_⟩,fun k hk=>(a2.lt k (a42.1 hk)).1,a3⟩
  rw[hn];exact aJ1 a2
section
variable {W w:World} {b:Nat} {F0 K:List Nat} {m:Mac}
theorem b69 (h:Gm W F0 b K w m) (hz:m.out.length<=1024):Calls Tryz.prog 99 #[.pointer (some ⟨b,0,none⟩)] w fun e w'=>∃ p' c',e=.returned (.slice p' m.out.length c')/\RowAt 49 w' p' c' (fls m.out)/\Abv w.heap.size (fpR p')/\Bl w w':=by
 obtain⟨p,hm,ht,hk⟩:=h;have h20:w.cell? ⟨b,24,none⟩=some (.slice p.po m.out.length p.co):=(hm.cell 24).trans rfl;have hb:=hm.ltB;have HP:=zH (am7 hm.out rfl hz);clear hm ht hk hz;go_enter Tryz.func99,Tryz.ntmps99
 go_wp2_with (go_at_call 59;refine HP.out.mono ?_;rintro e w1 ⟨p',c',rfl,q1,q2,q3⟩;have HQ:=zH (And.intro q1 (And.intro q2 q3));clear q1 q2 q3 HP)
 go_ret;exact⟨_,_,rfl,HQ.out.1,HQ.out.2.1,HQ.out.2.2⟩
theorem aJ8 (h:Gm W F0 b K w m) (hz:m.reads.length<=1024):Calls Tryz.prog 97 #[.pointer (some ⟨b,0,none⟩)] w fun e w'=>∃ p' c',e=.returned (.slice p' m.reads.length c')/\TRow w' p' c' m.reads/\Abv w.heap.size (fpR p')/\Bl w w':=by
 obtain⟨p,hm,ht,hk⟩:=h;have h20:w.cell? ⟨b,25,none⟩=some (.slice p.pr m.reads.length p.cr):=(hm.cell 25).trans rfl;have hb:=hm.ltB;have HP:=zH (aq1 hm.rds rfl hz);clear hm ht hk hz;go_enter Tryz.func97,Tryz.ntmps97
 go_wp2_with (go_at_call 79;refine HP.out.mono ?_;rintro e w1 ⟨p',c',rfl,q1,q2,q3⟩;have HQ:=zH (And.intro q1 (And.intro q2 q3));clear q1 q2 q3 HP)
 go_ret;exact⟨_,_,rfl,HQ.out.1,HQ.out.2.1,HQ.out.2.2⟩
end
attribute [local go_sem] a00
def argF (l:List Nat):Nat->Nat:=fun k=>fixB (l.getD k 0)
def newM (a f e t:Int) (c:List Ins) (l:List Nat):Mac:=⟨a,f,e,(t == 2),if ab1 t c then c else [],argF l,fun _=>0,[],[],0,0,[],[],[],-1,0,0,0⟩
theorem aP4 (k:Nat):argF [] k=0:=by simp[argF];decide
theorem aG0 (l:List Nat) {k:Nat} (h:k<l.length):updF (argF (l.take k)) k (fixB (l.getD k 0))=argF (l.take (k+1)):=by
 funext j
 unfold updF argF
 by_cases hj:j=k
 ·subst hj
  rw[if_pos rfl]
  simp[List.getD_eq_getElem?_getD]
 ·rw[if_neg hj]
  simp only[zG,List.getElem?_take]
  by_cases h2:j<k
  ·rw[if_pos h2,if_pos (by omega)]
  ·rw[if_neg h2,if_neg (by omega)]
section
variable {W w:World} {b:Nat} {F0 K:List Nat} {m:Mac}
theorem bg9 {w0 w1:World} {bn bc bw:Nat} {Fw:List Nat} (a f e:Int) (u:Bool) (hn:NStk w1 bn [bn] []) (hc:CStk w1 bc [bc] []) (hw:Buf w1 bw Fw e []) (h1:bn≠bc) (h2:bn∉Fw) (h3:bc∉Fw) (hB:Bl w0 w1) (a1:w0.heap.size<=bn) (a2:w0.heap.size<=bc) (a3:Abv w0.heap.size Fw) :
  Gm w0 [] w1.heap.size [] (w1.alloc (.cells (boxV ⟨a,f,e,u,[],fun _=>0,fun _=>0,[],[],0,0,[],[],[],-1,0,0,0⟩ ⟨none,0,bn,bc,bw,[bn],[bc],Fw,none,0,none,0,0⟩) 184)) ⟨a,f,e,u,[],fun _=>0,fun _=>0,[],[],0,0,[],[],[],-1,0,0,0⟩:=by
 have hbl:=below_alloc w1 (.cells (boxV ⟨a,f,e,u,[],fun _=>0,fun _=>0,[],[],0,0,[],[],[],-1,0,0,0⟩ ⟨none,0,bn,bc,bw,[bn],[bc],Fw,none,0,none,0,0⟩) 184);have l1:bn<w1.heap.size:=hn.blw bn (by simp);have l2:bc<w1.heap.size:=hc.blw bc (by simp);have l3:=hw.blw;refine⟨⟨none,0,bn,bc,bw,[bn],[bc],Fw,none,0,none,0,0⟩,⟨zN _ _,hn.on hbl,hc.on hbl,hw.on hbl,⟨World.ownsRow_nil _ _ _ _⟩,⟨World.ownsRow_nil _ _ _ _⟩,fun k hk=>absurd hk (zI k),fun k hk=>by simp[fpR]at hk,fun h=>absurd h (show ¬ (0:Int)<=-1 by decide),?_⟩,?_,rfl⟩
 ·have d01:Sep [w1.heap.size] [bn]:=fun k hk q=>by simp at hk q;omega
  have d02:Sep [w1.heap.size] [bc]:=fun k hk q=>by simp at hk q;omega
  have d03:Sep [w1.heap.size] Fw:=fun k hk q=>by simp at hk;subst hk;exact absurd (l3 _ q) (Nat.lt_irrefl _)
  have d12:Sep [bn] [bc]:=fun k hk q=>by simp at hk q;omega
  have d13:Sep [bn] Fw:=fun k hk q=>by simp at hk;subst hk;exact h2 q
  have d23:Sep [bc] Fw:=fun k hk q=>by simp at hk;subst hk;exact h3 q
  have e0:∀ F:List Nat,Sep F []:=fun F k _ q=>by simp at q
  intro i j hij
  match i,j with
  | 0,0=>exact absurd rfl hij
  | 0,1=>exact d01
  | 0,2=>exact d02
  | 0,3=>exact d03
  | 1,0=>exact d01.symm
  | 1,1=>exact absurd rfl hij
  | 1,2=>exact d12
  | 1,3=>exact d13
  | 2,0=>exact d02.symm
  | 2,1=>exact d12.symm
  | 2,2=>exact absurd rfl hij
  | 2,3=>exact d23
  | 3,0=>exact d03.symm
  | 3,1=>exact d13.symm
  | 3,2=>exact d23.symm
  | 3,3=>exact absurd rfl hij
  | _,4=>exact e0 _
  | _,5=>exact e0 _
  | _,6=>exact e0 _
  | 4,_=>exact(e0 _).symm
  | 5,_=>exact(e0 _).symm
  | 6,_=>exact(e0 _).symm
  | _,q+7=>simp only[Pt.L,zG];exact fun k _ z=>by simp at z
  | q+7,_=>exact fun k z=>by simp[Pt.L]at z
 ·have hb2:=hB.trans (hbl.mono hB.size)
  refine⟨hb2.os,hb2.tape,hb2.output,hb2.size,fun k hk _=>hb2.block k hk,fun k hk=>.inr ?_⟩;simp only[Pt.F,Pt.own,List.flatten_cons,List.flatten_nil,List.mem_append,List.append_nil,List.mem_singleton,fpR,Option.map_none,Option.toList_none]at hk
  rcases hk with rfl | rfl | rfl | hk
  ·exact hB.size
  ·exact a1
  ·exact a2
  ·exact a3 k hk
theorem MacAt.code {p:Pt} (h1:MacAt w b m p) {pk:Option Addr} {ck:Nat} {c:List Ins} (hc:a39 w pk c) (hl:Blw w (fpR pk)) (hsp:Sep (fpR pk) (p.F b)):MacAt (w.setCell ⟨b,3,none⟩ (.slice pk c.length ck)) b { m with code:=c } { p with pk:=pk,ck:=ck }/\Turn (p.F b) ({ p with pk:=pk,ck:=ck }.F b) w (w.setCell ⟨b,3,none⟩ (.slice pk c.length ck)):=by
 have t:=a26 w b 3 (.slice pk c.length ck);have kk:=h1.others (i:=0) t;have kc:Kept (fpR pk) w (w.setCell ⟨b,3,none⟩ (.slice pk c.length ck)):=t.kept (fun k hk q=>hsp k hk (aS0 (j:=0) (by omega) q)) hl;refine⟨⟨?_,h1.num.keep (kk 1 (by omega)),h1.cal.keep (kk 2 (by omega)),h1.wri.keep (kk 3 (by omega)),h1.out.keep (kk 4 (by omega)),h1.rds.keep (kk 5 (by omega)),hc.keep kc,fun x hx=>zL (hl x hx) t.size,h1.wt,?_⟩,Turn.part (L:=p.own b) (i:=0) t⟩
 ·exact(zS w b 3 _ _ _ h1.box).trans rfl
 ·intro i j hij
  by_cases hi:i=6
  ·subst hi
   by_cases hj:j<6
   ·have:({ p with pk:=pk,ck:=ck }.L b).getD j []=(p.L b).getD j []:=by
     match j,hj with
     | 0,_=>rfl
     | 1,_=>rfl
     | 2,_=>rfl
     | 3,_=>rfl
     | 4,_=>rfl
     | 5,_=>rfl
    rw[this];exact fun k hk q=>hsp k hk (aS0 hj q)
   ·match j,hj,hij with
    | 6,_,hij=>exact absurd rfl hij
    | q+7,_,_=>exact fun k _ z=>by simp[Pt.L]at z
  ·by_cases hj:j=6
   ·subst hj
    by_cases hi6:i<6
    ·have:({ p with pk:=pk,ck:=ck }.L b).getD i []=(p.L b).getD i []:=by
      match i,hi6 with
      | 0,_=>rfl
      | 1,_=>rfl
      | 2,_=>rfl
      | 3,_=>rfl
      | 4,_=>rfl
      | 5,_=>rfl
     rw[this];exact fun k hk q=>hsp k q (aS0 hi6 hk)
    ·match i,hi6,hi with
     | 6,_,hi=>exact absurd rfl hi
     | q+7,_,_=>exact fun k z=>by simp[Pt.L]at z
   ·have e:∀ q,q≠6->({ p with pk:=pk,ck:=ck }.L b).getD q []=(p.L b).getD q []:=fun q hq=>by
     match q,hq with
     | 0,_=>rfl
     | 1,_=>rfl
     | 2,_=>rfl
     | 3,_=>rfl
     | 4,_=>rfl
     | 5,_=>rfl
     | 6,hq=>exact absurd rfl hq
     | q+7,_=>simp[Pt.L]
    rw[e i hi,e j hj];exact h1.apart i j hij
theorem aZ7 (h:Gm W F0 b K w m) {k:Nat} (hk:k<8) (y:Nat):Gm W F0 b K (w.setCell ⟨b,4+k,none⟩ (.float .f64 y)) { m with args:=updF m.args k y }:=by
 refine h.set (4+k) _ _ (fun p hp=>⟨p.wt,?_,hp⟩) ⟨rfl,rfl,rfl,rfl,rfl,rfl,rfl⟩
 match k,hk with
 | 0,_=>rfl
 | 1,_=>rfl
 | 2,_=>rfl
 | 3,_=>rfl
 | 4,_=>rfl
 | 5,_=>rfl
 | 6,_=>rfl
 | 7,_=>rfl
end
attribute [local go_sem] a00
def FlAt (w:World) (po:Option Addr) (l:List Nat):Prop:=∀ k,k<l.length->∃ g o,po=some ⟨g,o,none⟩/\g<w.heap.size/\w.cell? ⟨g,o+k,none⟩=some (.float .f64 (l.getD k 0))
theorem FlAt.on {w w':World} {po:Option Addr} {l:List Nat} (h:FlAt w po l) (hb:Bl w w'):FlAt w' po l:=fun k hk=>by
 obtain⟨g,o,e,hlt,c⟩:=h k hk;exact⟨g,o,e,zL hlt hb.size,(hb.cell (p:=⟨g,o+k,none⟩) hlt).trans c⟩
abbrev cfgO (a b c e:Int):Obj:=.cells #[.int .i64 a,.int .i64 b,.int .i64 c,.int .i64 e] 23
abbrev prgO (t:Int) (ao:Option Addr) (n cap:Nat):Obj:=.cells #[.int .i64 t,.slice ao n cap] 121
abbrev cfgV (a b c e:Int):Value:=.agg #[.int .i64 a,.int .i64 b,.int .i64 c,.int .i64 e]
abbrev newW (w:World) (a b c e t:Int) (ao:Option Addr) (n cap:Nat):World:=(w.alloc (cfgO a b c e)).alloc (prgO t ao n cap)
theorem aW4 (w:World) (a b c e t:Int) (ao:Option Addr) (n cap:Nat):Bl w (newW w a b c e t ao n cap):=(below_alloc w _).trans ((below_alloc _ _).mono (by simp))
theorem a46 {w u:World} {a b c e t:Int} {ao:Option Addr} {n cap:Nat} (h:Below (newW w a b c e t ao n cap).heap.size (newW w a b c e t ao n cap) u) :
  (u.cell? ⟨w.heap.size,0,none⟩=some (.int .i64 a)/\u.cell? ⟨w.heap.size,2,none⟩=some (.int .i64 c)/\u.cell? ⟨w.heap.size,3,none⟩=some (.int .i64 e)/\w.heap.size<u.heap.size)/\(u.cell? ⟨w.heap.size+1,0,none⟩=some (.int .i64 t)/\u.cell? ⟨w.heap.size+1,1,none⟩=some (.slice ao n cap)/\w.heap.size+1<u.heap.size)/\Bl w u:=by
 have b1:u.heap[w.heap.size]?=some (cfgO a b c e):=(h.block _ (by simp;omega)).trans ((heap_alloc_old _ _ (by simp)).trans (zN w _));have b2:u.heap[w.heap.size+1]?=some (prgO t ao n cap):=(h.block _ (by simp)).trans (aa4 (by simp));refine⟨⟨?_,?_,?_,lt_of_block b1⟩,⟨?_,?_,lt_of_block b2⟩,(aW4 w a b c e t ao n cap).trans (h.mono (by simp;omega))⟩
 ·rw[zR u _ 0 _ _ _ b1];rfl
 ·rw[zR u _ 2 _ _ _ b1];rfl
 ·rw[zR u _ 3 _ _ _ b1];rfl
 ·rw[zR u _ 0 _ _ _ b2];rfl
 ·rw[zR u _ 1 _ _ _ b2];rfl
attribute [local go_sem] a00
theorem aQ1 {w:World} {p:Option Addr} {c B:Nat} {l:List Ins} (h:w.ownsRow B 124 3 (.slice p l.length c) l.length (l.flatMap fun i=>[.int .i64 i.op,.int .i64 i.n,.float .f64 i.x])):a39 w p l/\Blw w (fpR p)/\Abv B (fpR p):=by
 refine⟨fun k hk=>?_,fun k hk=>(h.lt k (a42.1 hk)).2,fun k hk=>(h.lt k (a42.1 hk)).1⟩
 rcases h.2 with⟨_,q⟩ | ⟨g,cap',cur,hv,hB,hg,_,_,_,ht⟩
 ·omega
 ·cases hv
  have fl:∀ (l:List Ins) k (h:k<l.length),(l.flatMap fun i=>[Value.int .i64 i.op,.int .i64 i.n,.float .f64 i.x])[k*3]?=some (.int .i64 (ci l k).op)/\(l.flatMap fun i=>[Value.int .i64 i.op,.int .i64 i.n,.float .f64 i.x])[k*3+1]?=some (.int .i64 (ci l k).n)/\(l.flatMap fun i=>[Value.int .i64 i.op,.int .i64 i.n,.float .f64 i.x])[k*3+2]?=some (.float .f64 (ci l k).x):=by
   intro l
   induction l with
   | nil=>intro k h;exact absurd h (zI k)
   | cons i l ih =>
    intro k h
    cases k with
    | zero=>simp[ci]
    | succ k =>
     have:=ih k (by simpa using h);rw[List.flatMap_cons];have e:(k+1)*3=[Value.int .i64 i.op,.int .i64 i.n,.float .f64 i.x].length+k*3:=by simp;omega
     rw[e,List.getElem?_append_right (by omega),Nat.add_assoc,List.getElem?_append_right (by omega),Nat.add_assoc,List.getElem?_append_right (by omega)]
     simpa[ci]using this
  have e:∀ j,j<l.length*3->cur[j]?=(l.flatMap fun i=>[Value.int .i64 i.op,.int .i64 i.n,.float .f64 i.x])[j]?:=fun j hj=>by
   have h1:cur.toList[j]?=(cur.toList.take (l.length*3))[j]?:=by rw[List.getElem?_take,if_pos (by omega)]
   rw[ht]at h1
   simpa using h1
  obtain⟨f0,f1,f2⟩:=fl l k hk;refine⟨g,0,rfl,lt_of_block hg,?_,?_,?_⟩
  ·rw[zR w g _ _ _ _ hg,Nat.zero_add,e _ (by omega)];exact f0
  ·rw[zR w g _ _ _ _ hg,Nat.zero_add,e _ (by omega)];exact f1
  ·rw[zR w g _ _ _ _ hg,Nat.zero_add,e _ (by omega)];exact f2
theorem aD5 (l:List Ins):(l.flatMap fun i=>[Value.int .i64 i.op,.int .i64 i.n,.float .f64 i.x]).length=l.length*3:=by
 induction l with
 | nil=>rfl
 | cons i l ih=>rw[List.flatMap_cons,List.length_append,ih];simp;omega
theorem aI0 (l:List Ins):∀ j,j<l.length*3->(l.flatMap fun i=>[Value.int .i64 i.op,.int .i64 i.n,.float .f64 i.x])[j]?=some (if j % 3=0 then .int .i64 (ci l (j / 3)).op else if j % 3=1 then .int .i64 (ci l (j / 3)).n else .float .f64 (ci l (j / 3)).x):=by
 induction l with
 | nil=>intro j h;simp at h
 | cons i l ih =>
  intro j h;rw[List.flatMap_cons]
  by_cases hj:j<3
  ·rw[List.getElem?_append_left (by simpa using hj)]
   match j,hj with
   | 0,_=>rfl
   | 1,_=>rfl
   | 2,_=>rfl
  ·rw[List.getElem?_append_right (by simp;omega)]
   have:=ih (j - 3) (by simp at h;omega);have e1:(j - 3) % 3=j % 3:=by omega
   have e2:j / 3=(j - 3) / 3+1:=by omega
   rw[e1]at this;rw[e2]
   simpa[ci]using this
theorem aU8 {w:World} {ao:Option Addr} {cap n:Nat} {c:List Ins} (h:a39 w ao c) (hn:c.length=n) (h1:1<=n) (hz:n<=1024):Calls Tryz.prog 58 #[.slice ao n cap] w fun e w'=>∃ p' c',e=.returned (.slice p' n c')/\a39 w' p' c/\Blw w' (fpR p')/\Abv w.heap.size (fpR p')/\Bl w w':=by
 obtain⟨g,o,e,_,_,_,_⟩:=h 0 (by omega);subst e;refine(aL6 (xs:=c.flatMap fun i=>[Value.int .i64 i.op,.int .i64 i.n,.float .f64 i.x]) (by rw[aD5,hn]) (fun j u hj=>?_) (fun u hu=>?_) hz).mono fun e w' ⟨p',c',a1,a2,a3⟩=>?_
 ·have hjl:j<c.length*3:=by
   have:=(List.getElem?_eq_some_iff.1 hj).1;rwa[aD5]at this
  rw[aI0 c j hjl]at hj;obtain⟨g',o',e',_,c0,c1,c2⟩:=h (j / 3) (by omega)
  cases e'
  rw[show (⟨g,o,none⟩:Addr).add j=⟨g,o+j,none⟩ by unfold Addr.add;split <;> simp_all,<- hj]
  by_cases h0:j % 3=0
  ·rw[if_pos h0,show o+j=o+j / 3*3 by omega]
   exact c0
  ·rw[if_neg h0]
   by_cases h1:j % 3=1
   ·rw[if_pos h1,show o+j=o+j / 3*3+1 by omega]
    exact c1
   ·rw[if_neg h1,show o+j=o+j / 3*3+2 by omega]
    exact c2
 ·obtain⟨i,_,hx⟩:=List.mem_flatMap.1 hu
  simp at hx
  rcases hx with rfl | rfl | rfl <;> rfl
 ·rw[<- hn]at a2
  obtain⟨b1,b2,b3⟩:=aQ1 a2;exact⟨p',c',a1,b1,b2,b3,a3⟩
section
variable {w:World}
theorem Gm.code' {W:World} {F0 K:List Nat} {b:Nat} {u u':World} {m:Mac} (h:Gm W F0 b K u m) (hb:Bl u u') {pk:Option Addr} {ck:Nat} {c:List Ins} (hc:a39 u' pk c) (hl:Blw u' (fpR pk)) (hA:Abv u.heap.size (fpR pk)):Gm W F0 b (fpR pk) (u'.setCell ⟨b,3,none⟩ (.slice pk c.length ck)) { m with code:=c }:=by
 obtain⟨p,h1,h2,_⟩:=h;obtain⟨a1,a2⟩:=(h1.on hb).code (ck:=ck) hc hl (fun k hk q=>absurd (hA k hk) (Nat.not_le.2 (h1.blw k q)));exact⟨_,a1,(h2.trans (Below.turn hb _)).trans a2,rfl⟩
structure Parts (w N v:World) (bn bc bw:Nat) (Fw:List Nat) (e:Int):Prop where
 n:NStk v bn [bn] []
 c:CStk v bc [bc] []
 bf:Buf v bw Fw e []
 nc:bn≠bc
 nw:bn∉Fw
 cw:bc∉Fw
 an:w.heap.size<=bn
 ac:w.heap.size<=bc
 aw:Abv w.heap.size Fw
 bl:Bl N v
theorem aS2 {N u u' v v':World} {bn bc bw:Nat} {Fw:List Nat} {e:Int} (hN:w.heap.size<=N.heap.size) (hb:Bl N u) (hw:Buf u bw Fw e []) (ha:Abv w.heap.size Fw) (k1:Same u u') (e1:bn=u'.heap.size) (s1:Stk 195 49 v bn [bn] [] (ag9 64)) (d1:Bl u' v) (k2:Same v v') {x:World} (e2:bc=v'.heap.size) (s2:Stk 197 3 x bc [bc] [] (ag9 16)) (d2:Bl v' x):Parts w N x bn bc bw Fw e:=by
 have z1:u'.heap.size=u.heap.size:=by rw[k1.heap]
 have z2:v'.heap.size=v.heap.size:=by rw[k2.heap]
 have g1:Bl u v:=(k1.below _).trans (d1.mono (by omega));have g2:Bl v x:=(k2.below _).trans (d2.mono (by omega));have l1:bn<v.heap.size:=s1.blw bn (by simp);have hsz:=hb.size;exact⟨Stk.on s1 g2,s2,(hw.on g1).on g2,by omega,fun q=>absurd (hw.blw _ q) (by omega),fun q=>absurd (hw.blw _ q) (by have:=g1.size;omega),by omega,by have:=g1.size;omega,ha,(hb.trans (g1.mono hsz)).trans (g2.mono (zQ hsz g1.size))⟩
theorem Parts.mac {N v:World} {bn bc bw:Nat} {Fw:List Nat} {e:Int} (h:Parts w N v bn bc bw Fw e) (hB:Bl w v) (a f:Int) (u:Bool):Gm w [] v.heap.size [] (v.alloc (.cells (boxV ⟨a,f,e,u,[],fun _=>0,fun _=>0,[],[],0,0,[],[],[],-1,0,0,0⟩ ⟨none,0,bn,bc,bw,[bn],[bc],Fw,none,0,none,0,0⟩) 184)) ⟨a,f,e,u,[],fun _=>0,fun _=>0,[],[],0,0,[],[],[],-1,0,0,0⟩ :=
 bg9 a f e u h.n h.c h.bf h.nc h.nw h.cw hB h.an h.ac h.aw
theorem Gm.cod3 {W:World} {F0 K:List Nat} {b:Nat} {u:World} {m:Mac} (h:Gm W F0 b K u m):∃ v,u.cell? ⟨b,3,none⟩=some v:=by
 obtain⟨p,hm,_,_⟩:=h;exact⟨_,(hm.cell 3).trans rfl⟩
theorem Gm.arg4 {W:World} {F0 K:List Nat} {b:Nat} {u:World} {m:Mac} (h:Gm W F0 b K u m) {j:Nat} (hj:j<8):u.cell? ⟨b,4+j,none⟩=some (.float .f64 (m.args j))/\u.frozen? ⟨b,4+j,none⟩=false/\b<u.heap.size:=⟨aZ8 h hj,h.free _,h.ltB⟩
theorem Gm.fresh {K:List Nat} {b:Nat} {u:World} {m:Mac} (h:Gm w [] b K u m):Bl w u:=by
 obtain⟨p,_,h2,_⟩:=h;exact h2.below (fun k hk=>by simp at hk) (zE _)
theorem bh7 {a b c e t:Int} {ao:Option Addr} {cs:List Ins} {n cap:Nat} {po:Option Addr} {l:List Nat} {k co:Nat} (hc:Md.cfgB a b c e=true) (hn:cs.length=n) (hk:l.length=k) (hk8:k<=8) (hT:Shaped5 w) (hC:a39 w ao cs) (hL:FlAt w po l) (hnl:n<=9223372036854775807) (hq:ab1 t cs=true):Calls Tryz.prog 88 #[cfgV a b c e,.agg #[.int .i64 t,.slice ao n cap],.slice po k co] w fun r w'=>∃ bm K,r=.returned (.pointer (some ⟨bm,0,none⟩))/\Gm w [] bm K w' (newM a c e t cs l)/\Abv w.heap.size K:=by
 have HP:=zH (Md.place_any a b c e (newW w a b c e t ao n cap));rw[hc]at HP;have hcf:=Md.cfgB_iff.1 hc;have hk':¬ (8:Int)<(k:Int):=by omega
 have HBF:Hid (∀ u,Calls Tryz.prog 102 #[.int .i64 e] u fun r w'=>∃ b F,r=.returned (.tuple #[.pointer (some ⟨b,0,none⟩),.int .i64 0])/\Buf w' b F e []/\Abv u.heap.size F/\Bl u w'):=fun u=>new_some (by unfold mayM;simp;omega) u
 have HCK:Hid (∀ u,Bl w u->Calls Tryz.prog 105 #[.agg #[.int .i64 t,.slice ao n cap]] u fun r w'=>r=.returned (.int .i64 (au7 t cs))/\Bl u w'):=fun u hb=>by
  have:=aG7 t cap (hT.on hb) (hC.on hb) (by omega);rw[hn]at this;exact this
 rw[aA0 hq]at HCK;have HL:=zH (And.intro hL (And.intro hk hk8));have HNW:Hid (w.heap.size<=(newW w a b c e t ao n cap).heap.size):=by show _<=_;simp;omega
 have hcp:=af9.1 hq;have HC:Hid ((∀ u,Bl w u->a39 u ao cs)/\cs.length=n/\1<=n/\n<=1024):=⟨fun u hb=>hC.on hb,hn,by omega,by omega⟩;clear hcp;clear hc hT hC hL hnl hcf;go_enter Tryz.func88,Tryz.ntmps88
 go_wp2_with (first
  | (go_at_call 102;refine(HBF.out _).mono ?_;rintro r u1 ⟨bw,Fw,rfl,q1,q2,q3⟩;have B1:=B0.out.alloc B0.out.size (.cells #[.int .i64 0,.int .i64 1,.int .i64 2,.int .i64 3,.int .i64 (3+b),.int .i64 (3+b+3*a)] 64);have B2:=zH (B1.trans (q3.mono B1.size));obtain⟨⟨x0,x1,x2,x3⟩,⟨y0,y1,y2⟩,z0⟩:=a46 B2.out;have HW1:=zH (And.intro q1 (Abv.mono q2 (B':=w.heap.size) (zQ HNW.out B1.size)));clear q1 q2 q3 B1 z0)
  | (go_at_call 27;refine HP.out.mono ?_;rw[if_pos rfl];rintro r u0 ⟨rfl,q⟩;obtain⟨⟨x0,x1,x2,x3⟩,⟨y0,y1,y2⟩,z0⟩:=a46 q;have B0:=zH q;clear q HP z0))
 go_region_held (fun w'=>w'.cell? ⟨w.heap.size,0,none⟩=some (.int .i64 a)/\w'.cell? ⟨w.heap.size,2,none⟩=some (.int .i64 c)/\w'.cell? ⟨w.heap.size+1,0,none⟩=some (.int .i64 t)) (go_keep) (first
  | (go_at_call 103;refine(as9 64 _).mono ?_;rintro r v2 ⟨bn,rfl,e2,s2,d2⟩;have P2:=parts_if (w:=w) HNW.out B2.out HW1.out.1 HW1.out.2 (Same.drew _) I1.out.1 I1.out.2.1 I1.out.2.2 (Same.refl _) e2 s2 d2;obtain⟨⟨x0,x1,x2,x3⟩,⟨y0,y1,y2⟩,z0⟩:=a46 P2.bl;have HZ:=zH z0;have HPT:=zH P2;clear e2 s2 d2 P2 z0)
  | (go_at_call 104;refine(at7 16 _).mono ?_;rintro r v2 ⟨bc,rfl,e2,s2,d2⟩;have P2:=aS2 (w:=w) HNW.out B2.out HW1.out.1 HW1.out.2 (Same.drew _) J1.out.1 J1.out.2.1 J1.out.2.2 (Same.refl _) e2 s2 d2;obtain⟨⟨x0,x1,x2,x3⟩,⟨y0,y1,y2⟩,z0⟩:=a46 P2.bl;have HZ:=zH z0;have HPT:=zH P2;clear e2 s2 d2 P2 z0)
  | (go_at_call 103;refine(as9 64 _).mono ?_;rintro r v1 ⟨bn,rfl,e1,s1,d1⟩;have J1:=zH (And.intro e1 (And.intro s1 d1));obtain⟨⟨x0,x1,x2,x3⟩,⟨y0,y1,y2⟩,z0⟩:=a46 (B2.out.trans (((Same.drew _).below _).trans (d1.mono B2.out.size)));clear e1 s1 d1 z0)
  | (go_at_call 104;refine(at7 16 _).mono ?_;rintro r v1 ⟨bc,rfl,e1,s1,d1⟩;have I1:=zH (And.intro e1 (And.intro s1 d1));obtain⟨⟨x0,x1,x2,x3⟩,⟨y0,y1,y2⟩,z0⟩:=a46 (B2.out.trans (((Same.drew _).below _).trans (d1.mono B2.out.size)));clear e1 s1 d1 z0))
 all_goals go_wp2_with (first
  | (go_at_call 58;refine(aU8 (HC.out.1 _ G1.out.fresh) HC.out.2.1 HC.out.2.2.1 HC.out.2.2.2).mono ?_;rintro r v4 ⟨pk,ck,rfl,q1,q2,q3,q4⟩;have g4:=G1.out.on q4;obtain⟨cv,c3⟩:=g4.cod3;have f3:=g4.free 3;have l3:=g4.ltB;have g5:=G1.out.code' q4 (ck:=ck) q1 q2 q3;rw[HC.out.2.1]at g5;have G2:=zH (And.intro g5 (Abv.mono q3 (B':=w.heap.size) G1.out.fresh.size));clear g4 g5 q1 q2 q3 q4)
  | (go_at_call 105;refine(HCK.out _ (HZ.out.alloc HZ.out.size _)).mono ?_;rintro r v3 ⟨rfl,d3⟩;have g3:=(HPT.out.mac HZ.out a c (t == 2)).on d3;obtain⟨⟨x0,x1,x2,x3⟩,⟨y0,y1,y2⟩,z0⟩:=a46 ((HPT.out.bl.alloc HPT.out.bl.size _).trans (d3.mono (zQ HPT.out.bl.size (by simp))));have G1:=zH g3;clear d3 g3 z0))
 all_goals go_loopw [55] (fun vi wr=>∃ j:Nat,vi=.int .i64 j/\j<=k/\Hid (Gm w [] v2.heap.size (fpR pk) wr { newM a c e t cs []with args:=argF (l.take j) })) (fun vi _=>k - (intOf vi).toNat)
 case atStart =>
  refine⟨0,rfl,zV _,?_⟩;have e1:argF (l.take 0)=fun _=>0:=by funext q;exact aP4 q
  rw[e1];unfold newM;rw[hq];exact G2.out.1
 case round =>
  obtain⟨j,rfl,hj,HG⟩:=hrel
  by_cases hlt:j<k
  ·have hlt':(j:Int)<(k:Int):=by omega
   have hj8:(j:Int)<8:=by omega
   obtain⟨g,o,hpo,hg,hcell⟩:=(HL.out.1.on HG.out.fresh) j (by omega);subst hpo;have HTK:=zH (aG0 l (k:=j) (by omega))
   generalize l.getD j 0=y at hcell HTK
   obtain⟨d0,d1,d2⟩:=HG.out.arg4 (j:=j) (by omega);clear HCK HBF HPT HZ G1 G2
   go_wp2
   refine a34 7 (by kernel_rfl) ?_;simp only[List.take_succ_cons,List.take_zero,List.drop_succ_cons,List.drop_zero]
   repeat (first | still_step | still_call (ae2 y _))
   refine wpStill_nil ?_
   go_wp2
   refine⟨⟨j+1,by first | rfl | (congr 1),by omega,?_⟩,by simp[intOf];omega⟩;have g6:=(aZ7 HG.out (k:=j) (by omega) (fixB y)).same (Same.drew _);rw[<- HTK.out];exact g6
  ·have hlt':¬ (j:Int)<(k:Int):=by omega
   have e:j=k:=by omega
   subst e;have HF:Hid (Gm w [] v2.heap.size (fpR pk) wr (newM a c e t cs l)):=by
    have:=HG.out;rw[show l.take j=l by rw[<- hk];exact List.take_length]at this;exact this
   clear HCK HBF HPT HZ G1
   go_wp2
   go_ret;exact⟨_,rfl,(fpR pk),HF.out,G2.out.2⟩
theorem bw0 {a b c e t:Int} {ao:Option Addr} {cs:List Ins} {n cap:Nat} {po:Option Addr} {l:List Nat} {k co:Nat} (hc:Md.cfgB a b c e=true) (hn:cs.length=n) (hk:l.length=k) (hk8:k<=8) (hT:Shaped5 w) (hC:a39 w ao cs) (hL:FlAt w po l) (hnl:n<=9223372036854775807) (hq:ab1 t cs=false):Calls Tryz.prog 88 #[cfgV a b c e,.agg #[.int .i64 t,.slice ao n cap],.slice po k co] w fun r w'=>∃ bm K,r=.returned (.pointer (some ⟨bm,0,none⟩))/\Gm w [] bm K w' (newM a c e t cs l)/\Abv w.heap.size K:=by
 have HP:=zH (Md.place_any a b c e (newW w a b c e t ao n cap));rw[hc]at HP;have hcf:=Md.cfgB_iff.1 hc;have hk':¬ (8:Int)<(k:Int):=by omega
 have HBF:Hid (∀ u,Calls Tryz.prog 102 #[.int .i64 e] u fun r w'=>∃ b F,r=.returned (.tuple #[.pointer (some ⟨b,0,none⟩),.int .i64 0])/\Buf w' b F e []/\Abv u.heap.size F/\Bl u w'):=fun u=>new_some (by unfold mayM;simp;omega) u
 have HCK:Hid (∀ u,Bl w u->Calls Tryz.prog 105 #[.agg #[.int .i64 t,.slice ao n cap]] u fun r w'=>r=.returned (.int .i64 (au7 t cs))/\Bl u w'):=fun u hb=>by
  have:=aG7 t cap (hT.on hb) (hC.on hb) (by omega);rw[hn]at this;exact this
 rw[am4 hq]at HCK;have HL:=zH (And.intro hL (And.intro hk hk8));have HNW:Hid (w.heap.size<=(newW w a b c e t ao n cap).heap.size):=by show _<=_;simp;omega
 clear hc hT hC hL hnl hcf;go_enter Tryz.func88,Tryz.ntmps88
 go_wp2_with (first
  | (go_at_call 102;refine(HBF.out _).mono ?_;rintro r u1 ⟨bw,Fw,rfl,q1,q2,q3⟩;have B1:=B0.out.alloc B0.out.size (.cells #[.int .i64 0,.int .i64 1,.int .i64 2,.int .i64 3,.int .i64 (3+b),.int .i64 (3+b+3*a)] 64);have B2:=zH (B1.trans (q3.mono B1.size));obtain⟨⟨x0,x1,x2,x3⟩,⟨y0,y1,y2⟩,z0⟩:=a46 B2.out;have HW1:=zH (And.intro q1 (Abv.mono q2 (B':=w.heap.size) (zQ HNW.out B1.size)));clear q1 q2 q3 B1 z0)
  | (go_at_call 27;refine HP.out.mono ?_;rw[if_pos rfl];rintro r u0 ⟨rfl,q⟩;obtain⟨⟨x0,x1,x2,x3⟩,⟨y0,y1,y2⟩,z0⟩:=a46 q;have B0:=zH q;clear q HP z0))
 go_region_held (fun w'=>w'.cell? ⟨w.heap.size,0,none⟩=some (.int .i64 a)/\w'.cell? ⟨w.heap.size,2,none⟩=some (.int .i64 c)/\w'.cell? ⟨w.heap.size+1,0,none⟩=some (.int .i64 t)) (go_keep) (first
  | (go_at_call 103;refine(as9 64 _).mono ?_;rintro r v2 ⟨bn,rfl,e2,s2,d2⟩;have P2:=parts_if (w:=w) HNW.out B2.out HW1.out.1 HW1.out.2 (Same.drew _) I1.out.1 I1.out.2.1 I1.out.2.2 (Same.refl _) e2 s2 d2;obtain⟨⟨x0,x1,x2,x3⟩,⟨y0,y1,y2⟩,z0⟩:=a46 P2.bl;have HZ:=zH z0;have HPT:=zH P2;clear e2 s2 d2 P2 z0)
  | (go_at_call 104;refine(at7 16 _).mono ?_;rintro r v2 ⟨bc,rfl,e2,s2,d2⟩;have P2:=aS2 (w:=w) HNW.out B2.out HW1.out.1 HW1.out.2 (Same.drew _) J1.out.1 J1.out.2.1 J1.out.2.2 (Same.refl _) e2 s2 d2;obtain⟨⟨x0,x1,x2,x3⟩,⟨y0,y1,y2⟩,z0⟩:=a46 P2.bl;have HZ:=zH z0;have HPT:=zH P2;clear e2 s2 d2 P2 z0)
  | (go_at_call 103;refine(as9 64 _).mono ?_;rintro r v1 ⟨bn,rfl,e1,s1,d1⟩;have J1:=zH (And.intro e1 (And.intro s1 d1));obtain⟨⟨x0,x1,x2,x3⟩,⟨y0,y1,y2⟩,z0⟩:=a46 (B2.out.trans (((Same.drew _).below _).trans (d1.mono B2.out.size)));clear e1 s1 d1 z0)
  | (go_at_call 104;refine(at7 16 _).mono ?_;rintro r v1 ⟨bc,rfl,e1,s1,d1⟩;have I1:=zH (And.intro e1 (And.intro s1 d1));obtain⟨⟨x0,x1,x2,x3⟩,⟨y0,y1,y2⟩,z0⟩:=a46 (B2.out.trans (((Same.drew _).below _).trans (d1.mono B2.out.size)));clear e1 s1 d1 z0))
 all_goals go_wp2_with (go_at_call 105;refine(HCK.out _ (HZ.out.alloc HZ.out.size _)).mono ?_;rintro r v3 ⟨rfl,d3⟩;have g3:=(HPT.out.mac HZ.out a c (t == 2)).on d3;obtain⟨⟨x0,x1,x2,x3⟩,⟨y0,y1,y2⟩,z0⟩:=a46 ((HPT.out.bl.alloc HPT.out.bl.size _).trans (d3.mono (zQ HPT.out.bl.size (by simp))));have G1:=zH g3;clear d3 g3 z0)
 all_goals go_loopw [55] (fun vi wr=>∃ j:Nat,vi=.int .i64 j/\j<=k/\Hid (Gm w [] v2.heap.size [] wr { newM a c e t cs []with args:=argF (l.take j) })) (fun vi _=>k - (intOf vi).toNat)
 case atStart =>
  refine⟨0,rfl,zV _,?_⟩;have e1:argF (l.take 0)=fun _=>0:=by funext q;exact aP4 q
  rw[e1];unfold newM;rw[hq];exact G1.out
 case round =>
  obtain⟨j,rfl,hj,HG⟩:=hrel
  by_cases hlt:j<k
  ·have hlt':(j:Int)<(k:Int):=by omega
   have hj8:(j:Int)<8:=by omega
   obtain⟨g,o,hpo,hg,hcell⟩:=(HL.out.1.on HG.out.fresh) j (by omega);subst hpo;have HTK:=zH (aG0 l (k:=j) (by omega))
   generalize l.getD j 0=y at hcell HTK
   obtain⟨d0,d1,d2⟩:=HG.out.arg4 (j:=j) (by omega);clear HCK HBF HPT HZ G1
   go_wp2
   refine a34 7 (by kernel_rfl) ?_;simp only[List.take_succ_cons,List.take_zero,List.drop_succ_cons,List.drop_zero]
   repeat (first | still_step | still_call (ae2 y _))
   refine wpStill_nil ?_
   go_wp2
   refine⟨⟨j+1,by first | rfl | (congr 1),by omega,?_⟩,by simp[intOf];omega⟩;have g6:=(aZ7 HG.out (k:=j) (by omega) (fixB y)).same (Same.drew _);rw[<- HTK.out];exact g6
  ·have hlt':¬ (j:Int)<(k:Int):=by omega
   have e:j=k:=by omega
   subst e;have HF:Hid (Gm w [] v2.heap.size [] wr (newM a c e t cs l)):=by
    have:=HG.out;rw[show l.take j=l by rw[<- hk];exact List.take_length]at this;exact this
   clear HCK HBF HPT HZ G1
   go_wp2
   go_ret;exact⟨_,rfl,[],HF.out,fun k hk=>by simp at hk⟩
end
end Go.Proofs.YtipakfjpfjehmaaGreatDoor
namespace Go.Proofs.YtipakfjpfjehmaaGreatDoor
open Go.ChangeShapes Go.WideShapes Go.ChangeAt Go.RowKit Go.Deep
open Go.ChangeMaps (open_string shut_string)
theorem ownK:ownKnob Tryz.prog.godebug=none:=by kernel_rfl
abbrev aM7:List (String × DataW Unit):=Rows.boundsOldRow.laid
section
variable {H:Type} {enc:TypeId × Value->H} {w:World} {base:Nat} {sp:Nat->Bool} {held:Bool}
theorem bz3 {fuel:Nat} {cs:List Value} {p:List MemPlace}
  (h:DataW.trod enc Tryz.prog w base sp held fuel 209 cs=some (.agg (shpT.map fun s=>.agg [.lit (.string s.word),.lit (.int .i64 s.kind),.lit (.int .i64 s.lo),.lit (.int .i64 s.hi),.lit (.int .i64 s.takes),.lit (.int .i64 s.lays)]),p)) :
  ∀ i,i<21->cs[i*6]?=some (strB (shp i).word)/\cs[i*6+1]?=some (.int .i64 (shp i).kind)/\cs[i*6+2]?=some (.int .i64 (shp i).lo)/\cs[i*6+3]?=some (.int .i64 (shp i).hi)/\cs[i*6+4]?=some (.int .i64 (shp i).takes)/\cs[i*6+5]?=some (.int .i64 (shp i).lays):=by
 have hce:Tryz.prog.cellsOf 208=6:=by kernel_rfl
 have hct:Tryz.prog.cellsOf 209=126:=by kernel_rfl
 have hcs:Tryz.prog.cellsOf 9=1:=by kernel_rfl
 have hci:Tryz.prog.cellsOf 3=1:=by kernel_rfl
 cases fuel with
 | zero=>simp[DataW.trod]at h
 | succ fuel =>
  simp only[DataW.trod,Tryz.underlying209,hce,hct]at h
  split at h
  ·obtain⟨xs,hm,hx⟩:=Option.map_eq_some_iff.1 h
   have hxs:=congrArg Prod.fst hx;intro i hi;obtain⟨b,hb,hf⟩:=Lib.mapM_at hm i i (by simp[hi]);have h2:(xs.map (·.1))[i]?=some b.1:=by simp[hb]
   have hxs':xs.map (·.1)=shpT.map fun s=>(DataW.agg [.lit (.string s.word),.lit (.int .i64 s.kind),.lit (.int .i64 s.lo),.lit (.int .i64 s.hi),.lit (.int .i64 s.takes),.lit (.int .i64 s.lays)]:DataW H):=by simpa using hxs
   rw[hxs']at h2;have hi':i<shpT.length:=hi;have hsi:shpT[i]?=some (shp i):=by
    unfold shp;rw[zG,List.getElem?_eq_getElem hi']
    rfl
   rw[List.getElem?_map,hsi]at h2;simp only[Option.map_some,Option.some.injEq]at h2;obtain⟨ys,n,_,hy,_,hyl,hg⟩:=DataW.trod_struct Tryz.underlying208 hf
   match ys,hyl with
   | [y0,y1,y2,y3,y4,y5],_ =>
    have g0:=hg 0 _ rfl;have g1:=hg 1 _ rfl;have g2:=hg 2 _ rfl;have g3:=hg 3 _ rfl;have g4:=hg 4 _ rfl;have g5:=hg 5 _ rfl
    change DataW.trod enc Tryz.prog w base sp held n 9 ((((cs.drop (i*6)).take 6).drop 0).take (Tryz.prog.cellsOf 9))=_ at g0
    rw[hcs]at g0
    change DataW.trod enc Tryz.prog w base sp held n 3 ((((cs.drop (i*6)).take 6).drop 1).take (Tryz.prog.cellsOf 3))=_ at g1
    rw[hci]at g1
    change DataW.trod enc Tryz.prog w base sp held n 3 ((((cs.drop (i*6)).take 6).drop 2).take (Tryz.prog.cellsOf 3))=_ at g2
    rw[hci]at g2
    change DataW.trod enc Tryz.prog w base sp held n 3 ((((cs.drop (i*6)).take 6).drop 3).take (Tryz.prog.cellsOf 3))=_ at g3
    rw[hci]at g3
    change DataW.trod enc Tryz.prog w base sp held n 3 ((((cs.drop (i*6)).take 6).drop 4).take (Tryz.prog.cellsOf 3))=_ at g4
    rw[hci]at g4
    change DataW.trod enc Tryz.prog w base sp held n 3 ((((cs.drop (i*6)).take 6).drop 5).take (Tryz.prog.cellsOf 3))=_ at g5
    rw[hci]at g5;obtain⟨s0,a0,b0,_⟩:=DataW.trod_string Tryz.underlying9 g0;obtain⟨s1,a1,b1,_⟩:=DataW.trod_int Tryz.underlying3 g1;obtain⟨s2,a2,b2,_⟩:=DataW.trod_int Tryz.underlying3 g2;obtain⟨s3,a3,b3,_⟩:=DataW.trod_int Tryz.underlying3 g3;obtain⟨s4,a4,b4,_⟩:=DataW.trod_int Tryz.underlying3 g4;obtain⟨s5,a5,b5,_⟩:=DataW.trod_int Tryz.underlying3 g5;subst b0 b1 b2 b3 b4 b5;rw[hy]at h2;simp only[List.map_cons,List.map_nil,DataW.agg.injEq,List.cons.injEq,DataW.lit.injEq,Lit.string.injEq,Lit.int.injEq,true_and,and_true]at h2;obtain⟨e0,e1,e2,e3,e4,e5⟩:=h2;have get:∀ (o:Nat) (v:Value),(((cs.drop (i*6)).take 6).drop o).take 1=[v]->o<6->cs[i*6+o]?=some v:=fun o v hv ho=>by
     have:=congrArg (·[0]?) hv
     simpa[List.getElem?_take,List.getElem?_drop,ho]using this
    refine⟨?_,?_,?_,?_,?_,?_⟩
    ·have:=get 0 _ a0 (by decide)
     rw[Nat.add_zero]at this;rw[this,e0]
     rfl
    ·rw[get 1 _ a1 (by decide),e1]
    ·rw[get 2 _ a2 (by decide),e2]
    ·rw[get 3 _ a3 (by decide),e3]
    ·rw[get 4 _ a4 (by decide),e4]
    ·rw[get 5 _ a5 (by decide),e5]
  ·cases h
end
theorem bn1:Rows.laid_beadle_code_shapes (H:=Unit)=.agg (shpT.map fun s=>.agg [.lit (.string s.word),.lit (.int .i64 s.kind),.lit (.int .i64 s.lo),.lit (.int .i64 s.hi),.lit (.int .i64 s.takes),.lit (.int .i64 s.lays)]):=by kernel_rfl
theorem bj0 {W:World} (h:laidMetH Tryz.prog aM7 W):Shaped5 W:=by
 rw[MakeChecks.laidMetH_plain _ _ _ (by kernel_rfl)]at h;have hshp:laidMet Tryz.prog aM7 W:=h;unfold aM7 at hshp;rw[show Rows.boundsOldRow.laid=[((Rows.boundsOldRow.laid.map (·.1)).getD 0 default,Rows.laid_beadle_code_shapes)] from rfl,bn1]at hshp;refine⟨?_⟩
 ·obtain⟨ps,⟨g',t',cs,fuel,p,q,hg',ht',hvar,hd,_,_⟩,_⟩:=hshp
  obtain rfl:t'=209:=(Option.some.inj ((show (Tryz.prog.globals[g']?).map (·.type)=some 209 by rw[<- Option.some.inj ((show Tryz.prog.globalNamed ((Rows.boundsOldRow.laid.map (·.1)).getD 0 default)=some 1 by kernel_rfl).symm.trans hg')];kernel_rfl).symm.trans ht')).symm;intro k hk;obtain⟨a0,a1,a2,a3,a4,a5⟩:=bz3 hd k hk;have cell:=fun i=>World.var?_cell (show Tryz.prog.globalNamed ((Rows.boundsOldRow.laid.map (·.1)).getD 0 default)=some 1 by kernel_rfl) hvar i
  exact⟨by rw[cell];simpa using a0,by rw[cell];simpa using a1,by rw[cell];simpa using a2,by rw[cell];simpa using a3,by rw[cell];simpa using a4,by rw[cell];simpa using a5⟩
theorem be6 (os:Os) (args:Array Value):laidMetH Tryz.prog aM7 ((World.doorLaid Tryz.prog 400 os).forCall (fun _ _=>0) ⟨#[],args,[]⟩).memory :=
 laidMetH_of_parts3 (fuel:=8) (laidMet_of_run' 8 (by kernel_rfl) (by kernel_rfl)) (by kernel_rfl) (by kernel_rfl)
theorem b58:laidOutB Tryz.prog=true:=by kernel_rfl
section
variable {H:Type} {enc:TypeId × Value->H}
theorem bO8 {a:Assume} {C:Checked} {os:Os} {f:FuncId} {fn:Func} {s:ChangeSpec} {conds:List PathCond} {apart fresh handsOn again:Bool} {X:World->Array Value->Prop}
  (hX:∀ (w w':World) (args:Array Value),w.heap=w'.heap->X w args->X w' args)
  (own:ownKnob C.prog.godebug=none) (started:os.Started) (noInit:C.prog.inits.idxOf? f=none) (hfn:C.prog.funcs[f]?=some fn)
  (witness:∃ (w:World) (tape:Tape) (i:Input),w.os=os/\(w.forCall tape i).Shaped C.prog/\i.vars=[]/\Input.okWide C.prog (w.forCall tape i) .any w.heap.size f i /\
   ((s.pre enc C.prog fn conds apart (w.forCall tape i).memory i.args/\X (w.forCall tape i).memory i.args)/\sizedMet enc C.prog fn (OpenSpec.ofChange s) apart (w.forCall tape i).memory i.args)/\a.holds C.prog (lone (Frame.enter C.prog f i.args .normal) [] (w.forCall tape i)))
  (contract:∀ (W:World) (base:Nat) (args:Array Value) (ds gs:List (DataW H)) (before:List MemPlace),
   (∀ (j:Nat) t v,fn.params[j]?=some t->args[j]?=some v->Value.okWide C.prog W .any base t v) ->
   DataW.Whole enc C.prog fn.params.toList s.vars apart W args.toList ds gs before ->
   (DataW.weightsEach C.prog (fn.params.toList ++ s.plain.varTypes C.prog) (ds ++ gs)).all (·<=reachBytes)=true->X W args->W.ShapedOpen C.prog ->
   Calls C.prog f args W fun e W'=>∃ v,e=.returned v/\s.post enc C.prog fn apart fresh handsOn again W args v W') :
  ReturnsInHanded a C os f .any (fun w args=>(s.pre enc C.prog fn conds apart w args/\X w args)/\sizedMet enc C.prog fn (OpenSpec.ofChange s) apart w args) (s.post enc C.prog fn apart fresh handsOn again):=by
 refine returnsInHanded_of_calls own started noInit witness fun w tape i _ hsh _ hok hpre _=>?_
 obtain⟨_,_,_,fn',hfn',_,_,_,_,hval⟩:=hok;obtain rfl:fn'=fn:=Option.some.inj (hfn'.symm.trans hfn);obtain⟨⟨⟨ds,gs,before,hw,_⟩,hx⟩,hz⟩:=hpre;exact(contract (w.forCall tape i) w.heap.size i.args ds gs before hval (DataW.Whole.of_heap (w':=w.forCall tape i) (by rfl) hw) (hz.weights hw) (hX _ _ _ (by rfl) hx) hsh).mono fun e W' ⟨v,he,hp⟩=>by
  subst he;exact ChangeSpec.post_blind hp
theorem bI2 {b:Nat} (h:(Lit.float .f64 b).wf=true):b<18446744073709551616:=by simpa[Lit.wf]using h
theorem bb5 {P:Program} {t:TypeId} {w:World} {base:Nat} {sp:Nat->Bool} {held:Bool} {fuel:Nat} {cs:List Value} {x:DataW H × List MemPlace} (ht:P.underlying t=some (.float .f64)) (h:DataW.trod enc P w base sp held fuel t cs=some x):∃ b:Nat,cs=[.float .f64 b]/\(Lit.float .f64 b).wf=true:=by
 cases fuel with
 | zero=>simp[DataW.trod]at h
 | succ n =>
  unfold DataW.trod at h;rw[ht]at h
  split at h <;> simp_all
theorem aT2 {w:World} {base:Nat} {sp:Nat->Bool} {held:Bool} {fuel:Nat} {cs:List Value} {x:DataW H × List MemPlace} (h:DataW.trod enc Tryz.prog w base sp held fuel 49 cs=some x):∃ b:Nat,cs=[.float .f64 b]/\b<18446744073709551616:=by
 obtain⟨b,h1,h2⟩:=bb5 Tryz.underlying49 h;exact⟨b,h1,bI2 h2⟩
theorem bp9:Tryz.prog.cellsOf 49=1:=by kernel_rfl
end
end Go.Proofs.YtipakfjpfjehmaaGreatDoor
namespace Go.Proofs.YtipakfjpfjehmaaGreatDoor.En
open Go.ChangeShapes Go.WideShapes Go.ChangeAt Go.RowKit
def af2 (cur:Array Value):Nat->List Value->Array Value
 | _,[]=>cur
 | i,v::vs=>af2 (cur.setIfInBounds i v) (i+1) vs
theorem aj9:∀ (vs:List Value) (i:Nat) (cur:Array Value),(af2 cur i vs).size=cur.size
 | [],_,_=>rfl
 | v::vs,i,cur=>by
  show (af2 (cur.setIfInBounds i v) (i+1) vs).size=_
  rw[aj9 vs]
  simp
theorem ao6:∀ (vs:List Value) (i:Nat) (cur:Array Value) (k:Nat),i+vs.length<=cur.size->(af2 cur i vs)[k]?=if i<=k/\k<i+vs.length then vs[k - i]? else cur[k]?
 | [],i,cur,k,_=>by
  rw[if_neg (by simp)]
  rfl
 | v::vs,i,cur,k,h=>by
  simp only[List.length_cons]at h ⊢
  show (af2 (cur.setIfInBounds i v) (i+1) vs)[k]?=_
  rw[ao6 vs (i+1) _ k (by simp;omega)]
  by_cases e:k=i
  ·subst e
   rw[if_neg (by omega),if_pos (by omega),Nat.sub_self,List.getElem?_cons_zero,Array.getElem?_setIfInBounds_self_of_lt (by omega)]
  ·by_cases q:i+1<=k/\k<i+1+vs.length
   ·rw[if_pos q,if_pos (by omega),show k - i=(k - (i+1))+1 by omega,List.getElem?_cons_succ]
   ·rw[if_neg q,if_neg (by omega),Array.getElem?_setIfInBounds_ne (fun z=>e z.symm)]
theorem aO2 {w:World} {g:Nat} {cur:Array Value} {t:TypeId} {fr:Nat × Nat} (h:w.heap[g]?=some (.cells cur t fr)):w.setRow g cur=w:=by
 have hlt:g<w.heap.size:=(Array.getElem?_eq_some_iff.1 h).1;have hv:w.heap[g]=.cells cur t fr:=(Array.getElem?_eq_some_iff.1 h).2;unfold World.setRow
 cases w with
 | mk heap tape drawn os output =>
  congr 1
  apply Array.ext
  ·simp
  ·intro k h1 h2
   simp only[Array.getElem_modify]
   split
   ·rename_i hk;subst hk;simp at hv;simp[hv]
   ·rfl
theorem af4 {P:Program} (g off:Nat) (t:TypeId):∀ (vs:List Value) (i:Nat) (cur:Array Value) (w:World),w.heap[g]?=some (.cells cur t (0,0))->off+i+vs.length<=cur.size->(∀ v∈vs,v.oneCell'=true) ->
  (storeCells ⟨g,off,none⟩ vs i).run P w=.ok () (w.setRow g (af2 cur (off+i) vs))
 | [],i,cur,w,hg,hl,_=>by
  show Result.ok () w=_
  rw[show af2 cur (off+i) []=cur from rfl,aO2 hg]
 | v::rest,i,cur,w,hg,hl,h1=>by
  simp only[List.length_cons]at hl;have hi:off+i<cur.size:=by omega
  have hcell:w.cell? ⟨g,off+i,none⟩=some cur[off+i]:=by simp[World.cell?,hg,hi]
  have hfro:w.frozen? ⟨g,off+i,none⟩=false:=by simp[World.frozen?,hg]
  have hst:(store ((⟨g,off,none⟩:Addr).add i) v).run P w=.ok () (w.setRow g (cur.setIfInBounds (off+i) v)):=by
   rw[add_plain,run_store P w _ v _ (h1 v (by simp)),hcell]
   simp[hfro,setCell_eq_setRow w g (off+i) cur t (0,0) v hg]
  have ih:=af4 (P:=P) g off t rest (i+1) (cur.setIfInBounds (off+i) v) (w.setRow g (cur.setIfInBounds (off+i) v)) (setRow_heap w g cur _ t _ hg) (by simp;omega) (fun x hx=>h1 x (by simp[hx]));simp only[storeCells,Sem.run_bind,hst,Result.andThen_ok,ih,setRow_setRow]
  rfl
theorem ax9 {P:Program} (w:World) (g off:Nat) (t ty:TypeId) (old cells:Array Value) (hg:w.heap[g]?=some (.cells old t (0,0))) (hi:(P.info? ty).map (·.size)=some cells.size)
  (ho:off+cells.size<=old.size) (h1:cells.all (·.oneCell')=true) :
  (storeVar ty ⟨g,off,none⟩ (.agg cells)).run P w=.ok () (w.setRow g (af2 old off cells.toList)):=by
 have:=af4 (P:=P) g off t cells.toList 0 old w hg (by simpa using ho) (fun v hv=>(Array.all_eq_true_iff_forall_mem.1 h1) v (by simpa using hv))
 cases hq:P.info? ty with
 | none=>simp[hq]at hi
 | some i =>
  have hs:cells.size=i.size:=by simp[hq]at hi;omega
  simp[storeVar,sizeOf,typeInfo,hq,Value.cells,hs,this]
section
variable {P:Program}
theorem ah4 {o:Oper} {a:Act} {w:World} {K:Act->World->Prop} {Q:Exit->Act->World->Prop} (ty:TypeId) (x y:Operand) (ho:o.op=.store ty x y)
  (g off:Nat) (cells:Array Value) (hx:a.eval x=.pointer (some ⟨g,off,none⟩)) (hy:a.eval y=.agg cells)
  (t:TypeId) (old:Array Value) (hg:w.heap[g]?=some (.cells old t (0,0))) (hi:(P.info? ty).map (·.size)=some cells.size)
  (hold:off+cells.size<=old.size) (h1:cells.all (·.oneCell')=true)
  (h:K (a.put o.dst undef) (w.setRow g (af2 old off cells.toList))):o.wp P a w K Q:=by
 unfold Oper.wp execOp;simp only[ho,hx,hy,Instr.storeAt,Instr.sureAddr,Sem.run_bind,Sem.run_pure,Result.andThen_ok,ax9 w g off t ty old cells hg hi hold h1];exact h
theorem ay9 {ops:Array Oper} {rest:List Oper} {o:Oper} {a:Act} {w:World} {Q:Exit->Act->World->Prop} (hgd:o.guard=none) (ty:TypeId) (x y:Operand) (ho:o.op=.store ty x y)
  (g off:Nat) (cells:Array Value) (hx:a.eval x=.pointer (some ⟨g,off,none⟩)) (hy:a.eval y=.agg cells)
  (t:TypeId) (old:Array Value) (hg:w.heap[g]?=some (.cells old t (0,0))) (hi:(P.info? ty).map (·.size)=some cells.size)
  (hold:off+cells.size<=old.size) (h1:cells.all (·.oneCell')=true)
  (h:wpList P ops Q rest (a.put o.dst undef) (w.setRow g (af2 old off cells.toList))):wpList P ops Q (o::rest) a w :=
 wpList_plain hgd fun _ hK=>ah4 ty x y ho g off cells hx hy t old hg hi hold h1 (hK _ _ h)
theorem az6 (w:World) (g off:Nat) (ty:TypeId) (cs:Array Value) (d:TypeDesc) (hc:∀ j,j<cs.size->w.cell? ⟨g,off+j,none⟩=cs[j]?)
  (hu:P.underlying ty=some d) (hd:(match d with | .struct _ | .array _ _=>true | _=>false)=true) (hi:(P.info? ty).map (·.size)=some cs.size) :
  (loadVar ty ⟨g,off,none⟩).run P w=.ok (.agg cs) w:=by
 have hl:(loadCells ⟨g,off,none⟩ cs.toList.length).run P w=.ok cs.toList.toArray w :=
  run_loadCells_list (P:=P) w ⟨g,off,none⟩ cs.toList (fun j v hv=>by
   have hj:j<cs.size:=by
    have:=(List.getElem?_eq_some_iff.1 hv).1
    simpa using this
   rw[add_plain,hc j hj]
   simpa using hv)
 cases hq:P.info? ty with
 | none=>simp[hq]at hi
 | some i =>
  have hs:cs.size=i.size:=by simp[hq]at hi;omega
  have hl':(loadCells ⟨g,off,none⟩ i.size).run P w=.ok cs w:=by simpa[hs]using hl
  cases d <;> simp at hd <;> simp[loadVar,isAgg,underlying,hu,sizeOf,typeInfo,hq,hl']
theorem aY9 {o:Oper} {a:Act} {w:World} {K:Act->World->Prop} {Q:Exit->Act->World->Prop} (ty:TypeId) (x:Operand) (ho:o.op=.load ty x)
  (g off:Nat) (hx:a.eval x=.pointer (some ⟨g,off,none⟩)) (cs:Array Value) (d:TypeDesc) (hc:∀ j,j<cs.size->w.cell? ⟨g,off+j,none⟩=cs[j]?)
  (hu:P.underlying ty=some d) (hd:(match d with | .struct _ | .array _ _=>true | _=>false)=true) (hi:(P.info? ty).map (·.size)=some cs.size)
  (h:K (a.put o.dst (.agg cs)) w):o.wp P a w K Q:=by
 unfold Oper.wp execOp;simp only[ho,hx,Instr.loadAt,Instr.sureAddr,Sem.run_bind,Sem.run_pure,Result.andThen_ok,az6 w g off ty cs d hc hu hd hi];exact h
theorem ae4 {ops:Array Oper} {rest:List Oper} {o:Oper} {a:Act} {w:World} {Q:Exit->Act->World->Prop} (hgd:o.guard=none) (ty:TypeId) (x:Operand) (ho:o.op=.load ty x)
  (g off:Nat) (hx:a.eval x=.pointer (some ⟨g,off,none⟩)) (cs:Array Value) (d:TypeDesc) (hc:∀ j,j<cs.size->w.cell? ⟨g,off+j,none⟩=cs[j]?)
  (hu:P.underlying ty=some d) (hd:(match d with | .struct _ | .array _ _=>true | _=>false)=true) (hi:(P.info? ty).map (·.size)=some cs.size)
  (h:wpList P ops Q rest (a.put o.dst (.agg cs)) w):wpList P ops Q (o::rest) a w :=
 wpList_plain hgd fun _ hK=>aY9 ty x ho g off hx cs d hc hu hd hi (hK _ _ h)
end
structure Arr (w:World) (g:Nat) (T:TypeId) (sz m n:Nat) (f:Nat->Array Value):Prop where
 blk:∃ arr,w.heap[g]?=some (.cells arr T (0,0))/\arr.size=m*sz/\∀ i j,i<n->j<sz->arr[i*sz+j]?=(f i)[j]?
 le:n<=m
 sz:∀ i,i<n->(f i).size=sz
def updA (f:Nat->Array Value) (i:Nat) (a:Array Value):Nat->Array Value:=fun k=>if k=i then a else f k
theorem a25 (f:Nat->Array Value) (i:Nat) (a:Array Value):updA f i a i=a:=if_pos rfl
theorem a35 (f:Nat->Array Value) {i k:Nat} (a:Array Value) (h:k≠i):updA f i a k=f k:=if_neg h
theorem aZ9 {i j n sz m:Nat} (hi:i<n) (hj:j<sz) (hm:n<=m):i*sz+j<m*sz:=by
 have:(i+1)*sz<=m*sz:=Nat.mul_le_mul_right _ (by omega);rw[Nat.add_mul]at this;omega
theorem bC0 {i j i' j' sz:Nat} (hj:j<sz) (hj':j'<sz) (h:i*sz+j=i'*sz+j'):i=i'/\j=j':=by
 have h1:(i*sz+j) / sz=(i'*sz+j') / sz:=by rw[h]
 have e:∀ a b,b<sz->(a*sz+b) / sz=a:=fun a b hb=>by
  rw[Nat.mul_comm,Nat.mul_add_div (by omega),Nat.div_eq_of_lt hb,Nat.add_zero]
 rw[e i j hj,e i' j' hj']at h1;subst h1;exact⟨rfl,by omega⟩
section
variable {w w':World} {g sz m n:Nat} {T:TypeId} {f:Nat->Array Value}
theorem Arr.lt (h:Arr w g T sz m n f):g<w.heap.size:=by obtain⟨arr,h1,_⟩:=h.blk;exact lt_of_block h1
theorem Arr.free (h:Arr w g T sz m n f) (j:Nat):w.frozen? ⟨g,j,none⟩=false:=by obtain⟨arr,h1,_⟩:=h.blk;exact zZ w g j _ _ h1
theorem Arr.cell (h:Arr w g T sz m n f) {i j:Nat} (hi:i<n) (hj:j<sz):w.cell? ⟨g,i*sz+j,none⟩=(f i)[j]?:=by
 obtain⟨arr,h1,h2,h3⟩:=h.blk;rw[zR w g _ _ _ _ h1];exact h3 i j hi hj
theorem Arr.keep (h:Arr w g T sz m n f) (k:w'.heap[g]?=w.heap[g]?):Arr w' g T sz m n f:=by
 obtain⟨arr,h1,h2⟩:=h.blk;exact⟨⟨arr,k.trans h1,h2⟩,h.le,h.sz⟩
theorem Arr.on (h:Arr w g T sz m n f) (k:Bl w w'):Arr w' g T sz m n f:=h.keep (k.block g h.lt)
theorem Arr.put (h:Arr w g T sz m n f) {i j:Nat} (hi:i<n) (hj:j<sz) (v:Value):Arr (w.setCell ⟨g,i*sz+j,none⟩ v) g T sz m n (updA f i ((f i).setIfInBounds j v)):=by
 obtain⟨arr,h1,h2,h3⟩:=h.blk;have hl:=aZ9 hi hj h.le;refine⟨⟨_,zS w g _ _ _ v h1,by simpa using h2,fun i' j' hi' hj'=>?_⟩,h.le,fun i' hi'=>?_⟩
 ·by_cases e:i'=i
  ·subst e
   rw[a25]
   by_cases ej:j'=j
   ·subst ej
    rw[Array.getElem?_setIfInBounds_self_of_lt (by omega),Array.getElem?_setIfInBounds_self_of_lt (by rw[h.sz _ hi];exact hj)]
   ·rw[Array.getElem?_setIfInBounds_ne (by omega),Array.getElem?_setIfInBounds_ne (fun z=>ej z.symm)]
    exact h3 _ _ hi' hj'
  ·rw[a35 _ _ e,Array.getElem?_setIfInBounds_ne (fun z=>e (bC0 hj' hj z.symm).1)]
   exact h3 _ _ hi' hj'
 ·by_cases e:i'=i
  ·subst e;rw[a25];simpa using h.sz _ hi
  ·rw[a35 _ _ e];exact h.sz _ hi'
theorem Arr.puts (h:Arr w g T sz m n f) {i j:Nat} (hi:i<n) {cs:Array Value} (hj:j+cs.size<=sz):∃ arr,w.heap[g]?=some (.cells arr T (0,0))/\i*sz+j+cs.size<=arr.size/\Arr (w.setRow g (af2 arr (i*sz+j) cs.toList)) g T sz m n (updA f i (af2 (f i) j cs.toList)):=by
 obtain⟨arr,h1,h2,h3⟩:=h.blk;have hl:i*sz+sz<=m*sz:=by
  have:(i+1)*sz<=m*sz:=Nat.mul_le_mul_right _ (by have:=h.le;omega);rwa[Nat.add_mul,Nat.one_mul]at this
 refine⟨arr,h1,by omega,⟨⟨_,setRow_heap w g _ _ _ _ h1,by rw[aj9];exact h2,fun i' j' hi' hj'=>?_⟩,h.le,fun i' hi'=>?_⟩⟩
 ·rw[ao6 _ _ _ _ (by simp;omega)]
  by_cases e:i'=i
  ·subst e
   rw[a25,ao6 _ _ _ _ (by simp;rw[h.sz _ hi];exact hj)];simp only[Array.length_toList]
   by_cases q:j<=j'/\j'<j+cs.size
   ·rw[if_pos q,if_pos (by omega),show i'*sz+j' - (i'*sz+j)=j' - j by omega]
   ·rw[if_neg q,if_neg (by omega)]
    exact h3 _ _ hi' hj'
  ·rw[a35 _ _ e,if_neg]
   ·exact h3 _ _ hi' hj'
   ·intro q
    simp only[Array.length_toList]at q;have l1:=aZ9 (n:=i'+1) (m:=i'+1) (Nat.lt_succ_self i') hj' (zE _)
    rcases Nat.lt_or_gt_of_ne e with z | z
    ·have:(i'+1)*sz<=i*sz:=Nat.mul_le_mul_right _ z
     omega
    ·have:(i+1)*sz<=i'*sz:=Nat.mul_le_mul_right _ z
     rw[Nat.add_mul,Nat.one_mul]at this;omega
 ·by_cases e:i'=i
  ·subst e;rw[a25,aj9];exact h.sz _ hi
  ·rw[a35 _ _ e];exact h.sz _ hi'
def ag3 (f:Nat->Array Value):Nat->List Value
 | 0=>[]
 | n+1=>ag3 f n ++ (f n).toList
theorem av8 (h:∀ i,i<n->(f i).size=sz):(ag3 f n).length=n*sz:=by
 induction n with
 | zero=>simp[ag3]
 | succ n ih =>
  show (ag3 f n ++ (f n).toList).length=_
  rw[List.length_append,ih (fun i hi=>h i (by omega)),Array.length_toList,h n (by omega),Nat.add_mul,Nat.one_mul]
theorem aH5 (h:∀ i,i<n->(f i).size=sz) {i j:Nat} (hi:i<n) (hj:j<sz):(ag3 f n)[i*sz+j]?=(f i)[j]?:=by
 induction n with
 | zero=>omega
 | succ n ih =>
  have hl:=av8 (n:=n) (fun i hi=>h i (by omega))
  show (ag3 f n ++ (f n).toList)[_]?=_
  by_cases e:i=n
  ·subst e
   rw[List.getElem?_append_right (by omega),hl,show i*sz+j - i*sz=j by omega]
   simp
  ·rw[List.getElem?_append_left (by rw[hl];exact aZ9 (n:=n) (by omega) hj (zE _))]
   exact ih (fun i hi=>h i (by omega)) (by omega)
theorem aA6 {f f':Nat->Array Value}:∀ n,(∀ i,i<n->f i=f' i)->ag3 f n=ag3 f' n
 | 0,_=>rfl
 | n+1,h=>by
  show ag3 f n ++ _=ag3 f' n ++ _
  rw[aA6 n (fun i hi=>h i (by omega)),h n (by omega)]
theorem Arr.owns (h:Arr w g T sz m n f) (hs:0<sz) (hm:m<=maxLen):w.ownsRow 0 T sz (.slice (some ⟨g,0,none⟩) n m) n (ag3 f n):=by
 obtain⟨arr,h1,h2,h3⟩:=h.blk;refine⟨av8 h.sz,.inr ⟨g,m,arr,rfl,zV _,h1,h.le,hm,h2,?_⟩⟩
 apply List.ext_getElem?
 intro k;have hl:=av8 h.sz
 by_cases q:k<n*sz
 ·have hj:k % sz<sz:=Nat.mod_lt _ hs
  have hi:k / sz<n:=Nat.div_lt_of_lt_mul (by rw[Nat.mul_comm];exact q);have e:k=k / sz*sz+k % sz:=by rw[Nat.mul_comm];exact(Nat.div_add_mod k sz).symm
  rw[List.getElem?_take,if_pos q,e,aH5 h.sz hi hj,<- h3 _ _ hi hj]
  simp
 ·rw[List.getElem?_take,if_neg q,List.getElem?_eq_none (by omega)]
theorem bB9 {v:Value} (h:w.ownsRow 0 T sz v n (ag3 f n)) (h0:0<n) (hz:∀ i,i<n->(f i).size=sz):∃ g c,v=.slice (some ⟨g,0,none⟩) n c/\c<=maxLen/\Arr w g T sz c n f:=by
 rcases h.2 with⟨_,q⟩ | ⟨g,cap,cur,hv,_,hg,hc,hm,hs,ht⟩
 ·omega
 ·refine⟨g,cap,hv,hm,⟨⟨cur,hg,hs,fun i j hi hj=>?_⟩,hc,hz⟩⟩
  have h1:cur.toList[i*sz+j]?=(cur.toList.take (n*sz))[i*sz+j]?:=by
   rw[List.getElem?_take,if_pos (aZ9 hi hj (zE _))]
  rw[ht,aH5 hz hi hj]at h1
  simpa using h1
end
end Go.Proofs.YtipakfjpfjehmaaGreatDoor.En
namespace Go.Proofs.YtipakfjpfjehmaaGreatDoor
open Go.ChangeShapes Go.WideShapes Go.ChangeAt Go.RowKit Num
attribute [local go_sem] a00
section
variable {W w:World} {b:Nat} {F0 K:List Nat} {m:Mac}
theorem Gm.both (h:Gm W F0 b K w m) (i:Ins):∃ F,Gm ((w.alloc (insO i)).alloc (askO ask0)) F b K ((w.alloc (insO i)).alloc (askO ask0)) m/\∀ w' m',Gm ((w.alloc (insO i)).alloc (askO ask0)) F b K w' m'->w'.heap[w.heap.size]?=some (insO i)/\w'.heap[w.heap.size+1]?=some (askO ask0)/\∀ w'',Turn [w.heap.size+1] [w.heap.size+1] w' w''->Gm W F0 b K w'' m':=by
 obtain⟨F1,hM1,hT1⟩:=h.mc;have hb1:Blw w F1:=hM1.blw;have hM3:=hM1.on ((below_alloc w (insO i)).trans ((below_alloc _ (askO ask0)).mono (by simp)));refine⟨F1,hM3.gm,fun w' m' hg=>?_⟩;have a1:w'.heap[w.heap.size]?=some (insO i):=(hg.far (by simp;omega) (fun q=>absurd (hb1 _ q) (Nat.lt_irrefl _))).trans ((heap_alloc_old _ _ (by simp)).trans (zN w _));have a2:w'.heap[w.heap.size+1]?=some (askO ask0):=(hg.far (by simp) (fun q=>absurd (hb1 _ q) (by omega))).trans (aa4 (by simp));refine⟨a1,a2,fun w'' t=>?_⟩;obtain⟨p,q1,q2,q3⟩:=hg;have n1:w.heap.size+1∉p.F b:=fun q=>(q2.own _ q).elim (fun z=>absurd (hb1 _ z) (by omega)) (fun z=>by simp at z;omega)
 have n2:w.heap.size+1∉fpR p.pk:=fun q=>by rw[<- q3]at q;exact absurd (hM1.blwK _ q) (by omega)
 have s1:Sep (p.F b) [w.heap.size+1]:=fun k hk q=>n1 (by simp at q;rw[<- q];exact hk)
 have s2:Sep (fpR p.pk) [w.heap.size+1]:=fun k hk q=>n2 (by simp at q;rw[<- q];exact hk)
 have hs:w.heap.size<=w'.heap.size:=zQ (by simp;omega) q2.size;refine⟨p,q1.keep (t.kept s1 q1.blw) (t.kept s2 q1.ltk),hT1.trans ⟨t.os.trans q2.os,t.tape.trans q2.tape,t.output.trans q2.output,zQ hs t.size,fun k hk hf=>?_,fun k hk=>?_⟩,q3⟩
 ·exact(t.block k (zL hk hs) (by simp;omega)).trans ((q2.block k (by simp;omega) hf).trans ((heap_alloc_old _ _ (by simp;omega)).trans (heap_alloc_old w _ hk)))
 ·exact(q2.own k hk).imp id (fun z=>by simp at z;omega)
theorem a44 (hT:Shaped5 w) (i:Ins):Shaped5 ((w.alloc (insO i)).alloc (askO ask0)):=hT.on ((below_alloc w (insO i)).trans ((below_alloc _ (askO ask0)).mono (by simp)))
theorem do_A (h:Gm W F0 b K w m) (hT:Shaped5 w) {k:Nat} {n:Int} {x:Nat} {m':Mac} (x16:¬ (k:Int)=16) (x17:¬ (k:Int)=17) (x19:¬ (k:Int)=19) (x20:¬ (k:Int)=20) (x15:¬ (k:Int)=15) (x11:¬ (k:Int)=11) (x12:¬ (k:Int)=12) (x13:¬ (k:Int)=13) (x14:¬ (k:Int)=14) (hR:∀ W F0 w,Gm W F0 b K w m->Calls Tryz.prog 147 #[.pointer (some ⟨b,0,none⟩),.agg #[.int .i64 (k:Int),.int .i64 n,.float .f64 x]] w fun r w'=>r=.returned (.tuple #[])/\Gm W F0 b K w' m') (hF:∀ W F0 w,Gm W F0 b K w m->Shaped5 w->Calls Tryz.prog 142 #[.pointer (some ⟨b,0,none⟩),.agg #[.int .i64 (k:Int),.int .i64 n,.float .f64 x]] w fun r w'=>r=.returned (.tuple #[])/\Bl w w'):Calls Tryz.prog 135 #[.pointer (some ⟨b,0,none⟩),.agg #[.int .i64 (k:Int),.int .i64 n,.float .f64 x]] w fun r w'=>r=.returned (askV ask0)/\Gm W F0 b K w' m':=by
 obtain⟨F,h1,hX⟩:=h.both ⟨(k:Int),n,x⟩;have HF:=zH (hF _ _ _ h1 (a44 hT _));have HG:=zH h1;have HX:=zH hX;have HR:=zH hR;clear h h1 hX hT hF hR;go_enter Tryz.func135,Tryz.ntmps135
 go_wp2_with (first
  | (go_at_call 147;refine(HR.out _ _ _ G0.out).mono ?_;rintro e u1 ⟨rfl,q⟩;obtain⟨r1,r2,r3⟩:=HX.out _ _ q;obtain⟨⟨d0,d1,d2,d3,d4⟩,d5,d6,d7,d8⟩:=a21 r2;have G1:=zH (And.intro r2 r3);clear q r1 r2 r3)
  | (go_at_call 142;refine HF.out.mono ?_;rintro e u0 ⟨rfl,q⟩;have q0:=HG.out.on q;obtain⟨r1,r2,r3⟩:=HX.out _ _ q0;obtain⟨c0,c1,c2,c3⟩:=a30 r1;obtain⟨⟨k0,k1,k2,k3,k4⟩,k5,k6,k7,k8⟩:=a21 r2;have G0:=zH q0;clear q q0 r1 r2 r3))
 exact a60 rfl (w.heap.size+1) ask0 rfl (a49 (k':=ask0) G1.out.1) rfl ⟨rfl,G1.out.2 _ (af6 _ _ (.int .i64 0) (.int .i64 0) (.float .f64 0) (.bool false))⟩
theorem bC7 (h:Gm W F0 b K w m) (hT:Shaped5 w) {n:Int} {x:Nat} {m':Mac} (hR:∀ W F0 w,Gm W F0 b K w m->Calls Tryz.prog 146 #[.pointer (some ⟨b,0,none⟩),.agg #[.int .i64 11,.int .i64 n,.float .f64 x]] w fun r w'=>r=.returned (.tuple #[])/\Gm W F0 b K w' m') (hF:∀ W F0 w,Gm W F0 b K w m->Shaped5 w->Calls Tryz.prog 142 #[.pointer (some ⟨b,0,none⟩),.agg #[.int .i64 11,.int .i64 n,.float .f64 x]] w fun r w'=>r=.returned (.tuple #[])/\Bl w w'):Calls Tryz.prog 135 #[.pointer (some ⟨b,0,none⟩),.agg #[.int .i64 11,.int .i64 n,.float .f64 x]] w fun r w'=>r=.returned (askV ask0)/\Gm W F0 b K w' m':=by
 obtain⟨F,h1,hX⟩:=h.both ⟨11,n,x⟩;have HF:=zH (hF _ _ _ h1 (a44 hT _));have HG:=zH h1;have HX:=zH hX;have HR:=zH hR;clear h h1 hX hT hF hR;go_enter Tryz.func135,Tryz.ntmps135
 go_wp2_with (first
  | (go_at_call 146;refine(HR.out _ _ _ G0.out).mono ?_;rintro e u1 ⟨rfl,q⟩;obtain⟨r1,r2,r3⟩:=HX.out _ _ q;obtain⟨⟨d0,d1,d2,d3,d4⟩,d5,d6,d7,d8⟩:=a21 r2;have G1:=zH (And.intro r2 r3);clear q r1 r2 r3)
  | (go_at_call 142;refine HF.out.mono ?_;rintro e u0 ⟨rfl,q⟩;have q0:=HG.out.on q;obtain⟨r1,r2,r3⟩:=HX.out _ _ q0;obtain⟨c0,c1,c2,c3⟩:=a30 r1;obtain⟨⟨k0,k1,k2,k3,k4⟩,k5,k6,k7,k8⟩:=a21 r2;have G0:=zH q0;clear q q0 r1 r2 r3))
 exact a60 rfl (w.heap.size+1) ask0 rfl (a49 (k':=ask0) G1.out.1) rfl ⟨rfl,G1.out.2 _ (af6 _ _ (.int .i64 0) (.int .i64 0) (.float .f64 0) (.bool false))⟩
theorem bq0 (h:Gm W F0 b K w m) (hT:Shaped5 w) {n:Int} {x:Nat} {m':Mac} (hR:∀ W F0 w,Gm W F0 b K w m->Calls Tryz.prog 146 #[.pointer (some ⟨b,0,none⟩),.agg #[.int .i64 12,.int .i64 n,.float .f64 x]] w fun r w'=>r=.returned (.tuple #[])/\Gm W F0 b K w' m') (hF:∀ W F0 w,Gm W F0 b K w m->Shaped5 w->Calls Tryz.prog 142 #[.pointer (some ⟨b,0,none⟩),.agg #[.int .i64 12,.int .i64 n,.float .f64 x]] w fun r w'=>r=.returned (.tuple #[])/\Bl w w'):Calls Tryz.prog 135 #[.pointer (some ⟨b,0,none⟩),.agg #[.int .i64 12,.int .i64 n,.float .f64 x]] w fun r w'=>r=.returned (askV ask0)/\Gm W F0 b K w' m':=by
 obtain⟨F,h1,hX⟩:=h.both ⟨12,n,x⟩;have HF:=zH (hF _ _ _ h1 (a44 hT _));have HG:=zH h1;have HX:=zH hX;have HR:=zH hR;clear h h1 hX hT hF hR;go_enter Tryz.func135,Tryz.ntmps135
 go_wp2_with (first
  | (go_at_call 146;refine(HR.out _ _ _ G0.out).mono ?_;rintro e u1 ⟨rfl,q⟩;obtain⟨r1,r2,r3⟩:=HX.out _ _ q;obtain⟨⟨d0,d1,d2,d3,d4⟩,d5,d6,d7,d8⟩:=a21 r2;have G1:=zH (And.intro r2 r3);clear q r1 r2 r3)
  | (go_at_call 142;refine HF.out.mono ?_;rintro e u0 ⟨rfl,q⟩;have q0:=HG.out.on q;obtain⟨r1,r2,r3⟩:=HX.out _ _ q0;obtain⟨c0,c1,c2,c3⟩:=a30 r1;obtain⟨⟨k0,k1,k2,k3,k4⟩,k5,k6,k7,k8⟩:=a21 r2;have G0:=zH q0;clear q q0 r1 r2 r3))
 exact a60 rfl (w.heap.size+1) ask0 rfl (a49 (k':=ask0) G1.out.1) rfl ⟨rfl,G1.out.2 _ (af6 _ _ (.int .i64 0) (.int .i64 0) (.float .f64 0) (.bool false))⟩
theorem bq1 (h:Gm W F0 b K w m) (hT:Shaped5 w) {n:Int} {x:Nat} {m':Mac} (hR:∀ W F0 w,Gm W F0 b K w m->Calls Tryz.prog 146 #[.pointer (some ⟨b,0,none⟩),.agg #[.int .i64 13,.int .i64 n,.float .f64 x]] w fun r w'=>r=.returned (.tuple #[])/\Gm W F0 b K w' m') (hF:∀ W F0 w,Gm W F0 b K w m->Shaped5 w->Calls Tryz.prog 142 #[.pointer (some ⟨b,0,none⟩),.agg #[.int .i64 13,.int .i64 n,.float .f64 x]] w fun r w'=>r=.returned (.tuple #[])/\Bl w w'):Calls Tryz.prog 135 #[.pointer (some ⟨b,0,none⟩),.agg #[.int .i64 13,.int .i64 n,.float .f64 x]] w fun r w'=>r=.returned (askV ask0)/\Gm W F0 b K w' m':=by
 obtain⟨F,h1,hX⟩:=h.both ⟨13,n,x⟩;have HF:=zH (hF _ _ _ h1 (a44 hT _));have HG:=zH h1;have HX:=zH hX;have HR:=zH hR;clear h h1 hX hT hF hR;go_enter Tryz.func135,Tryz.ntmps135
 go_wp2_with (first
  | (go_at_call 146;refine(HR.out _ _ _ G0.out).mono ?_;rintro e u1 ⟨rfl,q⟩;obtain⟨r1,r2,r3⟩:=HX.out _ _ q;obtain⟨⟨d0,d1,d2,d3,d4⟩,d5,d6,d7,d8⟩:=a21 r2;have G1:=zH (And.intro r2 r3);clear q r1 r2 r3)
  | (go_at_call 142;refine HF.out.mono ?_;rintro e u0 ⟨rfl,q⟩;have q0:=HG.out.on q;obtain⟨r1,r2,r3⟩:=HX.out _ _ q0;obtain⟨c0,c1,c2,c3⟩:=a30 r1;obtain⟨⟨k0,k1,k2,k3,k4⟩,k5,k6,k7,k8⟩:=a21 r2;have G0:=zH q0;clear q q0 r1 r2 r3))
 exact a60 rfl (w.heap.size+1) ask0 rfl (a49 (k':=ask0) G1.out.1) rfl ⟨rfl,G1.out.2 _ (af6 _ _ (.int .i64 0) (.int .i64 0) (.float .f64 0) (.bool false))⟩
theorem bC8 (h:Gm W F0 b K w m) (hT:Shaped5 w) {n:Int} {x:Nat} {m':Mac} (hR:∀ W F0 w,Gm W F0 b K w m->Calls Tryz.prog 146 #[.pointer (some ⟨b,0,none⟩),.agg #[.int .i64 14,.int .i64 n,.float .f64 x]] w fun r w'=>r=.returned (.tuple #[])/\Gm W F0 b K w' m') (hF:∀ W F0 w,Gm W F0 b K w m->Shaped5 w->Calls Tryz.prog 142 #[.pointer (some ⟨b,0,none⟩),.agg #[.int .i64 14,.int .i64 n,.float .f64 x]] w fun r w'=>r=.returned (.tuple #[])/\Bl w w'):Calls Tryz.prog 135 #[.pointer (some ⟨b,0,none⟩),.agg #[.int .i64 14,.int .i64 n,.float .f64 x]] w fun r w'=>r=.returned (askV ask0)/\Gm W F0 b K w' m':=by
 obtain⟨F,h1,hX⟩:=h.both ⟨14,n,x⟩;have HF:=zH (hF _ _ _ h1 (a44 hT _));have HG:=zH h1;have HX:=zH hX;have HR:=zH hR;clear h h1 hX hT hF hR;go_enter Tryz.func135,Tryz.ntmps135
 go_wp2_with (first
  | (go_at_call 146;refine(HR.out _ _ _ G0.out).mono ?_;rintro e u1 ⟨rfl,q⟩;obtain⟨r1,r2,r3⟩:=HX.out _ _ q;obtain⟨⟨d0,d1,d2,d3,d4⟩,d5,d6,d7,d8⟩:=a21 r2;have G1:=zH (And.intro r2 r3);clear q r1 r2 r3)
  | (go_at_call 142;refine HF.out.mono ?_;rintro e u0 ⟨rfl,q⟩;have q0:=HG.out.on q;obtain⟨r1,r2,r3⟩:=HX.out _ _ q0;obtain⟨c0,c1,c2,c3⟩:=a30 r1;obtain⟨⟨k0,k1,k2,k3,k4⟩,k5,k6,k7,k8⟩:=a21 r2;have G0:=zH q0;clear q q0 r1 r2 r3))
 exact a60 rfl (w.heap.size+1) ask0 rfl (a49 (k':=ask0) G1.out.1) rfl ⟨rfl,G1.out.2 _ (af6 _ _ (.int .i64 0) (.int .i64 0) (.float .f64 0) (.bool false))⟩
theorem b26 (h:Gm W F0 b K w m) (hT:Shaped5 w) {n:Int} {x:Nat} {m':Mac} {a:Ask} (hR:∀ W F0 w,Gm W F0 b K w m->Calls Tryz.prog 143 #[.pointer (some ⟨b,0,none⟩)] w fun r w'=>r=.returned (askV a)/\Gm W F0 b K w' m') (hF:∀ W F0 w,Gm W F0 b K w m->Shaped5 w->Calls Tryz.prog 142 #[.pointer (some ⟨b,0,none⟩),.agg #[.int .i64 16,.int .i64 n,.float .f64 x]] w fun r w'=>r=.returned (.tuple #[])/\Bl w w'):Calls Tryz.prog 135 #[.pointer (some ⟨b,0,none⟩),.agg #[.int .i64 16,.int .i64 n,.float .f64 x]] w fun r w'=>r=.returned (askV a)/\Gm W F0 b K w' m':=by
 obtain⟨F,h1,hX⟩:=h.both ⟨16,n,x⟩;have HF:=zH (hF _ _ _ h1 (a44 hT _));have HG:=zH h1;have HX:=zH hX;have HR:=zH hR;clear h h1 hX hT hF hR;go_enter Tryz.func135,Tryz.ntmps135
 go_wp2_with (first
  | (go_at_call 143;refine(HR.out _ _ _ G0.out).mono ?_;rintro e u1 ⟨rfl,q⟩;obtain⟨r1,r2,r3⟩:=HX.out _ _ q;obtain⟨⟨d0,d1,d2,d3,d4⟩,d5,d6,d7,d8⟩:=a21 r2;have G1:=zH (And.intro r2 r3);clear q r1 r2 r3;unfold askV)
  | (go_at_call 142;refine HF.out.mono ?_;rintro e u0 ⟨rfl,q⟩;have q0:=HG.out.on q;obtain⟨r1,r2,r3⟩:=HX.out _ _ q0;obtain⟨c0,c1,c2,c3⟩:=a30 r1;obtain⟨⟨k0,k1,k2,k3,k4⟩,k5,k6,k7,k8⟩:=a21 r2;have G0:=zH q0;clear q q0 r1 r2 r3))
 exact a60 rfl (w.heap.size+1) a rfl (a49 (k':=a) G1.out.1) rfl ⟨rfl,G1.out.2 _ (af6 _ _ (.int .i64 a.kind) (.int .i64 a.cell) (.float .f64 a.x) (.bool a.first))⟩
theorem be5 (h:Gm W F0 b K w m) (hT:Shaped5 w) {n:Int} {x:Nat} {m':Mac} {a:Ask} (hR:∀ W F0 w,Gm W F0 b K w m->Calls Tryz.prog 144 #[.pointer (some ⟨b,0,none⟩)] w fun r w'=>r=.returned (askV a)/\Gm W F0 b K w' m') (hF:∀ W F0 w,Gm W F0 b K w m->Shaped5 w->Calls Tryz.prog 142 #[.pointer (some ⟨b,0,none⟩),.agg #[.int .i64 17,.int .i64 n,.float .f64 x]] w fun r w'=>r=.returned (.tuple #[])/\Bl w w'):Calls Tryz.prog 135 #[.pointer (some ⟨b,0,none⟩),.agg #[.int .i64 17,.int .i64 n,.float .f64 x]] w fun r w'=>r=.returned (askV a)/\Gm W F0 b K w' m':=by
 obtain⟨F,h1,hX⟩:=h.both ⟨17,n,x⟩;have HF:=zH (hF _ _ _ h1 (a44 hT _));have HG:=zH h1;have HX:=zH hX;have HR:=zH hR;clear h h1 hX hT hF hR;go_enter Tryz.func135,Tryz.ntmps135
 go_wp2_with (first
  | (go_at_call 144;refine(HR.out _ _ _ G0.out).mono ?_;rintro e u1 ⟨rfl,q⟩;obtain⟨r1,r2,r3⟩:=HX.out _ _ q;obtain⟨⟨d0,d1,d2,d3,d4⟩,d5,d6,d7,d8⟩:=a21 r2;have G1:=zH (And.intro r2 r3);clear q r1 r2 r3;unfold askV)
  | (go_at_call 142;refine HF.out.mono ?_;rintro e u0 ⟨rfl,q⟩;have q0:=HG.out.on q;obtain⟨r1,r2,r3⟩:=HX.out _ _ q0;obtain⟨c0,c1,c2,c3⟩:=a30 r1;obtain⟨⟨k0,k1,k2,k3,k4⟩,k5,k6,k7,k8⟩:=a21 r2;have G0:=zH q0;clear q q0 r1 r2 r3))
 exact a60 rfl (w.heap.size+1) a rfl (a49 (k':=a) G1.out.1) rfl ⟨rfl,G1.out.2 _ (af6 _ _ (.int .i64 a.kind) (.int .i64 a.cell) (.float .f64 a.x) (.bool a.first))⟩
theorem bE1 (h:Gm W F0 b K w m) (hT:Shaped5 w) {n:Int} {x:Nat} {m':Mac} {a:Ask} (hR:∀ W F0 w,Gm W F0 b K w m->Calls Tryz.prog 145 #[.pointer (some ⟨b,0,none⟩)] w fun r w'=>r=.returned (askV a)/\Gm W F0 b K w' m') (hF:∀ W F0 w,Gm W F0 b K w m->Shaped5 w->Calls Tryz.prog 142 #[.pointer (some ⟨b,0,none⟩),.agg #[.int .i64 15,.int .i64 n,.float .f64 x]] w fun r w'=>r=.returned (.tuple #[])/\Bl w w'):Calls Tryz.prog 135 #[.pointer (some ⟨b,0,none⟩),.agg #[.int .i64 15,.int .i64 n,.float .f64 x]] w fun r w'=>r=.returned (askV a)/\Gm W F0 b K w' m':=by
 obtain⟨F,h1,hX⟩:=h.both ⟨15,n,x⟩;have HF:=zH (hF _ _ _ h1 (a44 hT _));have HG:=zH h1;have HX:=zH hX;have HR:=zH hR;clear h h1 hX hT hF hR;go_enter Tryz.func135,Tryz.ntmps135
 go_wp2_with (first
  | (go_at_call 145;refine(HR.out _ _ _ G0.out).mono ?_;rintro e u1 ⟨rfl,q⟩;obtain⟨r1,r2,r3⟩:=HX.out _ _ q;obtain⟨⟨d0,d1,d2,d3,d4⟩,d5,d6,d7,d8⟩:=a21 r2;have G1:=zH (And.intro r2 r3);clear q r1 r2 r3;unfold askV)
  | (go_at_call 142;refine HF.out.mono ?_;rintro e u0 ⟨rfl,q⟩;have q0:=HG.out.on q;obtain⟨r1,r2,r3⟩:=HX.out _ _ q0;obtain⟨c0,c1,c2,c3⟩:=a30 r1;obtain⟨⟨k0,k1,k2,k3,k4⟩,k5,k6,k7,k8⟩:=a21 r2;have G0:=zH q0;clear q q0 r1 r2 r3))
 exact a60 rfl (w.heap.size+1) a rfl (a49 (k':=a) G1.out.1) rfl ⟨rfl,G1.out.2 _ (af6 _ _ (.int .i64 a.kind) (.int .i64 a.cell) (.float .f64 a.x) (.bool a.first))⟩
theorem aV1 (h:Gm W F0 b K w m) (hT:Shaped5 w) {n:Int} {x:Nat} {e0:Int} (hR:∀ W F0 w,Gm W F0 b K w m->Calls Tryz.prog 143 #[.pointer (some ⟨b,0,none⟩)] w fun r w'=>r=ad0 e0/\Gm W F0 b K w' m) (hF:∀ W F0 w,Gm W F0 b K w m->Shaped5 w->Calls Tryz.prog 142 #[.pointer (some ⟨b,0,none⟩),.agg #[.int .i64 16,.int .i64 n,.float .f64 x]] w fun r w'=>r=.returned (.tuple #[])/\Bl w w'):Calls Tryz.prog 135 #[.pointer (some ⟨b,0,none⟩),.agg #[.int .i64 16,.int .i64 n,.float .f64 x]] w fun r w'=>r=ad0 e0/\Gm W F0 b K w' m:=by
 obtain⟨F,h1,hX⟩:=h.both ⟨16,n,x⟩;have HF:=zH (hF _ _ _ h1 (a44 hT _));have HG:=zH h1;have HX:=zH hX;have HR:=zH hR;clear h h1 hX hT hF hR;go_enter Tryz.func135,Tryz.ntmps135
 go_wp2_with (first
  | (go_at_call 143;refine(HR.out _ _ _ G0.out).mono ?_;rintro e u1 ⟨rfl,q⟩;have G1:=zH ((HX.out _ _ q).2.2 _ (Turn.refl _ _));clear q)
  | (go_at_call 142;refine HF.out.mono ?_;rintro e u0 ⟨rfl,q⟩;have q0:=HG.out.on q;obtain⟨r1,r2,r3⟩:=HX.out _ _ q0;obtain⟨c0,c1,c2,c3⟩:=a30 r1;obtain⟨⟨k0,k1,k2,k3,k4⟩,k5,k6,k7,k8⟩:=a21 r2;have G0:=zH q0;clear q q0 r1 r2 r3))
 exact⟨rfl,rfl,G1.out⟩
theorem al2 (h:Gm W F0 b K w m) (hT:Shaped5 w) {n:Int} {x:Nat} {e0:Int} (hR:∀ W F0 w,Gm W F0 b K w m->Calls Tryz.prog 144 #[.pointer (some ⟨b,0,none⟩)] w fun r w'=>r=ad0 e0/\Gm W F0 b K w' m) (hF:∀ W F0 w,Gm W F0 b K w m->Shaped5 w->Calls Tryz.prog 142 #[.pointer (some ⟨b,0,none⟩),.agg #[.int .i64 17,.int .i64 n,.float .f64 x]] w fun r w'=>r=.returned (.tuple #[])/\Bl w w'):Calls Tryz.prog 135 #[.pointer (some ⟨b,0,none⟩),.agg #[.int .i64 17,.int .i64 n,.float .f64 x]] w fun r w'=>r=ad0 e0/\Gm W F0 b K w' m:=by
 obtain⟨F,h1,hX⟩:=h.both ⟨17,n,x⟩;have HF:=zH (hF _ _ _ h1 (a44 hT _));have HG:=zH h1;have HX:=zH hX;have HR:=zH hR;clear h h1 hX hT hF hR;go_enter Tryz.func135,Tryz.ntmps135
 go_wp2_with (first
  | (go_at_call 144;refine(HR.out _ _ _ G0.out).mono ?_;rintro e u1 ⟨rfl,q⟩;have G1:=zH ((HX.out _ _ q).2.2 _ (Turn.refl _ _));clear q)
  | (go_at_call 142;refine HF.out.mono ?_;rintro e u0 ⟨rfl,q⟩;have q0:=HG.out.on q;obtain⟨r1,r2,r3⟩:=HX.out _ _ q0;obtain⟨c0,c1,c2,c3⟩:=a30 r1;obtain⟨⟨k0,k1,k2,k3,k4⟩,k5,k6,k7,k8⟩:=a21 r2;have G0:=zH q0;clear q q0 r1 r2 r3))
 exact⟨rfl,rfl,G1.out⟩
theorem bJ5 (h:Gm W F0 b K w m) (hT:Shaped5 w) {n:Int} {x:Nat} (hF:∀ W F0 w,Gm W F0 b K w m->Shaped5 w->Calls Tryz.prog 142 #[.pointer (some ⟨b,0,none⟩),.agg #[.int .i64 19,.int .i64 n,.float .f64 x]] w fun r w'=>r=.returned (.tuple #[])/\Bl w w'):Calls Tryz.prog 135 #[.pointer (some ⟨b,0,none⟩),.agg #[.int .i64 19,.int .i64 n,.float .f64 x]] w fun r w'=>r=.returned (askV a59)/\Gm W F0 b K w' { m with how:=2,cod:=n,err:=0 }:=by
 obtain⟨F,h1,hX⟩:=h.both ⟨19,n,x⟩;have HF:=zH (hF _ _ _ h1 (a44 hT _));have HG:=zH h1;have HX:=zH hX;clear h h1 hX hT hF;go_enter Tryz.func135,Tryz.ntmps135
 go_wp2_with (first
  | (go_at_call 134;refine(as8 G0.out 2 n 0).mono ?_;rintro e u1 ⟨rfl,q⟩;obtain⟨r1,r2,r3⟩:=HX.out _ _ q;obtain⟨⟨d0,d1,d2,d3,d4⟩,d5,d6,d7,d8⟩:=a21 r2;have G1:=zH (And.intro r2 r3);clear q r1 r2 r3;unfold askV)
  | (go_at_call 142;refine HF.out.mono ?_;rintro e u0 ⟨rfl,q⟩;have q0:=HG.out.on q;obtain⟨r1,r2,r3⟩:=HX.out _ _ q0;obtain⟨c0,c1,c2,c3⟩:=a30 r1;obtain⟨⟨k0,k1,k2,k3,k4⟩,k5,k6,k7,k8⟩:=a21 r2;have G0:=zH q0;clear q q0 r1 r2 r3))
 exact a60 rfl (w.heap.size+1) a59 rfl (a49 (k':=a59) G1.out.1) rfl ⟨rfl,G1.out.2 _ (af6 _ _ (.int .i64 4) (.int .i64 0) (.float .f64 0) (.bool false))⟩
theorem bJ6 (h:Gm W F0 b K w m) (hT:Shaped5 w) {n:Int} {x:Nat} (hF:∀ W F0 w,Gm W F0 b K w m->Shaped5 w->Calls Tryz.prog 142 #[.pointer (some ⟨b,0,none⟩),.agg #[.int .i64 20,.int .i64 n,.float .f64 x]] w fun r w'=>r=.returned (.tuple #[])/\Bl w w'):Calls Tryz.prog 135 #[.pointer (some ⟨b,0,none⟩),.agg #[.int .i64 20,.int .i64 n,.float .f64 x]] w fun r w'=>r=.returned (askV a59)/\Gm W F0 b K w' { m with how:=1,cod:=0,err:=0 }:=by
 obtain⟨F,h1,hX⟩:=h.both ⟨20,n,x⟩;have HF:=zH (hF _ _ _ h1 (a44 hT _));have HG:=zH h1;have HX:=zH hX;clear h h1 hX hT hF;go_enter Tryz.func135,Tryz.ntmps135
 go_wp2_with (first
  | (go_at_call 134;refine(as8 G0.out 1 0 0).mono ?_;rintro e u1 ⟨rfl,q⟩;obtain⟨r1,r2,r3⟩:=HX.out _ _ q;obtain⟨⟨d0,d1,d2,d3,d4⟩,d5,d6,d7,d8⟩:=a21 r2;have G1:=zH (And.intro r2 r3);clear q r1 r2 r3;unfold askV)
  | (go_at_call 142;refine HF.out.mono ?_;rintro e u0 ⟨rfl,q⟩;have q0:=HG.out.on q;obtain⟨r1,r2,r3⟩:=HX.out _ _ q0;obtain⟨c0,c1,c2,c3⟩:=a30 r1;obtain⟨⟨k0,k1,k2,k3,k4⟩,k5,k6,k7,k8⟩:=a21 r2;have G0:=zH q0;clear q q0 r1 r2 r3))
 exact a60 rfl (w.heap.size+1) a59 rfl (a49 (k':=a59) G1.out.1) rfl ⟨rfl,G1.out.2 _ (af6 _ _ (.int .i64 4) (.int .i64 0) (.float .f64 0) (.bool false))⟩
theorem be4 {k:Nat} {n:Int} {x:Nat} (h:Gm W F0 b K w m) (hT:Shaped5 w) (hF:∀ W F0 w,Gm W F0 b K w m->Shaped5 w->Calls Tryz.prog 142 #[.pointer (some ⟨b,0,none⟩),.agg #[.int .i64 (k:Int),.int .i64 n,.float .f64 x]] w fun r w'=>r=ad0 82/\Bl w w'):Calls Tryz.prog 135 #[.pointer (some ⟨b,0,none⟩),.agg #[.int .i64 (k:Int),.int .i64 n,.float .f64 x]] w fun r w'=>r=ad0 82/\Gm W F0 b K w' m:=by
 obtain⟨F,h1,hX⟩:=h.both ⟨(k:Int),n,x⟩;have HF:=zH (hF _ _ _ h1 (a44 hT _));have HG:=zH h1;have HX:=zH hX;clear h h1 hX hT hF;go_enter Tryz.func135,Tryz.ntmps135
 go_wp2_with (go_at_call 142;refine HF.out.mono ?_;rintro e u0 ⟨rfl,q⟩;have G1:=zH ((HX.out _ _ (HG.out.on q)).2.2 _ (Turn.refl _ _));clear q)
 exact⟨rfl,rfl,G1.out⟩
end
def doF (m:Mac) (i:Ins):Mac × Ask:=if as2 m i then doM m i else ah8 m 82
theorem st1 {l:List Nat} (h:1<=l.length):∃ y s,l=y::s:=by
 match l,h with
 | y::s,_=>exact⟨y,s,rfl⟩
theorem st2 {l:List Nat} (h:2<=l.length):∃ y z s,l=y::z::s:=by
 match l,h with
 | y::z::s,_=>exact⟨y,z,s,rfl⟩
 | [y],h=>exact absurd h (by simp)
theorem aA9 {m:Mac} {k:Nat} {n:Int} {x:Nat} (h:as2 m ⟨k,n,x⟩=true):(k≠5->(shp k).takes<=(m.st.length:Int))/\(k=5->n+1<=(m.st.length:Int))/\(m.st.length:Int) - (shp k).takes+(shp k).lays<=64/\(k=14->m.calls.length<16):=by
 unfold as2 b59 aT1 bv4 at h;simp only[Int.toNat_natCast,Bool.and_eq_true,decide_eq_true_eq,Bool.not_eq_true',Bool.and_eq_false_iff,decide_eq_false_iff_not]at h;obtain⟨⟨h1,h2⟩,h3⟩:=h;refine⟨fun hk=>?_,fun hk=>?_,h2,fun hk=>?_⟩
 ·rw[if_neg (by omega)]at h1
  exact h1
 ·rw[if_pos (by omega)]at h1
  exact h1
 ·rcases h3 with h3 | h3
  ·exact absurd (by omega) h3
  ·omega
theorem aj4 {k:Nat} {n:Int} {x many:Nat} (h:mayB ⟨k,n,x⟩ many=true):(1<=k/\k<21)/\(shp k).lo<=n/\n<=(shp k).hi:=by
 unfold mayB ab2 az4 at h;simp only[Bool.and_eq_true,decide_eq_true_eq,Int.toNat_natCast]at h;omega
theorem ao8 {m:Mac} (h:m.calls=[]):retM m=({ m with how:=1,cod:=0,err:=0 },a59):=by
 unfold retM
 split
 ·rfl
 ·rename_i q;rw[h]at q;cases q
theorem ai6 {m:Mac} {c:Int} {r:List Int} (h:m.calls=c::r):retM m=({ m with calls:=r,place:=c },ask0):=by
 unfold retM
 split
 ·rename_i q;rw[h]at q;cases q
 ·rename_i q;rw[h]at q;cases q;rfl
section
variable {W w:World} {b:Nat} {F0 K:List Nat} {m:Mac}
theorem bJ7 (h:Gm W F0 b K w m) (hT:Shaped5 w) {n:Int} {x:Nat} (_hlo:(shp 1).lo<=n) (_hhi:n<=(shp 1).hi) (_hst:∀ x∈m.st,okN x) (_hcl:m.cells<=256) (_hre:m.reads.length<=1024) (_hou:m.out.length<=1024)
  (hF:∀ W F0 w,Gm W F0 b K w m->Shaped5 w->Calls Tryz.prog 142 #[.pointer (some ⟨b,0,none⟩),.agg #[.int .i64 ((1:Nat):Int),.int .i64 n,.float .f64 x]] w fun r w'=>r=.returned (.tuple #[])/\Bl w w')
  (_r1:1≠5->(shp 1).takes<=(m.st.length:Int)) (_r2:1=5->n+1<=(m.st.length:Int)) (r3:(m.st.length:Int) - (shp 1).takes+(shp 1).lays<=64) (_r4:1=14->m.calls.length<16) :
  Calls Tryz.prog 135 #[.pointer (some ⟨b,0,none⟩),.agg #[.int .i64 ((1:Nat):Int),.int .i64 n,.float .f64 x]] w fun r w'=>Done W F0 b K m (doM m ⟨((1:Nat):Int),n,x⟩) r w':=by
 change (m.st.length:Int) - 0+1<=64 at r3
 exact(do_A h hT (k:=1) (by omega) (by omega) (by omega) (by omega) (by omega) (by omega) (by omega) (by omega) (by omega) (fun W F0 w h=>bk5 h n x (by omega)) hF).mono fun r w' ⟨a1,a2⟩=>.inr ⟨a1,by rw[show (doM m ⟨(1:Nat),n,x⟩).1={ m with st:=fixB x::m.st } from rfl];exact a2⟩
theorem bJ8 (h:Gm W F0 b K w m) (hT:Shaped5 w) {n:Int} {x:Nat} (_hlo:(shp 2).lo<=n) (_hhi:n<=(shp 2).hi) (_hst:∀ x∈m.st,okN x) (_hcl:m.cells<=256) (_hre:m.reads.length<=1024) (_hou:m.out.length<=1024)
  (hF:∀ W F0 w,Gm W F0 b K w m->Shaped5 w->Calls Tryz.prog 142 #[.pointer (some ⟨b,0,none⟩),.agg #[.int .i64 ((2:Nat):Int),.int .i64 n,.float .f64 x]] w fun r w'=>r=.returned (.tuple #[])/\Bl w w')
  (r1:2≠5->(shp 2).takes<=(m.st.length:Int)) (_r2:2=5->n+1<=(m.st.length:Int)) (_r3:(m.st.length:Int) - (shp 2).takes+(shp 2).lays<=64) (_r4:2=14->m.calls.length<16) :
  Calls Tryz.prog 135 #[.pointer (some ⟨b,0,none⟩),.agg #[.int .i64 ((2:Nat):Int),.int .i64 n,.float .f64 x]] w fun r w'=>Done W F0 b K m (doM m ⟨((2:Nat):Int),n,x⟩) r w':=by
 obtain⟨y,s,hs⟩:=st1 (l:=m.st) (by have:=r1 (by omega);change (1:Int)<=_ at this;omega);exact(do_A h hT (k:=2) (by omega) (by omega) (by omega) (by omega) (by omega) (by omega) (by omega) (by omega) (by omega) (fun W F0 w h=>bk6 h n x hs) hF).mono fun r w' ⟨a1,a2⟩=>.inr ⟨a1,by rw[show (doM m ⟨(2:Nat),n,x⟩).1={ m with st:=s } from by show ({ m with st:=m.st.drop 1 }:Mac)=_;rw[hs];rfl];exact a2⟩
theorem bJ9 (h:Gm W F0 b K w m) (hT:Shaped5 w) {n:Int} {x:Nat} (_hlo:(shp 3).lo<=n) (_hhi:n<=(shp 3).hi) (_hst:∀ x∈m.st,okN x) (_hcl:m.cells<=256) (_hre:m.reads.length<=1024) (_hou:m.out.length<=1024)
  (hF:∀ W F0 w,Gm W F0 b K w m->Shaped5 w->Calls Tryz.prog 142 #[.pointer (some ⟨b,0,none⟩),.agg #[.int .i64 ((3:Nat):Int),.int .i64 n,.float .f64 x]] w fun r w'=>r=.returned (.tuple #[])/\Bl w w')
  (r1:3≠5->(shp 3).takes<=(m.st.length:Int)) (_r2:3=5->n+1<=(m.st.length:Int)) (r3:(m.st.length:Int) - (shp 3).takes+(shp 3).lays<=64) (_r4:3=14->m.calls.length<16) :
  Calls Tryz.prog 135 #[.pointer (some ⟨b,0,none⟩),.agg #[.int .i64 ((3:Nat):Int),.int .i64 n,.float .f64 x]] w fun r w'=>Done W F0 b K m (doM m ⟨((3:Nat):Int),n,x⟩) r w':=by
 change (m.st.length:Int) - 1+2<=64 at r3
 have r0:=r1 (by omega)
 change (1:Int)<=_ at r0
 exact(do_A h hT (k:=3) (by omega) (by omega) (by omega) (by omega) (by omega) (by omega) (by omega) (by omega) (by omega) (fun W F0 w h=>bk7 h n x (by omega) (by omega)) hF).mono fun r w' ⟨a1,a2⟩=>.inr ⟨a1,by rw[show (doM m ⟨(3:Nat),n,x⟩).1={ m with st:=m.st.getD 0 0::m.st } from rfl];exact a2⟩
theorem bK0 (h:Gm W F0 b K w m) (hT:Shaped5 w) {n:Int} {x:Nat} (_hlo:(shp 4).lo<=n) (_hhi:n<=(shp 4).hi) (_hst:∀ x∈m.st,okN x) (_hcl:m.cells<=256) (_hre:m.reads.length<=1024) (_hou:m.out.length<=1024)
  (hF:∀ W F0 w,Gm W F0 b K w m->Shaped5 w->Calls Tryz.prog 142 #[.pointer (some ⟨b,0,none⟩),.agg #[.int .i64 ((4:Nat):Int),.int .i64 n,.float .f64 x]] w fun r w'=>r=.returned (.tuple #[])/\Bl w w')
  (r1:4≠5->(shp 4).takes<=(m.st.length:Int)) (_r2:4=5->n+1<=(m.st.length:Int)) (r3:(m.st.length:Int) - (shp 4).takes+(shp 4).lays<=64) (_r4:4=14->m.calls.length<16) :
  Calls Tryz.prog 135 #[.pointer (some ⟨b,0,none⟩),.agg #[.int .i64 ((4:Nat):Int),.int .i64 n,.float .f64 x]] w fun r w'=>Done W F0 b K m (doM m ⟨((4:Nat):Int),n,x⟩) r w':=by
 obtain⟨y,z,s,hs⟩:=st2 (l:=m.st) (by have:=r1 (by omega);change (2:Int)<=_ at this;omega)
 change (m.st.length:Int) - 2+2<=64 at r3
 exact(do_A h hT (k:=4) (by omega) (by omega) (by omega) (by omega) (by omega) (by omega) (by omega) (by omega) (by omega) (fun W F0 w h=>bk8 h n x hs (by rw[hs]at r3;simp at r3;omega)) hF).mono fun r w' ⟨a1,a2⟩=>.inr ⟨a1,by rw[show (doM m ⟨(4:Nat),n,x⟩).1={ m with st:=z::y::s } from by show ({ m with st:=m.st.getD 1 0::m.st.getD 0 0::m.st.drop 2 }:Mac)=_;rw[hs];rfl];exact a2⟩
theorem bK1 (h:Gm W F0 b K w m) (hT:Shaped5 w) {n:Int} {x:Nat} (hlo:(shp 5).lo<=n) (_hhi:n<=(shp 5).hi) (_hst:∀ x∈m.st,okN x) (_hcl:m.cells<=256) (_hre:m.reads.length<=1024) (_hou:m.out.length<=1024)
  (hF:∀ W F0 w,Gm W F0 b K w m->Shaped5 w->Calls Tryz.prog 142 #[.pointer (some ⟨b,0,none⟩),.agg #[.int .i64 ((5:Nat):Int),.int .i64 n,.float .f64 x]] w fun r w'=>r=.returned (.tuple #[])/\Bl w w')
  (_r1:5≠5->(shp 5).takes<=(m.st.length:Int)) (r2:5=5->n+1<=(m.st.length:Int)) (r3:(m.st.length:Int) - (shp 5).takes+(shp 5).lays<=64) (_r4:5=14->m.calls.length<16) :
  Calls Tryz.prog 135 #[.pointer (some ⟨b,0,none⟩),.agg #[.int .i64 ((5:Nat):Int),.int .i64 n,.float .f64 x]] w fun r w'=>Done W F0 b K m (doM m ⟨((5:Nat):Int),n,x⟩) r w':=by
 obtain⟨q,rfl⟩:∃ q:Nat,n=q:=⟨n.toNat,by change (0:Int)<=n at hlo;omega⟩
 change (m.st.length:Int) - 0+1<=64 at r3
 have r0:=r2 rfl;exact(do_A h hT (k:=5) (by omega) (by omega) (by omega) (by omega) (by omega) (by omega) (by omega) (by omega) (by omega) (fun W F0 w h=>bk9 h _ x rfl (by omega) (by omega)) hF).mono fun r w' ⟨a1,a2⟩=>.inr ⟨a1,by rw[show (doM m ⟨(5:Nat),(q:Int),x⟩).1={ m with st:=m.st.getD q 0::m.st } from rfl];exact a2⟩
theorem bK2 (h:Gm W F0 b K w m) (hT:Shaped5 w) {n:Int} {x:Nat} (hlo:(shp 6).lo<=n) (hhi:n<=(shp 6).hi) (_hst:∀ x∈m.st,okN x) (_hcl:m.cells<=256) (_hre:m.reads.length<=1024) (_hou:m.out.length<=1024)
  (hF:∀ W F0 w,Gm W F0 b K w m->Shaped5 w->Calls Tryz.prog 142 #[.pointer (some ⟨b,0,none⟩),.agg #[.int .i64 ((6:Nat):Int),.int .i64 n,.float .f64 x]] w fun r w'=>r=.returned (.tuple #[])/\Bl w w')
  (_r1:6≠5->(shp 6).takes<=(m.st.length:Int)) (_r2:6=5->n+1<=(m.st.length:Int)) (r3:(m.st.length:Int) - (shp 6).takes+(shp 6).lays<=64) (_r4:6=14->m.calls.length<16) :
  Calls Tryz.prog 135 #[.pointer (some ⟨b,0,none⟩),.agg #[.int .i64 ((6:Nat):Int),.int .i64 n,.float .f64 x]] w fun r w'=>Done W F0 b K m (doM m ⟨((6:Nat):Int),n,x⟩) r w':=by
 obtain⟨q,rfl⟩:∃ q:Nat,n=q:=⟨n.toNat,by change (0:Int)<=n at hlo;omega⟩
 change _<=(7:Int) at hhi
 change (m.st.length:Int) - 0+1<=64 at r3
 exact(do_A h hT (k:=6) (by omega) (by omega) (by omega) (by omega) (by omega) (by omega) (by omega) (by omega) (by omega) (fun W F0 w h=>bl0 h _ x rfl (by omega) (by omega)) hF).mono fun r w' ⟨a1,a2⟩=>.inr ⟨a1,by rw[show (doM m ⟨(6:Nat),(q:Int),x⟩).1={ m with st:=m.args q::m.st } from rfl];exact a2⟩
theorem bK3 (h:Gm W F0 b K w m) (hT:Shaped5 w) {n:Int} {x:Nat} (hlo:(shp 7).lo<=n) (hhi:n<=(shp 7).hi) (_hst:∀ x∈m.st,okN x) (_hcl:m.cells<=256) (_hre:m.reads.length<=1024) (_hou:m.out.length<=1024)
  (hF:∀ W F0 w,Gm W F0 b K w m->Shaped5 w->Calls Tryz.prog 142 #[.pointer (some ⟨b,0,none⟩),.agg #[.int .i64 ((7:Nat):Int),.int .i64 n,.float .f64 x]] w fun r w'=>r=.returned (.tuple #[])/\Bl w w')
  (_r1:7≠5->(shp 7).takes<=(m.st.length:Int)) (_r2:7=5->n+1<=(m.st.length:Int)) (r3:(m.st.length:Int) - (shp 7).takes+(shp 7).lays<=64) (_r4:7=14->m.calls.length<16) :
  Calls Tryz.prog 135 #[.pointer (some ⟨b,0,none⟩),.agg #[.int .i64 ((7:Nat):Int),.int .i64 n,.float .f64 x]] w fun r w'=>Done W F0 b K m (doM m ⟨((7:Nat):Int),n,x⟩) r w':=by
 obtain⟨q,rfl⟩:∃ q:Nat,n=q:=⟨n.toNat,by change (0:Int)<=n at hlo;omega⟩
 change _<=(7:Int) at hhi
 change (m.st.length:Int) - 0+1<=64 at r3
 exact(do_A h hT (k:=7) (by omega) (by omega) (by omega) (by omega) (by omega) (by omega) (by omega) (by omega) (by omega) (fun W F0 w h=>bl1 h _ x rfl (by omega) (by omega)) hF).mono fun r w' ⟨a1,a2⟩=>.inr ⟨a1,by rw[show (doM m ⟨(7:Nat),(q:Int),x⟩).1={ m with st:=m.loc q::m.st } from rfl];exact a2⟩
theorem bK4 (h:Gm W F0 b K w m) (hT:Shaped5 w) {n:Int} {x:Nat} (hlo:(shp 8).lo<=n) (hhi:n<=(shp 8).hi) (_hst:∀ x∈m.st,okN x) (_hcl:m.cells<=256) (_hre:m.reads.length<=1024) (_hou:m.out.length<=1024)
  (hF:∀ W F0 w,Gm W F0 b K w m->Shaped5 w->Calls Tryz.prog 142 #[.pointer (some ⟨b,0,none⟩),.agg #[.int .i64 ((8:Nat):Int),.int .i64 n,.float .f64 x]] w fun r w'=>r=.returned (.tuple #[])/\Bl w w')
  (r1:8≠5->(shp 8).takes<=(m.st.length:Int)) (_r2:8=5->n+1<=(m.st.length:Int)) (_r3:(m.st.length:Int) - (shp 8).takes+(shp 8).lays<=64) (_r4:8=14->m.calls.length<16) :
  Calls Tryz.prog 135 #[.pointer (some ⟨b,0,none⟩),.agg #[.int .i64 ((8:Nat):Int),.int .i64 n,.float .f64 x]] w fun r w'=>Done W F0 b K m (doM m ⟨((8:Nat):Int),n,x⟩) r w':=by
 obtain⟨q,rfl⟩:∃ q:Nat,n=q:=⟨n.toNat,by change (0:Int)<=n at hlo;omega⟩
 change _<=(7:Int) at hhi
 obtain⟨y,s,hs⟩:=st1 (l:=m.st) (by have:=r1 (by omega);change (1:Int)<=_ at this;omega);exact(do_A h hT (k:=8) (by omega) (by omega) (by omega) (by omega) (by omega) (by omega) (by omega) (by omega) (by omega) (fun W F0 w h=>bl2 h _ x rfl (by omega) hs) hF).mono fun r w' ⟨a1,a2⟩=>.inr ⟨a1,by rw[show (doM m ⟨(8:Nat),(q:Int),x⟩).1={ m with loc:=updF m.loc q y,st:=s } from by show ({ m with loc:=updF m.loc q (m.st.getD 0 0),st:=m.st.drop 1 }:Mac)=_;rw[hs];rfl];exact a2⟩
theorem bK5 (h:Gm W F0 b K w m) (hT:Shaped5 w) {n:Int} {x:Nat} (hlo:(shp 9).lo<=n) (hhi:n<=(shp 9).hi) (hst:∀ x∈m.st,okN x) (_hcl:m.cells<=256) (_hre:m.reads.length<=1024) (_hou:m.out.length<=1024)
  (hF:∀ W F0 w,Gm W F0 b K w m->Shaped5 w->Calls Tryz.prog 142 #[.pointer (some ⟨b,0,none⟩),.agg #[.int .i64 ((9:Nat):Int),.int .i64 n,.float .f64 x]] w fun r w'=>r=.returned (.tuple #[])/\Bl w w')
  (r1:9≠5->(shp 9).takes<=(m.st.length:Int)) (_r2:9=5->n+1<=(m.st.length:Int)) (r3:(m.st.length:Int) - (shp 9).takes+(shp 9).lays<=64) (_r4:9=14->m.calls.length<16) :
  Calls Tryz.prog 135 #[.pointer (some ⟨b,0,none⟩),.agg #[.int .i64 ((9:Nat):Int),.int .i64 n,.float .f64 x]] w fun r w'=>Done W F0 b K m (doM m ⟨((9:Nat):Int),n,x⟩) r w':=by
 change _<=(8:Int) at hhi
 change (1:Int)<=_ at hlo
 obtain⟨y,s,hs⟩:=st1 (l:=m.st) (by have:=r1 (by omega);change (1:Int)<=_ at this;omega)
 change (m.st.length:Int) - 1+1<=64 at r3
 exact(do_A h hT (k:=9) (by omega) (by omega) (by omega) (by omega) (by omega) (by omega) (by omega) (by omega) (by omega) (fun W F0 w h=>bl3 h n x ⟨hlo,hhi⟩ (hst y (by rw[hs];simp)) hs (by rw[hs]at r3;simp at r3;omega)) hF).mono fun r w' ⟨a1,a2⟩=>.inr ⟨a1,by rw[show (doM m ⟨(9:Nat),n,x⟩).1={ m with st:=oneV n y::s } from by show ({ m with st:=oneV n (m.st.getD 0 0)::m.st.drop 1 }:Mac)=_;rw[hs];rfl];exact a2⟩
theorem bD0 (h:Gm W F0 b K w m) (hT:Shaped5 w) {n:Int} {x:Nat} (hlo:(shp 10).lo<=n) (hhi:n<=(shp 10).hi) (hst:∀ x∈m.st,okN x) (_hcl:m.cells<=256) (_hre:m.reads.length<=1024) (_hou:m.out.length<=1024)
  (hF:∀ W F0 w,Gm W F0 b K w m->Shaped5 w->Calls Tryz.prog 142 #[.pointer (some ⟨b,0,none⟩),.agg #[.int .i64 ((10:Nat):Int),.int .i64 n,.float .f64 x]] w fun r w'=>r=.returned (.tuple #[])/\Bl w w')
  (r1:10≠5->(shp 10).takes<=(m.st.length:Int)) (_r2:10=5->n+1<=(m.st.length:Int)) (r3:(m.st.length:Int) - (shp 10).takes+(shp 10).lays<=64) (_r4:10=14->m.calls.length<16) :
  Calls Tryz.prog 135 #[.pointer (some ⟨b,0,none⟩),.agg #[.int .i64 ((10:Nat):Int),.int .i64 n,.float .f64 x]] w fun r w'=>Done W F0 b K m (doM m ⟨((10:Nat):Int),n,x⟩) r w':=by
 change _<=(12:Int) at hhi
 change (1:Int)<=_ at hlo
 obtain⟨y,z,s,hs⟩:=st2 (l:=m.st) (by have:=r1 (by omega);change (2:Int)<=_ at this;omega)
 change (m.st.length:Int) - 2+1<=64 at r3
 exact(do_A h hT (k:=10) (by omega) (by omega) (by omega) (by omega) (by omega) (by omega) (by omega) (by omega) (by omega) (fun W F0 w h=>b89 h n x ⟨hlo,hhi⟩ (hst y (by rw[hs];simp)) (hst z (by rw[hs];simp)) hs (by rw[hs]at r3;simp at r3;omega)) hF).mono fun r w' ⟨a1,a2⟩=>.inr ⟨a1,by rw[show (doM m ⟨(10:Nat),n,x⟩).1={ m with st:=twoV n z y::s } from by show ({ m with st:=twoV n (m.st.getD 1 0) (m.st.getD 0 0)::m.st.drop 2 }:Mac)=_;rw[hs];rfl];exact a2⟩
theorem bD1 (h:Gm W F0 b K w m) (hT:Shaped5 w) {n:Int} {x:Nat} (_hlo:(shp 11).lo<=n) (_hhi:n<=(shp 11).hi) (_hst:∀ x∈m.st,okN x) (_hcl:m.cells<=256) (_hre:m.reads.length<=1024) (_hou:m.out.length<=1024)
  (hF:∀ W F0 w,Gm W F0 b K w m->Shaped5 w->Calls Tryz.prog 142 #[.pointer (some ⟨b,0,none⟩),.agg #[.int .i64 ((11:Nat):Int),.int .i64 n,.float .f64 x]] w fun r w'=>r=.returned (.tuple #[])/\Bl w w')
  (_r1:11≠5->(shp 11).takes<=(m.st.length:Int)) (_r2:11=5->n+1<=(m.st.length:Int)) (_r3:(m.st.length:Int) - (shp 11).takes+(shp 11).lays<=64) (_r4:11=14->m.calls.length<16) :
  Calls Tryz.prog 135 #[.pointer (some ⟨b,0,none⟩),.agg #[.int .i64 ((11:Nat):Int),.int .i64 n,.float .f64 x]] w fun r w'=>Done W F0 b K m (doM m ⟨((11:Nat):Int),n,x⟩) r w':=by
 exact(bC7 h hT (fun W F0 w h=>bw1 h n x) hF).mono fun r w' ⟨a1,a2⟩=>.inr ⟨a1,by rw[show (doM m ⟨(11:Nat),n,x⟩).1={ m with place:=n } from rfl];exact a2⟩
theorem bD2 (h:Gm W F0 b K w m) (hT:Shaped5 w) {n:Int} {x:Nat} (_hlo:(shp 12).lo<=n) (_hhi:n<=(shp 12).hi) (_hst:∀ x∈m.st,okN x) (_hcl:m.cells<=256) (_hre:m.reads.length<=1024) (_hou:m.out.length<=1024)
  (hF:∀ W F0 w,Gm W F0 b K w m->Shaped5 w->Calls Tryz.prog 142 #[.pointer (some ⟨b,0,none⟩),.agg #[.int .i64 ((12:Nat):Int),.int .i64 n,.float .f64 x]] w fun r w'=>r=.returned (.tuple #[])/\Bl w w')
  (r1:12≠5->(shp 12).takes<=(m.st.length:Int)) (_r2:12=5->n+1<=(m.st.length:Int)) (_r3:(m.st.length:Int) - (shp 12).takes+(shp 12).lays<=64) (_r4:12=14->m.calls.length<16) :
  Calls Tryz.prog 135 #[.pointer (some ⟨b,0,none⟩),.agg #[.int .i64 ((12:Nat):Int),.int .i64 n,.float .f64 x]] w fun r w'=>Done W F0 b K m (doM m ⟨((12:Nat):Int),n,x⟩) r w':=by
 obtain⟨y,s,hs⟩:=st1 (l:=m.st) (by have:=r1 (by omega);change (1:Int)<=_ at this;omega)
 cases ht:a95 y with
 | true=>exact(bq0 h hT (fun W F0 w h=>bi1 h n x hs ht) hF).mono fun r w' ⟨a1,a2⟩=>.inr ⟨a1,by rw[show (doM m ⟨(12:Nat),n,x⟩).1={ m with place:=n,st:=s } from by show ({ m with place:=if a95 (m.st.getD 0 0) then n else m.place,st:=m.st.drop 1 }:Mac)=_;rw[hs];simp[ht]];exact a2⟩
 | false=>exact(bq0 h hT (fun W F0 w h=>bi0 h n x hs ht) hF).mono fun r w' ⟨a1,a2⟩=>.inr ⟨a1,by rw[show (doM m ⟨(12:Nat),n,x⟩).1={ m with st:=s } from by show ({ m with place:=if a95 (m.st.getD 0 0) then n else m.place,st:=m.st.drop 1 }:Mac)=_;rw[hs];simp[ht]];exact a2⟩
theorem bD3 (h:Gm W F0 b K w m) (hT:Shaped5 w) {n:Int} {x:Nat} (_hlo:(shp 13).lo<=n) (_hhi:n<=(shp 13).hi) (_hst:∀ x∈m.st,okN x) (_hcl:m.cells<=256) (_hre:m.reads.length<=1024) (_hou:m.out.length<=1024)
  (hF:∀ W F0 w,Gm W F0 b K w m->Shaped5 w->Calls Tryz.prog 142 #[.pointer (some ⟨b,0,none⟩),.agg #[.int .i64 ((13:Nat):Int),.int .i64 n,.float .f64 x]] w fun r w'=>r=.returned (.tuple #[])/\Bl w w')
  (r1:13≠5->(shp 13).takes<=(m.st.length:Int)) (_r2:13=5->n+1<=(m.st.length:Int)) (_r3:(m.st.length:Int) - (shp 13).takes+(shp 13).lays<=64) (_r4:13=14->m.calls.length<16) :
  Calls Tryz.prog 135 #[.pointer (some ⟨b,0,none⟩),.agg #[.int .i64 ((13:Nat):Int),.int .i64 n,.float .f64 x]] w fun r w'=>Done W F0 b K m (doM m ⟨((13:Nat):Int),n,x⟩) r w':=by
 obtain⟨y,s,hs⟩:=st1 (l:=m.st) (by have:=r1 (by omega);change (1:Int)<=_ at this;omega)
 cases ht:a95 y with
 | true=>exact(bq1 h hT (fun W F0 w h=>bi3 h n x hs ht) hF).mono fun r w' ⟨a1,a2⟩=>.inr ⟨a1,by rw[show (doM m ⟨(13:Nat),n,x⟩).1={ m with st:=s } from by show ({ m with place:=if a95 (m.st.getD 0 0) then m.place else n,st:=m.st.drop 1 }:Mac)=_;rw[hs];simp[ht]];exact a2⟩
 | false=>exact(bq1 h hT (fun W F0 w h=>bi2 h n x hs ht) hF).mono fun r w' ⟨a1,a2⟩=>.inr ⟨a1,by rw[show (doM m ⟨(13:Nat),n,x⟩).1={ m with place:=n,st:=s } from by show ({ m with place:=if a95 (m.st.getD 0 0) then m.place else n,st:=m.st.drop 1 }:Mac)=_;rw[hs];simp[ht]];exact a2⟩
theorem bD4 (h:Gm W F0 b K w m) (hT:Shaped5 w) {n:Int} {x:Nat} (_hlo:(shp 14).lo<=n) (_hhi:n<=(shp 14).hi) (_hst:∀ x∈m.st,okN x) (_hcl:m.cells<=256) (_hre:m.reads.length<=1024) (_hou:m.out.length<=1024)
  (hF:∀ W F0 w,Gm W F0 b K w m->Shaped5 w->Calls Tryz.prog 142 #[.pointer (some ⟨b,0,none⟩),.agg #[.int .i64 ((14:Nat):Int),.int .i64 n,.float .f64 x]] w fun r w'=>r=.returned (.tuple #[])/\Bl w w')
  (_r1:14≠5->(shp 14).takes<=(m.st.length:Int)) (_r2:14=5->n+1<=(m.st.length:Int)) (_r3:(m.st.length:Int) - (shp 14).takes+(shp 14).lays<=64) (r4:14=14->m.calls.length<16) :
  Calls Tryz.prog 135 #[.pointer (some ⟨b,0,none⟩),.agg #[.int .i64 ((14:Nat):Int),.int .i64 n,.float .f64 x]] w fun r w'=>Done W F0 b K m (doM m ⟨((14:Nat):Int),n,x⟩) r w':=by
 exact(bC8 h hT (fun W F0 w h=>bw2 h n x (r4 rfl)) hF).mono fun r w' ⟨a1,a2⟩=>.inr ⟨a1,by rw[show (doM m ⟨(14:Nat),n,x⟩).1={ m with calls:=m.place::m.calls,place:=n } from rfl];exact a2⟩
theorem bD5 (h:Gm W F0 b K w m) (hT:Shaped5 w) {n:Int} {x:Nat} (_hlo:(shp 15).lo<=n) (_hhi:n<=(shp 15).hi) (_hst:∀ x∈m.st,okN x) (_hcl:m.cells<=256) (_hre:m.reads.length<=1024) (_hou:m.out.length<=1024)
  (hF:∀ W F0 w,Gm W F0 b K w m->Shaped5 w->Calls Tryz.prog 142 #[.pointer (some ⟨b,0,none⟩),.agg #[.int .i64 ((15:Nat):Int),.int .i64 n,.float .f64 x]] w fun r w'=>r=.returned (.tuple #[])/\Bl w w')
  (_r1:15≠5->(shp 15).takes<=(m.st.length:Int)) (_r2:15=5->n+1<=(m.st.length:Int)) (_r3:(m.st.length:Int) - (shp 15).takes+(shp 15).lays<=64) (_r4:15=14->m.calls.length<16) :
  Calls Tryz.prog 135 #[.pointer (some ⟨b,0,none⟩),.agg #[.int .i64 ((15:Nat):Int),.int .i64 n,.float .f64 x]] w fun r w'=>Done W F0 b K m (doM m ⟨((15:Nat):Int),n,x⟩) r w':=by
 refine(bE1 h hT (m':=(retM m).1) (a:=(retM m).2) (fun W F0 w h=>?_) hF).mono fun r w' ⟨a1,a2⟩=>.inr ⟨a1,a2⟩
 cases hc:m.calls with
 | nil=>exact(by3 h hc).mono fun r w' ⟨a1,a2⟩=>⟨by rw[a1,ao8 hc],by rw[ao8 hc];exact a2⟩
 | cons c q=>exact(bl5 h hc).mono fun r w' ⟨a1,a2⟩=>⟨by rw[a1,ai6 hc],by rw[ai6 hc];exact a2⟩
theorem bD6 (h:Gm W F0 b K w m) (hT:Shaped5 w) {n:Int} {x:Nat} (_hlo:(shp 16).lo<=n) (_hhi:n<=(shp 16).hi) (_hst:∀ x∈m.st,okN x) (hcl:m.cells<=256) (hre:m.reads.length<=1024) (_hou:m.out.length<=1024)
  (hF:∀ W F0 w,Gm W F0 b K w m->Shaped5 w->Calls Tryz.prog 142 #[.pointer (some ⟨b,0,none⟩),.agg #[.int .i64 ((16:Nat):Int),.int .i64 n,.float .f64 x]] w fun r w'=>r=.returned (.tuple #[])/\Bl w w')
  (r1:16≠5->(shp 16).takes<=(m.st.length:Int)) (_r2:16=5->n+1<=(m.st.length:Int)) (r3:(m.st.length:Int) - (shp 16).takes+(shp 16).lays<=64) (_r4:16=14->m.calls.length<16) :
  Calls Tryz.prog 135 #[.pointer (some ⟨b,0,none⟩),.agg #[.int .i64 ((16:Nat):Int),.int .i64 n,.float .f64 x]] w fun r w'=>Done W F0 b K m (doM m ⟨((16:Nat):Int),n,x⟩) r w':=by
 obtain⟨y,s,hs⟩:=st1 (l:=m.st) (by have:=r1 (by omega);change (1:Int)<=_ at this;omega)
 change (m.st.length:Int) - 1+1<=64 at r3
 have hl:s.length<64:=by rw[hs]at r3;simp at r3;omega
 cases ha:ae6 m with
 | false=>exact(aV1 h hT (e0:=50) (fun W F0 w h=>by1 h (by rw[hs];simp) ha) hF).mono fun r w' ⟨a1,a2⟩=>.inl ⟨50,by show af3 m=_;unfold af3;rw[ha];rfl,a1,a2⟩
 | true =>
  cases hh:hasC m.buf (addrV m) with
  | false=>exact(b26 h hT (fun W F0 w h=>b87 h hs hcl ha hh) hF).mono fun r w' ⟨a1,a2⟩=>.inr ⟨a1,a2⟩
  | true=>exact(b26 h hT (fun W F0 w h=>bk3 h hs hl hre hcl ha hh) hF).mono fun r w' ⟨a1,a2⟩=>.inr ⟨a1,a2⟩
theorem bD7 (h:Gm W F0 b K w m) (hT:Shaped5 w) {n:Int} {x:Nat} (_hlo:(shp 17).lo<=n) (_hhi:n<=(shp 17).hi) (hst:∀ x∈m.st,okN x) (hcl:m.cells<=256) (_hre:m.reads.length<=1024) (_hou:m.out.length<=1024)
  (hF:∀ W F0 w,Gm W F0 b K w m->Shaped5 w->Calls Tryz.prog 142 #[.pointer (some ⟨b,0,none⟩),.agg #[.int .i64 ((17:Nat):Int),.int .i64 n,.float .f64 x]] w fun r w'=>r=.returned (.tuple #[])/\Bl w w')
  (r1:17≠5->(shp 17).takes<=(m.st.length:Int)) (_r2:17=5->n+1<=(m.st.length:Int)) (_r3:(m.st.length:Int) - (shp 17).takes+(shp 17).lays<=64) (_r4:17=14->m.calls.length<16) :
  Calls Tryz.prog 135 #[.pointer (some ⟨b,0,none⟩),.agg #[.int .i64 ((17:Nat):Int),.int .i64 n,.float .f64 x]] w fun r w'=>Done W F0 b K m (doM m ⟨((17:Nat):Int),n,x⟩) r w':=by
 obtain⟨y,z,s,hs⟩:=st2 (l:=m.st) (by have:=r1 (by omega);change (2:Int)<=_ at this;omega);have hz:=hst z (by rw[hs];simp)
 cases hu:m.upd with
 | false=>exact(al2 h hT (e0:=81) (fun W F0 w h=>bp1 h hu) hF).mono fun r w' ⟨a1,a2⟩=>.inl ⟨81,by show a86 m=_;unfold a86;rw[hu];rfl,a1,a2⟩
 | true =>
  cases ha:ae6 m with
  | false=>exact(al2 h hT (e0:=50) (fun W F0 w h=>bo9 h (by rw[hs];simp) hu ha) hF).mono fun r w' ⟨a1,a2⟩=>.inl ⟨50,by show a86 m=_;unfold a86;rw[hu,ha];rfl,a1,a2⟩
  | true =>
   cases hp:mayP m.wmax m.buf (addrV m) with
   | false=>exact(al2 h hT (e0:=70) (fun W F0 w h=>aZ0 h hs hz hcl hu ha hp) hF).mono fun r w' ⟨a1,a2⟩=>.inl ⟨70,by show a86 m=_;unfold a86;rw[hu,ha,hp];rfl,a1,a2⟩
   | true=>exact(be5 h hT (fun W F0 w h=>bp0 h hs hz hcl hu ha hp) hF).mono fun r w' ⟨a1,a2⟩=>.inr ⟨a1,a2⟩
theorem bD8 (h:Gm W F0 b K w m) (hT:Shaped5 w) {n:Int} {x:Nat} (_hlo:(shp 18).lo<=n) (_hhi:n<=(shp 18).hi) (_hst:∀ x∈m.st,okN x) (_hcl:m.cells<=256) (_hre:m.reads.length<=1024) (hou:m.out.length<=1024)
  (hF:∀ W F0 w,Gm W F0 b K w m->Shaped5 w->Calls Tryz.prog 142 #[.pointer (some ⟨b,0,none⟩),.agg #[.int .i64 ((18:Nat):Int),.int .i64 n,.float .f64 x]] w fun r w'=>r=.returned (.tuple #[])/\Bl w w')
  (r1:18≠5->(shp 18).takes<=(m.st.length:Int)) (_r2:18=5->n+1<=(m.st.length:Int)) (_r3:(m.st.length:Int) - (shp 18).takes+(shp 18).lays<=64) (_r4:18=14->m.calls.length<16) :
  Calls Tryz.prog 135 #[.pointer (some ⟨b,0,none⟩),.agg #[.int .i64 ((18:Nat):Int),.int .i64 n,.float .f64 x]] w fun r w'=>Done W F0 b K m (doM m ⟨((18:Nat):Int),n,x⟩) r w':=by
 obtain⟨y,s,hs⟩:=st1 (l:=m.st) (by have:=r1 (by omega);change (1:Int)<=_ at this;omega);exact(do_A h hT (k:=18) (by omega) (by omega) (by omega) (by omega) (by omega) (by omega) (by omega) (by omega) (by omega) (fun W F0 w h=>b90 h n x hs hou) hF).mono fun r w' ⟨a1,a2⟩=>.inr ⟨a1,by rw[show (doM m ⟨(18:Nat),n,x⟩).1={ m with out:=m.out ++ [y],st:=s } from by show ({ m with out:=m.out ++ [m.st.getD 0 0],st:=m.st.drop 1 }:Mac)=_;rw[hs];rfl];exact a2⟩
theorem bD9 (h:Gm W F0 b K w m) (hT:Shaped5 w) {n:Int} {x:Nat} (_hlo:(shp 19).lo<=n) (_hhi:n<=(shp 19).hi) (_hst:∀ x∈m.st,okN x) (_hcl:m.cells<=256) (_hre:m.reads.length<=1024) (_hou:m.out.length<=1024)
  (hF:∀ W F0 w,Gm W F0 b K w m->Shaped5 w->Calls Tryz.prog 142 #[.pointer (some ⟨b,0,none⟩),.agg #[.int .i64 ((19:Nat):Int),.int .i64 n,.float .f64 x]] w fun r w'=>r=.returned (.tuple #[])/\Bl w w')
  (_r1:19≠5->(shp 19).takes<=(m.st.length:Int)) (_r2:19=5->n+1<=(m.st.length:Int)) (_r3:(m.st.length:Int) - (shp 19).takes+(shp 19).lays<=64) (_r4:19=14->m.calls.length<16) :
  Calls Tryz.prog 135 #[.pointer (some ⟨b,0,none⟩),.agg #[.int .i64 ((19:Nat):Int),.int .i64 n,.float .f64 x]] w fun r w'=>Done W F0 b K m (doM m ⟨((19:Nat):Int),n,x⟩) r w':=by
 exact(bJ5 h hT hF).mono fun r w' ⟨a1,a2⟩=>.inr ⟨a1,a2⟩
theorem bE0 (h:Gm W F0 b K w m) (hT:Shaped5 w) {n:Int} {x:Nat} (_hlo:(shp 20).lo<=n) (_hhi:n<=(shp 20).hi) (_hst:∀ x∈m.st,okN x) (_hcl:m.cells<=256) (_hre:m.reads.length<=1024) (_hou:m.out.length<=1024)
  (hF:∀ W F0 w,Gm W F0 b K w m->Shaped5 w->Calls Tryz.prog 142 #[.pointer (some ⟨b,0,none⟩),.agg #[.int .i64 ((20:Nat):Int),.int .i64 n,.float .f64 x]] w fun r w'=>r=.returned (.tuple #[])/\Bl w w')
  (_r1:20≠5->(shp 20).takes<=(m.st.length:Int)) (_r2:20=5->n+1<=(m.st.length:Int)) (_r3:(m.st.length:Int) - (shp 20).takes+(shp 20).lays<=64) (_r4:20=14->m.calls.length<16) :
  Calls Tryz.prog 135 #[.pointer (some ⟨b,0,none⟩),.agg #[.int .i64 ((20:Nat):Int),.int .i64 n,.float .f64 x]] w fun r w'=>Done W F0 b K m (doM m ⟨((20:Nat):Int),n,x⟩) r w':=by
 exact(bJ6 h hT hF).mono fun r w' ⟨a1,a2⟩=>.inr ⟨a1,a2⟩
theorem bC9 (h:Gm W F0 b K w m) (hT:Shaped5 w) {k many:Nat} {n:Int} {x:Nat} (hi:mayB ⟨k,n,x⟩ many=true) (hst:∀ x∈m.st,okN x) (hcl:m.cells<=256) (hre:m.reads.length<=1024) (hou:m.out.length<=1024):Calls Tryz.prog 135 #[.pointer (some ⟨b,0,none⟩),.agg #[.int .i64 (k:Int),.int .i64 n,.float .f64 x]] w fun r w'=>Done W F0 b K m (doF m ⟨k,n,x⟩) r w':=by
 obtain⟨hk,hlo,hhi⟩:=aj4 hi;clear hi;have h5:k=5->0<=n/\n<=63:=fun e=>by subst e;exact⟨hlo,hhi⟩
 cases hro:as2 m ⟨k,n,x⟩ with
 | false =>
  have e:doF m ⟨k,n,x⟩=ah8 m 82:=by unfold doF;rw[hro];rfl
  rw[e];exact(be4 h hT (fun W F0 w h hT=>(b31 h hT hk h5).mono fun r w' ⟨a1,a2⟩=>⟨by rw[a1,hro];rfl,a2⟩)).mono fun r w' ⟨a1,a2⟩=>.inl ⟨82,rfl,a1,a2⟩
 | true =>
  have hF:∀ W F0 w,Gm W F0 b K w m->Shaped5 w->Calls Tryz.prog 142 #[.pointer (some ⟨b,0,none⟩),.agg #[.int .i64 (k:Int),.int .i64 n,.float .f64 x]] w fun r w'=>r=.returned (.tuple #[])/\Bl w w':=fun W F0 w h hT=>(b31 h hT hk h5).mono fun r w' ⟨a1,a2⟩=>⟨by rw[a1,hro];rfl,a2⟩
  have e0:doF m ⟨k,n,x⟩=doM m ⟨k,n,x⟩:=by unfold doF;rw[hro];rfl
  obtain⟨r1,r2,r3,r4⟩:=aA9 hro;rw[e0];clear e0 hro h5;have hkk:k=1∨k=2∨k=3∨k=4∨k=5∨k=6∨k=7∨k=8∨k=9∨k=10∨k=11∨k=12∨k=13∨k=14∨k=15∨k=16∨k=17∨k=18∨k=19∨k=20:=by omega
  rcases hkk with rfl | rfl | rfl | rfl | rfl | rfl | rfl | rfl | rfl | rfl | rfl | rfl | rfl | rfl | rfl | rfl | rfl | rfl | rfl | rfl
  ·exact bJ7 h hT hlo hhi hst hcl hre hou hF r1 r2 r3 r4
  ·exact bJ8 h hT hlo hhi hst hcl hre hou hF r1 r2 r3 r4
  ·exact bJ9 h hT hlo hhi hst hcl hre hou hF r1 r2 r3 r4
  ·exact bK0 h hT hlo hhi hst hcl hre hou hF r1 r2 r3 r4
  ·exact bK1 h hT hlo hhi hst hcl hre hou hF r1 r2 r3 r4
  ·exact bK2 h hT hlo hhi hst hcl hre hou hF r1 r2 r3 r4
  ·exact bK3 h hT hlo hhi hst hcl hre hou hF r1 r2 r3 r4
  ·exact bK4 h hT hlo hhi hst hcl hre hou hF r1 r2 r3 r4
  ·exact bK5 h hT hlo hhi hst hcl hre hou hF r1 r2 r3 r4
  ·exact bD0 h hT hlo hhi hst hcl hre hou hF r1 r2 r3 r4
  ·exact bD1 h hT hlo hhi hst hcl hre hou hF r1 r2 r3 r4
  ·exact bD2 h hT hlo hhi hst hcl hre hou hF r1 r2 r3 r4
  ·exact bD3 h hT hlo hhi hst hcl hre hou hF r1 r2 r3 r4
  ·exact bD4 h hT hlo hhi hst hcl hre hou hF r1 r2 r3 r4
  ·exact bD5 h hT hlo hhi hst hcl hre hou hF r1 r2 r3 r4
  ·exact bD6 h hT hlo hhi hst hcl hre hou hF r1 r2 r3 r4
  ·exact bD7 h hT hlo hhi hst hcl hre hou hF r1 r2 r3 r4
  ·exact bD8 h hT hlo hhi hst hcl hre hou hF r1 r2 r3 r4
  ·exact bD9 h hT hlo hhi hst hcl hre hou hF r1 r2 r3 r4
  ·exact bE0 h hT hlo hhi hst hcl hre hou hF r1 r2 r3 r4
end
attribute [local go_sem] a00
section
variable {W w:World} {b:Nat} {F0 K:List Nat} {m:Mac}
theorem Gm.two (h:Gm W F0 b K w m) (o1 o2:Obj):∃ F,Gm ((w.alloc o1).alloc o2) F b K ((w.alloc o1).alloc o2) m/\∀ w' m',Gm ((w.alloc o1).alloc o2) F b K w' m'->w'.heap[w.heap.size]?=some o1/\w'.heap[w.heap.size+1]?=some o2/\∀ w'',Turn [w.heap.size+1] [w.heap.size+1] w' w''->Gm W F0 b K w'' m':=by
 obtain⟨F1,hM1,hT1⟩:=h.mc;have hb1:Blw w F1:=hM1.blw;have hM3:=hM1.on ((below_alloc w o1).trans ((below_alloc _ o2).mono (by simp)));refine⟨F1,hM3.gm,fun w' m' hg=>?_⟩;have a1:w'.heap[w.heap.size]?=some o1:=(hg.far (by simp;omega) (fun q=>absurd (hb1 _ q) (Nat.lt_irrefl _))).trans ((heap_alloc_old _ _ (by simp)).trans (zN w _));have a2:w'.heap[w.heap.size+1]?=some o2:=(hg.far (by simp) (fun q=>absurd (hb1 _ q) (by omega))).trans (aa4 (by simp));refine⟨a1,a2,fun w'' t=>?_⟩;obtain⟨p,q1,q2,q3⟩:=hg;have n1:w.heap.size+1∉p.F b:=fun q=>(q2.own _ q).elim (fun z=>absurd (hb1 _ z) (by omega)) (fun z=>by simp at z;omega)
 have n2:w.heap.size+1∉fpR p.pk:=fun q=>by rw[<- q3]at q;exact absurd (hM1.blwK _ q) (by omega)
 have s1:Sep (p.F b) [w.heap.size+1]:=fun k hk q=>n1 (by simp at q;rw[<- q];exact hk)
 have s2:Sep (fpR p.pk) [w.heap.size+1]:=fun k hk q=>n2 (by simp at q;rw[<- q];exact hk)
 have hs:w.heap.size<=w'.heap.size:=zQ (by simp;omega) q2.size;refine⟨p,q1.keep (t.kept s1 q1.blw) (t.kept s2 q1.ltk),hT1.trans ⟨t.os.trans q2.os,t.tape.trans q2.tape,t.output.trans q2.output,zQ hs t.size,fun k hk hf=>?_,fun k hk=>?_⟩,q3⟩
 ·exact(t.block k (zL hk hs) (by simp;omega)).trans ((q2.block k (by simp;omega) hf).trans ((heap_alloc_old _ _ (by simp;omega)).trans (heap_alloc_old w _ hk)))
 ·exact(q2.own k hk).imp id (fun z=>by simp at z;omega)
abbrev ptrO (b:Nat):Obj:=.cells #[.pointer (some ⟨b,0,none⟩)] 153
theorem ao4 {w:World} {g b:Nat} (h:w.heap[g]?=some (ptrO b)):w.cell? ⟨g,0,none⟩=some (.pointer (some ⟨b,0,none⟩))/\g<w.heap.size:=⟨by rw[zR w g 0 _ _ _ h];rfl,lt_of_block h⟩
theorem ac3 {B:World} {F:List Nat} {g1 g2:Nat} (e:Int) (h:Gm B F b K w m) (hX:∀ w' m',Gm B F b K w' m'->w'.heap[g1]?=some (ptrO b)/\w'.heap[g2]?=some (askO ask0)/\∀ w'',Turn [g2] [g2] w' w''->Gm W F0 b K w'' m') :
  CallsD Tryz.prog 133 #[.pointer (some ⟨g1,0,none⟩),.pointer (some ⟨g2,0,none⟩)] (.panicking [{ v:=.iface 32 (.int .i64 e),recovered:=false }]) w fun r u' w' =>
   r=.returned (.tuple #[])/\u'=.panicking [{ v:=.iface 32 (.int .i64 e),recovered:=true }]/\w'.heap[g2]?=some (askO a59)/\Gm W F0 b K w' (ah8 m e).1:=by
 refine callsD_of_wpS Tryz.func133 rfl fun c₀ cs hu=>?_
 obtain⟨r1,r2,r3⟩:=hX _ _ h;obtain⟨q0,q1⟩:=ao4 r1;have HX:=zH hX;have HG:=zH h;clear r1 r2 r3 h hX
 apply wpS_seq
 apply wpS_region
 simp[wpOpsS,go_sem,recoverD,hu,Tryz.ntmps133,Exit.thenS]
 refine wpS_of_wp ?_;have hta:∀ u:World,(Instr.typeAssert (.iface 32 (.int .i64 e)) 20 32 false).run Tryz.prog u=.ok (.int .i64 e) u:=fun u=>by kernel_rfl
 generalize hF:(Value.iface 32 (.int .i64 e))=Fv at hta ⊢
 rw[show (#[Value.pointer (some ⟨g1,0,none⟩),Value.pointer (some ⟨g2,0,none⟩)] ++ ((Array.replicate 9 undef).setIfInBounds 1 Fv).setIfInBounds 0 Fv)=#[Value.pointer (some ⟨g1,0,none⟩),Value.pointer (some ⟨g2,0,none⟩),Fv,Fv,undef,undef,undef,undef,undef,undef,undef] from rfl];subst hF
 go_wp2
 refine a34 4 (by kernel_rfl) ?_;simp only[List.take_succ_cons,List.take_zero,List.drop_succ_cons,List.drop_zero]
 repeat still_step
 refine wpStill_nil ?_
 go_wp2_with (go_at_call 134;refine(as8 (HG.out.drewN 1) 3 0 e).mono ?_;rintro r u1 ⟨rfl,q⟩;obtain⟨r1,r2,r3⟩:=HX.out _ _ q;obtain⟨⟨d0,d1,d2,d3,d4⟩,d5,d6,d7,d8⟩:=a21 r2;have G1:=zH (And.intro r2 r3);clear q r1 r2 r3;unfold askV)
 refine⟨rfl,_,rfl,_,results_none rfl _ _ _,rfl,rfl,?_,?_⟩
 ·exact a49 (k':=a59) G1.out.1
 ·exact G1.out.2 _ (af6 _ _ (.int .i64 4) (.int .i64 0) (.float .f64 0) (.bool false))
theorem aq0 {g1 g2:Nat} :
  CallsD Tryz.prog 133 #[.pointer (some ⟨g1,0,none⟩),.pointer (some ⟨g2,0,none⟩)] .returning w fun r u' w'=>r=.returned (.tuple #[])/\u'=.returning/\w'=w:=by
 refine callsD_of_wpS Tryz.func133 rfl fun c₀ cs hu=>?_
 apply wpS_seq
 apply wpS_region
 simp[wpOpsS,go_sem,recoverD,hu,Tryz.ntmps133,Exit.thenS]
 refine wpS_of_wp ?_;rw[show (#[Value.pointer (some ⟨g1,0,none⟩),Value.pointer (some ⟨g2,0,none⟩)] ++ ((Array.replicate 9 undef).setIfInBounds 1 .nilIface).setIfInBounds 0 .nilIface)=#[Value.pointer (some ⟨g1,0,none⟩),Value.pointer (some ⟨g2,0,none⟩),.nilIface,.nilIface,undef,undef,undef,undef,undef,undef,undef] from rfl]
 go_wp2
 cases c₀
 simp_all [bodyPostS,results,Tryz.results133]
end
attribute [local go_sem] a00
theorem a89 {fn:Func} {p:Tmp} (h:fn.results=#[.cell p 211]) {R:Ending->World->Prop} {tmps:Array Value} {w:World} (g:Nat) (k:Ask) (hp:tmps.getD p undef=.pointer (some ⟨g,0,none⟩)) (hg:w.heap[g]?=some (askO k)) (hR:R (.returned (askV k)) w):Leaves Tryz.prog fn tmps R [] .returning w :=
 ⟨_,results_cell_row h _ _ g _ _ _ _ hp hg Tryz.underlying211 rfl (by kernel_rfl),hR⟩
section
variable {W w:World} {b:Nat} {F0 K:List Nat} {m:Mac}
theorem Gm.shaped (h:Gm W F0 b K w m) (hT:a87 W F0):Shaped5 w:=by
 obtain⟨p,_,h2,_⟩:=h;exact(hT.turn h2).1
theorem b44 (h:Gm W F0 b K w m):w.cell? ⟨b,29,none⟩=some (.int .i64 m.how):=by
 obtain⟨p,hm,_,_⟩:=h;exact(hm.cell 29).trans rfl
theorem aX8 (h:Gm W F0 b K w m) (hw:0<=m.wait):Calls Tryz.prog 128 #[.pointer (some ⟨b,0,none⟩)] w fun e w'=>e=.returned (askV (ab7 m.wait))/\Gm W F0 b K w' m:=by
 obtain⟨F,h1,hX⟩:=h.two (ptrO b) (askO ask0);have hb:=h.ltB;have h27:=(ar2 h).1;rw[zT hw]at h27;have HW:=zH (aK9 h1 hw);have HX:=zH hX;have HG:=zH h1;clear h h1 hX hw
 go_enter_defers Tryz.func128,Tryz.ntmps128
 go_wp2_with (go_at_call 132;refine HW.out.mono ?_;rintro e u0 ⟨rfl,q⟩;obtain⟨r1,r2,r3⟩:=HX.out _ _ (HG.out.on q);obtain⟨⟨d0,d1,d2,d3,d4⟩,d5,d6,d7,d8⟩:=a21 r2;have G1:=zH (And.intro r2 r3);clear q r1 r2 r3;unfold askV ab7)
 simp only[bodyPostD];exact a89 rfl (w.heap.size+1) (ab7 m.wait) rfl (a49 (k':=ab7 m.wait) G1.out.1) ⟨rfl,G1.out.2 _ (af6 _ _ (.int .i64 1) (.int .i64 m.wait) (.float .f64 0) (.bool false))⟩
theorem aX7 (h:Gm W F0 b K w m) (hw:¬ 0<=m.wait) (h0:¬ m.how=0):Calls Tryz.prog 128 #[.pointer (some ⟨b,0,none⟩)] w fun e w'=>e=.returned (askV a59)/\Gm W F0 b K w' m:=by
 obtain⟨F,h1,hX⟩:=h.two (ptrO b) (askO ask0);have hb:=h.ltB;have h27:=(ar2 h).1;rw[zU hw]at h27;have h29:=b44 h;have HG:=zH ((h.alloc (ptrO b)).alloc (askO a59));clear h h1 hX hw
 go_enter_defers Tryz.func128,Tryz.ntmps128
 go_wp2
 simp only[bodyPostD];exact a89 rfl (w.heap.size+1) a59 rfl (aa4 (by simp)) ⟨rfl,HG.out⟩
theorem aB3 (h:Gm W F0 b K w m) (hw:¬ 0<=m.wait) (h0:m.how=0) {e0:Int} (hB:∀ W F0 w,Gm W F0 b K w m->Calls Tryz.prog 136 #[.pointer (some ⟨b,0,none⟩)] w fun r w'=>r=ad0 e0/\Gm W F0 b K w' m):Calls Tryz.prog 128 #[.pointer (some ⟨b,0,none⟩)] w fun e w'=>e=.returned (askV a59)/\Gm W F0 b K w' (ah8 m e0).1:=by
 obtain⟨F,h1,hX⟩:=h.two (ptrO b) (askO ask0);have hb:=h.ltB;have h27:=(ar2 h).1;rw[zU hw]at h27;have h29:=b44 h;rw[h0]at h29;have HX:=zH hX;have HG:Hid (Gm ((w.alloc (ptrO b)).alloc (askO ask0)) F b K ((w.alloc (ptrO b)).alloc (askO ask0)).drew m):=h1.same (Same.drew _);have HBG:=zH hB;clear h h1 hX hw h0 hB;have hmf:∀ (fn:Fn) (first cap:Array Value) (w:World),(Instr.makeFunc fn first cap).run Tryz.prog w=.ok (.func fn first cap) w:=fun _ _ _ _=>rfl
 go_enter_defers Tryz.func128,Tryz.ntmps128
 go_wp2
 refine wp_region_any (by kernel_rfl) ?_
 change wpAny _ _ _ _ _ _ _ (World.drew _)
 refine wpAny_ready (rs:=[0,1]) (by kernel_rfl) (by simp) ?_;refine AllReady.cons rfl (fun K hK=>?_) (AllReady.cons rfl (fun K hK=>?_) (AllReady.nil))
 ·go_simp
  refine hK _ _ ?_;clear hK K;refine wpAny_ready (rs:=[1]) (by kernel_rfl) (by simp) ?_;refine AllReady.cons rfl (fun K hK=>?_) (AllReady.nil)
  go_simp
  refine hK _ _ ?_;clear hK K;refine wpAny_ready (rs:=[2]) (by kernel_rfl) (by simp) ?_;refine AllReady.cons rfl (fun K hK=>?_) (AllReady.nil)
  go_simp
  refine(HBG.out _ _ _ HG.out).mono ?_;rintro e u1 ⟨rfl,q⟩;refine leaves_cons (f:=133) (args:=#[.pointer (some ⟨w.heap.size,0,none⟩),.pointer (some ⟨w.heap.size+1,0,none⟩)]) (by simp) (by simp[go_sem]) ?_;refine(ac3 (W:=W) (F0:=F0) e0 q HX.out).mono ?_;rintro e u' w5 ⟨rfl,rfl,c1,c2⟩;exact a89 rfl (w.heap.size+1) a59 rfl c1 ⟨rfl,c2⟩
 ·go_simp
  refine hK _ _ ?_;clear hK K;refine wpAny_ready (rs:=[0,2]) (by kernel_rfl) (by simp) ?_;refine AllReady.cons rfl (fun K hK=>?_) (AllReady.cons rfl (fun K hK=>?_) (AllReady.nil))
  ·go_simp
   refine hK _ _ ?_;clear hK K;refine wpAny_ready (rs:=[2]) (by kernel_rfl) (by simp) ?_;refine AllReady.cons rfl (fun K hK=>?_) (AllReady.nil)
   go_simp
   refine(HBG.out _ _ _ HG.out).mono ?_;rintro e u1 ⟨rfl,q⟩;refine leaves_cons (f:=133) (args:=#[.pointer (some ⟨w.heap.size,0,none⟩),.pointer (some ⟨w.heap.size+1,0,none⟩)]) (by simp) (by simp[go_sem]) ?_;refine(ac3 (W:=W) (F0:=F0) e0 q HX.out).mono ?_;rintro e u' w5 ⟨rfl,rfl,c1,c2⟩;exact a89 rfl (w.heap.size+1) a59 rfl c1 ⟨rfl,c2⟩
  ·go_simp
   refine(HBG.out _ _ _ HG.out).mono ?_;rintro e u1 ⟨rfl,q⟩;refine leaves_cons (f:=133) (args:=#[.pointer (some ⟨w.heap.size,0,none⟩),.pointer (some ⟨w.heap.size+1,0,none⟩)]) (by simp) (by simp[go_sem]) ?_;refine(ac3 (W:=W) (F0:=F0) e0 q HX.out).mono ?_;rintro e u' w5 ⟨rfl,rfl,c1,c2⟩;exact a89 rfl (w.heap.size+1) a59 rfl c1 ⟨rfl,c2⟩
theorem bz7 (h:Gm W F0 b K w m) (hw:¬ 0<=m.wait) (h0:m.how=0) {o n:Int} {x:Nat} {m1:Mac} {res:Mac × Ask} (hT:a87 W F0) (hB:∀ W F0 w,Gm W F0 b K w m->Calls Tryz.prog 136 #[.pointer (some ⟨b,0,none⟩)] w fun r w'=>r=.returned (.agg #[.int .i64 o,.int .i64 n,.float .f64 x])/\Gm W F0 b K w' m1) (hD:∀ W F0 w,Gm W F0 b K w m1->Shaped5 w->Calls Tryz.prog 135 #[.pointer (some ⟨b,0,none⟩),.agg #[.int .i64 o,.int .i64 n,.float .f64 x]] w fun r w'=>Done W F0 b K m1 res r w'):Calls Tryz.prog 128 #[.pointer (some ⟨b,0,none⟩)] w fun e w'=>e=.returned (askV res.2)/\Gm W F0 b K w' res.1:=by
 obtain⟨F,h1,hX⟩:=h.two (ptrO b) (askO ask0);have hb:=h.ltB;have h27:=(ar2 h).1;rw[zU hw]at h27;have h29:=b44 h;rw[h0]at h29;have HX:=zH hX;have HG:Hid (Gm ((w.alloc (ptrO b)).alloc (askO ask0)) F b K ((w.alloc (ptrO b)).alloc (askO ask0)).drew m):=h1.same (Same.drew _);have HBG:=zH hB;have HDO:=zH hD;have HT:=zH hT;clear h h1 hX hw h0 hB hD hT;have hmf:∀ (fn:Fn) (first cap:Array Value) (w:World),(Instr.makeFunc fn first cap).run Tryz.prog w=.ok (.func fn first cap) w:=fun _ _ _ _=>rfl
 go_enter_defers Tryz.func128,Tryz.ntmps128
 go_wp2
 refine wp_region_any (by kernel_rfl) ?_
 change wpAny _ _ _ _ _ _ _ (World.drew _)
 refine wpAny_ready (rs:=[0,1]) (by kernel_rfl) (by simp) ?_;refine AllReady.cons rfl (fun K hK=>?_) (AllReady.cons rfl (fun K hK=>?_) (AllReady.nil))
 ·go_simp
  refine hK _ _ ?_;clear hK K;refine wpAny_ready (rs:=[1]) (by kernel_rfl) (by simp) ?_;refine AllReady.cons rfl (fun K hK=>?_) (AllReady.nil)
  go_simp
  refine hK _ _ ?_;clear hK K;refine wpAny_ready (rs:=[2]) (by kernel_rfl) (by simp) ?_;refine AllReady.cons rfl (fun K hK=>?_) (AllReady.nil)
  go_simp
  refine(HBG.out _ _ _ HG.out).mono ?_;rintro e u1 ⟨rfl,q⟩;obtain⟨r1,r2,r3⟩:=HX.out _ _ q;obtain⟨k0,k1⟩:=ao4 r1;have HSH:=zH ((r3 _ (Turn.refl _ _)).shaped HT.out);clear r1 r2 r3;have G1:=zH q;clear q;refine hK _ _ ?_;clear hK K;refine wpAny_ready (rs:=[3]) (by kernel_rfl) (by simp) ?_;refine AllReady.cons rfl (fun K hK=>?_) (AllReady.nil)
  go_simp
  refine(HDO.out _ _ _ G1.out HSH.out).mono ?_;rintro e u2 (⟨e0,he0,rfl,q⟩ | ⟨rfl,q⟩)
  ·subst he0
   refine leaves_cons (f:=133) (args:=#[.pointer (some ⟨w.heap.size,0,none⟩),.pointer (some ⟨w.heap.size+1,0,none⟩)]) (by simp) (by simp[go_sem]) ?_;refine(ac3 (W:=W) (F0:=F0) e0 q HX.out).mono ?_;rintro e u' w5 ⟨rfl,rfl,c1,c2⟩;exact a89 rfl (w.heap.size+1) a59 rfl c1 ⟨rfl,c2⟩
  ·obtain⟨r1,r2,r3⟩:=HX.out _ _ q
   obtain⟨⟨d0,d1,d2,d3,d4⟩,d5,d6,d7,d8⟩:=a21 r2;have G2:=zH (And.intro r2 r3);clear q r1 r2 r3;unfold askV;refine hK _ _ ?_;clear hK K;refine wpAny_ready (rs:=[4]) (by kernel_rfl) (by simp) ?_;refine AllReady.cons rfl (fun K hK=>?_) (AllReady.nil)
   go_simp
   refine hK _ _ ?_;clear hK K;refine wpAny_done (by kernel_rfl) ?_ _
   go_wp2
   refine leaves_cons (f:=133) (args:=#[.pointer (some ⟨w.heap.size,0,none⟩),.pointer (some ⟨w.heap.size+1,0,none⟩)]) (by simp) (by simp[go_sem]) ?_;refine aq0.mono ?_;rintro e u' w5 ⟨rfl,rfl,rfl⟩;exact a89 rfl (w.heap.size+1) res.2 rfl (a49 (k':=res.2) G2.out.1) ⟨rfl,G2.out.2 _ (af6 _ _ (.int .i64 res.2.kind) (.int .i64 res.2.cell) (.float .f64 res.2.x) (.bool res.2.first))⟩
 ·go_simp
  refine hK _ _ ?_;clear hK K;refine wpAny_ready (rs:=[0,2]) (by kernel_rfl) (by simp) ?_;refine AllReady.cons rfl (fun K hK=>?_) (AllReady.cons rfl (fun K hK=>?_) (AllReady.nil))
  ·go_simp
   refine hK _ _ ?_;clear hK K;refine wpAny_ready (rs:=[2]) (by kernel_rfl) (by simp) ?_;refine AllReady.cons rfl (fun K hK=>?_) (AllReady.nil)
   go_simp
   refine(HBG.out _ _ _ HG.out).mono ?_;rintro e u1 ⟨rfl,q⟩;obtain⟨r1,r2,r3⟩:=HX.out _ _ q;obtain⟨k0,k1⟩:=ao4 r1;have HSH:=zH ((r3 _ (Turn.refl _ _)).shaped HT.out);clear r1 r2 r3;have G1:=zH q;clear q;refine hK _ _ ?_;clear hK K;refine wpAny_ready (rs:=[3]) (by kernel_rfl) (by simp) ?_;refine AllReady.cons rfl (fun K hK=>?_) (AllReady.nil)
   go_simp
   refine(HDO.out _ _ _ G1.out HSH.out).mono ?_;rintro e u2 (⟨e0,he0,rfl,q⟩ | ⟨rfl,q⟩)
   ·subst he0
    refine leaves_cons (f:=133) (args:=#[.pointer (some ⟨w.heap.size,0,none⟩),.pointer (some ⟨w.heap.size+1,0,none⟩)]) (by simp) (by simp[go_sem]) ?_;refine(ac3 (W:=W) (F0:=F0) e0 q HX.out).mono ?_;rintro e u' w5 ⟨rfl,rfl,c1,c2⟩;exact a89 rfl (w.heap.size+1) a59 rfl c1 ⟨rfl,c2⟩
   ·obtain⟨r1,r2,r3⟩:=HX.out _ _ q
    obtain⟨⟨d0,d1,d2,d3,d4⟩,d5,d6,d7,d8⟩:=a21 r2;have G2:=zH (And.intro r2 r3);clear q r1 r2 r3;unfold askV;refine hK _ _ ?_;clear hK K;refine wpAny_ready (rs:=[4]) (by kernel_rfl) (by simp) ?_;refine AllReady.cons rfl (fun K hK=>?_) (AllReady.nil)
    go_simp
    refine hK _ _ ?_;clear hK K;refine wpAny_done (by kernel_rfl) ?_ _
    go_wp2
    refine leaves_cons (f:=133) (args:=#[.pointer (some ⟨w.heap.size,0,none⟩),.pointer (some ⟨w.heap.size+1,0,none⟩)]) (by simp) (by simp[go_sem]) ?_;refine aq0.mono ?_;rintro e u' w5 ⟨rfl,rfl,rfl⟩;exact a89 rfl (w.heap.size+1) res.2 rfl (a49 (k':=res.2) G2.out.1) ⟨rfl,G2.out.2 _ (af6 _ _ (.int .i64 res.2.kind) (.int .i64 res.2.cell) (.float .f64 res.2.x) (.bool res.2.first))⟩
  ·go_simp
   refine(HBG.out _ _ _ HG.out).mono ?_;rintro e u1 ⟨rfl,q⟩;obtain⟨r1,r2,r3⟩:=HX.out _ _ q;obtain⟨k0,k1⟩:=ao4 r1;have HSH:=zH ((r3 _ (Turn.refl _ _)).shaped HT.out);clear r1 r2 r3;have G1:=zH q;clear q;refine hK _ _ ?_;clear hK K;refine wpAny_ready (rs:=[0]) (by kernel_rfl) (by simp) ?_;refine AllReady.cons rfl (fun K hK=>?_) (AllReady.nil)
   go_simp
   refine hK _ _ ?_;clear hK K;refine wpAny_ready (rs:=[3]) (by kernel_rfl) (by simp) ?_;refine AllReady.cons rfl (fun K hK=>?_) (AllReady.nil)
   go_simp
   refine(HDO.out _ _ _ G1.out HSH.out).mono ?_;rintro e u2 (⟨e0,he0,rfl,q⟩ | ⟨rfl,q⟩)
   ·subst he0
    refine leaves_cons (f:=133) (args:=#[.pointer (some ⟨w.heap.size,0,none⟩),.pointer (some ⟨w.heap.size+1,0,none⟩)]) (by simp) (by simp[go_sem]) ?_;refine(ac3 (W:=W) (F0:=F0) e0 q HX.out).mono ?_;rintro e u' w5 ⟨rfl,rfl,c1,c2⟩;exact a89 rfl (w.heap.size+1) a59 rfl c1 ⟨rfl,c2⟩
   ·obtain⟨r1,r2,r3⟩:=HX.out _ _ q
    obtain⟨⟨d0,d1,d2,d3,d4⟩,d5,d6,d7,d8⟩:=a21 r2;have G2:=zH (And.intro r2 r3);clear q r1 r2 r3;unfold askV;refine hK _ _ ?_;clear hK K;refine wpAny_ready (rs:=[4]) (by kernel_rfl) (by simp) ?_;refine AllReady.cons rfl (fun K hK=>?_) (AllReady.nil)
    go_simp
    refine hK _ _ ?_;clear hK K;refine wpAny_done (by kernel_rfl) ?_ _
    go_wp2
    refine leaves_cons (f:=133) (args:=#[.pointer (some ⟨w.heap.size,0,none⟩),.pointer (some ⟨w.heap.size+1,0,none⟩)]) (by simp) (by simp[go_sem]) ?_;refine aq0.mono ?_;rintro e u' w5 ⟨rfl,rfl,rfl⟩;exact a89 rfl (w.heap.size+1) res.2 rfl (a49 (k':=res.2) G2.out.1) ⟨rfl,G2.out.2 _ (af6 _ _ (.int .i64 res.2.kind) (.int .i64 res.2.cell) (.float .f64 res.2.x) (.bool res.2.first))⟩
end
attribute [local go_sem] a00
section
variable {W w:World} {b:Nat} {F0 K:List Nat} {m:Mac}
theorem step_any (h:Gm W F0 b K w m) (hT:a87 W F0) (hI:Inv m):Calls Tryz.prog 128 #[.pointer (some ⟨b,0,none⟩)] w fun e w'=>e=.returned (askV (a07 m).2)/\Gm W F0 b K w' (a07 m).1:=by
 unfold a07
 by_cases hw:0<=m.wait
 ·rw[if_pos hw]
  exact aX8 h hw
 rw[if_neg hw]
 by_cases h0:m.how=0
 ·rw[if_pos h0]
  by_cases hf:m.used<m.fuel
  ·rw[if_pos hf]
   by_cases hp:m.place<(m.code.length:Int)
   ·rw[if_pos hp]
    obtain⟨k,hk⟩:∃ k:Nat,m.place=k:=⟨m.place.toNat,by have:=hI.place.1;omega⟩
    have hkl:k<m.code.length:=by omega
    have hmay:=hI.may k hkl;have hin:insM m=ci m.code k:=by unfold insM;rw[hk,Int.toNat_natCast]
    rw[hin]
    rcases hci:ci m.code k with⟨o,n,x⟩
    have hB:∀ W F0 w,Gm W F0 b K w m->Calls Tryz.prog 136 #[.pointer (some ⟨b,0,none⟩)] w fun r w'=>r=.returned (.agg #[.int .i64 o,.int .i64 n,.float .f64 x])/\Gm W F0 b K w' (begM m):=fun W F0 w h=>by
     have:=as5 h hf hk hkl ⟨by have:=hI.fuel;omega,by have:=hI.used;omega⟩ (by have:=hI.len;omega);rw[hci]at this;exact this
    rw[hci]at hmay;obtain⟨q,hq⟩:∃ q:Nat,o=q:=⟨o.toNat,by have:=hmay.1;unfold mayB ab2 at this;simp at this;omega⟩
    subst hq;have hre:(begM m).reads.length<=1024:=by
     have h1:=hI.reads;have h2:=hI.used;have h3:=hI.fuel;rw[if_neg hw]at h1
     show m.reads.length<=1024
     omega
    have hou:(begM m).out.length<=1024:=by
     have h1:=hI.out;have h2:=hI.used;have h3:=hI.fuel
     show m.out.length<=1024
     omega
    have hD:∀ W F0 w,Gm W F0 b K w (begM m)->Shaped5 w->Calls Tryz.prog 135 #[.pointer (some ⟨b,0,none⟩),.agg #[.int .i64 (q:Int),.int .i64 n,.float .f64 x]] w fun r w'=>Done W F0 b K (begM m) (doF (begM m) ⟨q,n,x⟩) r w':=fun W F0 w h hT=>bC9 h hT hmay.1 hI.st hI.cells.2 hre hou
    exact bz7 h hw h0 hT hB hD
   ·rw[if_neg hp]
    exact aB3 h hw h0 (e0:=50) (fun W F0 w h=>(b03 h hf hp).mono fun r w' ⟨a1,a2⟩=>⟨a1,h.on a2⟩)
  ·rw[if_neg hf]
   exact aB3 h hw h0 (e0:=80) (fun W F0 w h=>(aU4 h hf).mono fun r w' ⟨a1,a2⟩=>⟨a1,h.on a2⟩)
 ·rw[if_neg h0]
  exact aX7 h hw h0
theorem aR0 (h:Gm W F0 b K w m) (hI:Inv m) (x:Nat):Calls Tryz.prog 129 #[.pointer (some ⟨b,0,none⟩),.float .f64 x] w fun e w'=>e=.returned (.int .i64 (giveE m))/\Gm W F0 b K w' (a65 m x):=by
 have hb:=h.ltB;have h27:=(ar2 h).1;have f27:=h.free 27;unfold giveE a65
 by_cases hw:0<=m.wait
 ·rw[if_pos hw,if_pos hw]
  rw[zT hw]at h27;have h28:w.cell? ⟨b,28,none⟩=some (.int .i64 m.wait):=by
   obtain⟨p,hm,_,_⟩:=h;rw[<- hm.wt hw];exact(hm.cell 28).trans rfl
  have g1:Gm W F0 b K (w.setCell ⟨b,27,none⟩ (.bool false)) { m with wait:=-1 }:=h.set 27 (.bool false) { m with wait:=-1 } (fun p _=>⟨p.wt,rfl,fun z=>absurd z (show ¬ (0:Int)<=-1 by decide)⟩) ⟨rfl,rfl,rfl,rfl,rfl,rfl,rfl⟩;have HG:=zH (g1.same (Same.drew _));have hl:m.st.length<64:=by
   have:=hI.high;rw[if_pos hw]at this;omega
  have hr:m.reads.length<=1024:=by
   have h1:=hI.reads;have h2:=hI.used;have h3:=hI.fuel;rw[if_pos hw]at h1;omega
  have HS:=zH (And.intro hl hr);clear h g1 hI hl hr hw;go_enter Tryz.func129,Tryz.ntmps129
  go_wp2
  refine a34 7 (by kernel_rfl) ?_;simp only[List.take_succ_cons,List.take_zero,List.drop_succ_cons,List.drop_zero]
  repeat (first | still_step | still_call (ae2 x _))
  refine wpStill_nil ?_
  go_wp2_with (go_at_call 137;refine(aw5 HG.out m.wait (fixB x) HS.out.1 HS.out.2).mono ?_;rintro e u1 ⟨rfl,q⟩;have G1:=zH q;clear q)
  go_ret;exact⟨rfl,G1.out⟩
 ·rw[if_neg hw,if_neg hw]
  rw[zU hw]at h27;have HG:=zH h;clear h hI hw;go_enter Tryz.func129,Tryz.ntmps129
  go_wp2
  go_ret;exact⟨rfl,HG.out⟩
end
structure Mid (m:Mac):Prop where
 cells:1<=m.cells/\m.cells<=256
 fuel:1<=m.fuel/\m.fuel<=1024
 wmax:1<=m.wmax/\m.wmax<=32
 len:m.code.length<=1024
 may:∀ k,k<m.code.length->mayB (ci m.code k) m.code.length=true/\(ci m.code k).x<18446744073709551616
 args:∀ k,okN (m.args k)
 loc:∀ k,okN (m.loc k)
 st:∀ x∈m.st,okN x
 high:m.st.length<=64
 calls:∀ c∈m.calls,0<=c/\c<=(m.code.length:Int)
 deep:m.calls.length<=16
 place:0<=m.place/\m.place<=(m.code.length:Int)
 used:0<=m.used/\m.used<=m.fuel
 out:(m.out.length:Int)<m.used
 reads:(m.reads.length:Int)<m.used
 buf:∀ t∈m.buf,okN t.2
 few:(m.buf.length:Int)<=m.wmax
 wait:m.wait=-1
 how:m.how=0
 none:m.upd=false->m.buf=[]
 err:m.err=0
 idle:m.code≠[]
section
variable {m:Mac}
theorem Mid.setSt (h:Mid m) {s:List Nat} (hs:∀ x∈s,okN x) (hl:s.length<=64):Mid { m with st:=s } :=
 ⟨h.cells,h.fuel,h.wmax,h.len,h.may,h.args,h.loc,hs,hl,h.calls,h.deep,h.place,h.used,h.out,h.reads,h.buf,h.few,h.wait,h.how,h.none,h.err,h.idle⟩
theorem Mid.setLoc (h:Mid m) {f:Nat->Nat} (hf:∀ k,okN (f k)):Mid { m with loc:=f } :=
 ⟨h.cells,h.fuel,h.wmax,h.len,h.may,h.args,hf,h.st,h.high,h.calls,h.deep,h.place,h.used,h.out,h.reads,h.buf,h.few,h.wait,h.how,h.none,h.err,h.idle⟩
theorem Mid.setPlace (h:Mid m) {n:Int} (hn:0<=n/\n<=(m.code.length:Int)):Mid { m with place:=n } :=
 ⟨h.cells,h.fuel,h.wmax,h.len,h.may,h.args,h.loc,h.st,h.high,h.calls,h.deep,hn,h.used,h.out,h.reads,h.buf,h.few,h.wait,h.how,h.none,h.err,h.idle⟩
theorem Mid.setCalls (h:Mid m) {c:List Int} (hc:∀ x∈c,0<=x/\x<=(m.code.length:Int)) (hd:c.length<=16):Mid { m with calls:=c } :=
 ⟨h.cells,h.fuel,h.wmax,h.len,h.may,h.args,h.loc,h.st,h.high,hc,hd,h.place,h.used,h.out,h.reads,h.buf,h.few,h.wait,h.how,h.none,h.err,h.idle⟩
theorem Mid.setBuf (h:Mid m) {l:Wr} (hl:∀ t∈l,okN t.2) (hf:(l.length:Int)<=m.wmax) (hn:m.upd=false->l=[]):Mid { m with buf:=l } :=
 ⟨h.cells,h.fuel,h.wmax,h.len,h.may,h.args,h.loc,h.st,h.high,h.calls,h.deep,h.place,h.used,h.out,h.reads,hl,hf,h.wait,h.how,hn,h.err,h.idle⟩
theorem Mid.not_wait (h:Mid m):¬ 0<=m.wait:=by rw[h.wait];decide
theorem Mid.ended (h:Mid m) (o c e:Int) (ho:0<=o/\o<=3) (hoe:o=3 ↔ e≠0) (he:e≠80) (l:List Nat) (hl:(l.length:Int)<=m.used):Inv { m with out:=l,how:=o,cod:=c,err:=e } :=
 ⟨h.cells,h.fuel,h.wmax,h.len,h.may,h.args,h.loc,h.st,by rw[if_neg h.not_wait];have:=h.high;show (m.st.length:Int)+0<=64;omega,h.calls,h.deep,h.place,h.used,hl,by rw[if_neg h.not_wait];have:=h.reads;show (m.reads.length:Int)+0<=m.used;omega,h.buf,h.few,by have:=h.cells;show -1<=m.wait/\m.wait<m.cells;rw[h.wait];omega,ho,h.none,hoe,fun q=>absurd q he,fun q=>absurd q h.idle⟩
theorem Mid.out' (h:Mid m) {l:List Nat} (hl:(l.length:Int)<=m.used):Inv { m with out:=l }:=by
 have:=h.ended 0 m.cod 0 (by omega) (by omega) (by omega) l hl;have e:({ m with out:=l }:Mac)={ m with out:=l,how:=0,cod:=m.cod,err:=0 }:=by have h1:=h.how;have h2:=h.err;simp only[h1,h2]
 rw[e];exact this
theorem Mid.inv (h:Mid m):Inv m:=h.out' (l:=m.out) (by have:=h.out;omega)
theorem Mid.fails (h:Mid m) (e:Int) (he:e≠0/\e≠80):Inv (ah8 m e).1:=h.ended 3 0 e (by omega) ⟨fun _=>he.1,fun _=>rfl⟩ he.2 m.out (by have:=h.out;omega)
theorem Mid.readsSt (h:Mid m) {l:Wr} (hl:(l.length:Int)<=m.used):Inv { m with reads:=l } :=
 ⟨h.cells,h.fuel,h.wmax,h.len,h.may,h.args,h.loc,h.st,by rw[if_neg h.not_wait];have:=h.high;show (m.st.length:Int)+0<=64;omega,h.calls,h.deep,h.place,h.used,by have:=h.out;show (m.out.length:Int)<=m.used;omega,by rw[if_neg h.not_wait];show (l.length:Int)+0<=m.used;omega,h.buf,h.few,by have:=h.cells;show -1<=m.wait/\m.wait<m.cells;rw[h.wait];omega,by show 0<=m.how/\m.how<=3;rw[h.how];decide,h.none,by show m.how=3 ↔ m.err≠0;rw[h.how,h.err];decide,fun q=>by have q':m.err=80:=q;rw[h.err]at q';exact absurd q' (by decide),fun q=>absurd q h.idle⟩
theorem Mid.waits (h:Mid m) {c:Int} (hc:0<=c/\c<m.cells) (hl:m.st.length+1<=64):Inv { m with wait:=c } :=
 ⟨h.cells,h.fuel,h.wmax,h.len,h.may,h.args,h.loc,h.st,by rw[if_pos hc.1];show (m.st.length:Int)+1<=64;omega,h.calls,h.deep,h.place,h.used,by have:=h.out;show (m.out.length:Int)<=m.used;omega,by rw[if_pos hc.1];have:=h.reads;show (m.reads.length:Int)+1<=m.used;omega,h.buf,h.few,by show -1<=c/\c<m.cells;omega,by show 0<=m.how/\m.how<=3;rw[h.how];decide,h.none,by show m.how=3 ↔ m.err≠0;rw[h.how,h.err];decide,fun q=>by have q':m.err=80:=q;rw[h.err]at q';exact absurd q' (by decide),fun q=>absurd q h.idle⟩
theorem aN8 {l:Wr} {m:Int} {c:Int} (h:mayP m l c=true) (hf:(l.length:Int)<=m) (y:Nat):((putC l c y).length:Int)<=m:=by
 rw[aj8];unfold mayP at h
 cases hh:hasC l c
 ·rw[hh]at h
  have:(l.length:Int)<m:=by simpa using h
  simp
  omega
 ·simpa using hf
theorem bj8 {l:Wr} {c:Int} {y:Nat} (h:∀ t∈l,okN t.2) (hy:okN y):∀ t∈putC l c y,okN t.2:=by
 intro t ht;unfold putC at ht
 split at ht
 ·rcases List.mem_or_eq_of_mem_set ht with q | q
  ·exact h t q
  ·rw[q];exact hy
 ·rcases List.mem_append.1 ht with q | q
  ·exact h t q
  ·simp at q;rw[q];exact hy
theorem bu7 {l:Wr} {c:Int} (h:∀ t∈l,okN t.2):okN (getC l c):=by
 unfold getC;rw[zG]
 cases hl:l[idx l c]? with
 | none=>exact a92
 | some t=>exact h t (List.mem_of_getElem? hl)
theorem an2 {l:List Nat} (h:∀ x∈l,okN x) (k:Nat):okN (l.getD k 0):=ad9 0 a92 l h k
theorem ac7 {l:List Nat} (h:∀ x∈l,okN x) (k:Nat):∀ x∈l.drop k,okN x:=fun x hx=>h x (List.mem_of_mem_drop hx)
theorem ac5 {l:List Nat} {y:Nat} (hy:okN y) (h:∀ x∈l,okN x):∀ x∈y::l,okN x:=fun x hx=>by
 rcases List.mem_cons.1 hx with rfl | q
 ·exact hy
 ·exact h x q
theorem au2 {k:Nat} {n:Int} {x many:Nat} (h:mayB ⟨k,n,x⟩ many=true) (hk:(shp k).kind=3) (hl:(shp k).lo=0):0<=n/\n<=(many:Int):=by
 unfold mayB az4 outB at h;simp only[Bool.and_eq_true,decide_eq_true_eq,Int.toNat_natCast,Bool.not_eq_true',Bool.and_eq_false_iff,decide_eq_false_iff_not]at h;obtain⟨⟨⟨_,h1⟩,h2⟩,_⟩:=h;rw[hl]at h1
 rcases h2 with h2 | h2
 ·exact absurd hk h2
 ·omega
theorem bF1 (h:Mid m) {k:Nat} {n:Int} {x:Nat} (hi:mayB ⟨k,n,x⟩ m.code.length=true) (hx:x<18446744073709551616) (hr:as2 m ⟨k,n,x⟩=true):Inv (doM m ⟨k,n,x⟩).1:=by
 obtain⟨hk,hlo,hhi⟩:=aj4 hi;obtain⟨r1,r2,r3,r4⟩:=aA9 hr;have hst:=h.st;have hgh:=h.high;have hkk:k=1∨k=2∨k=3∨k=4∨k=5∨k=6∨k=7∨k=8∨k=9∨k=10∨k=11∨k=12∨k=13∨k=14∨k=15∨k=16∨k=17∨k=18∨k=19∨k=20:=by omega
 rcases hkk with rfl | rfl | rfl | rfl | rfl | rfl | rfl | rfl | rfl | rfl | rfl | rfl | rfl | rfl | rfl | rfl | rfl | rfl | rfl | rfl
 ·have r3':(m.st.length:Int) - 0+1<=64:=r3
  exact(h.setSt (ac5 (a83 hx) hst) (by simp;omega)).inv
 ·exact(h.setSt (ac7 hst 1) (by simp;omega)).inv
 ·have r3':(m.st.length:Int) - 1+2<=64:=r3
  have r1':(1:Int)<=(m.st.length:Int):=r1 (by omega);exact(h.setSt (ac5 (an2 hst 0) hst) (by simp;omega)).inv
 ·have r3':(m.st.length:Int) - 2+2<=64:=r3
  have r1':(2:Int)<=(m.st.length:Int):=r1 (by omega);exact(h.setSt (ac5 (an2 hst 1) (ac5 (an2 hst 0) (ac7 hst 2))) (by simp;omega)).inv
 ·have r3':(m.st.length:Int) - 0+1<=64:=r3
  exact(h.setSt (ac5 (an2 hst _) hst) (by simp;omega)).inv
 ·have r3':(m.st.length:Int) - 0+1<=64:=r3
  exact(h.setSt (ac5 (h.args _) hst) (by simp;omega)).inv
 ·have r3':(m.st.length:Int) - 0+1<=64:=r3
  exact(h.setSt (ac5 (h.loc _) hst) (by simp;omega)).inv
 ·exact((h.setSt (ac7 hst 1) (by simp;omega)).setLoc (fun j=>by show okN (if j=n.toNat then _ else _);split;exact an2 hst 0;exact h.loc j)).inv
 ·have r3':(m.st.length:Int) - 1+1<=64:=r3
  have r1':(1:Int)<=(m.st.length:Int):=r1 (by omega);exact(h.setSt (ac5 (bx0 n (an2 hst 0)) (ac7 hst 1)) (by simp;omega)).inv
 ·have r3':(m.st.length:Int) - 2+1<=64:=r3
  have r1':(2:Int)<=(m.st.length:Int):=r1 (by omega);exact(h.setSt (ac5 (bx1 n (an2 hst 1) (an2 hst 0)) (ac7 hst 2)) (by simp;omega)).inv
 ·exact(h.setPlace (au2 hi rfl rfl)).inv
 ·have hp:=au2 hi rfl rfl
  exact((h.setSt (ac7 hst 1) (by simp;omega)).setPlace (n:=if a95 (m.st.getD 0 0) then n else m.place) (by split;exact hp;exact h.place)).inv
 ·have hp:=au2 hi rfl rfl
  exact((h.setSt (ac7 hst 1) (by simp;omega)).setPlace (n:=if a95 (m.st.getD 0 0) then m.place else n) (by split;exact h.place;exact hp)).inv
 ·have hc:=r4 rfl
  exact((h.setCalls (c:=m.place::m.calls) (fun y hy=>by rcases List.mem_cons.1 hy with rfl | q;exact h.place;exact h.calls y q) (by simp;omega)).setPlace (au2 hi rfl rfl)).inv
 ·show Inv (retM m).1
  cases hc:m.calls with
  | nil =>
   rw[ao8 hc];exact h.ended 1 0 0 (by omega) (by omega) (by omega) m.out (by have:=h.out;omega)
  | cons c q =>
   rw[ai6 hc];have hq:=h.calls;have hd:=h.deep;rw[hc]at hq hd
   simp at hd
   exact((h.setCalls (c:=q) (fun y hy=>hq y (by simp[hy])) (by omega)).setPlace (hq c (by simp))).inv
 ·have r1':(1:Int)<=(m.st.length:Int):=r1 (by omega)
  have r3':(m.st.length:Int) - 1+1<=64:=r3
  show Inv (af3 m).1
  unfold af3
  cases ha:ae6 m with
  | false=>exact h.fails 50 (by omega)
  | true =>
   have hid:=ar5 (m.st.getD 0 0) h.cells.2 ha
   cases hh:hasC m.buf (addrV m) with
   | false =>
    rw[if_pos rfl,if_neg Bool.false_ne_true];exact(h.setSt (ac7 hst 1) (by simp;omega)).waits ⟨hid.1,hid.2.1⟩ (by simp;omega)
   | true =>
    rw[if_pos rfl,if_pos rfl];exact(h.setSt (ac5 (bu7 h.buf) (ac7 hst 1)) (by simp;omega)).readsSt (l:=m.reads ++ [(addrV m,getC m.buf (addrV m))]) (by have:=h.reads;simp;omega)
 ·show Inv (a86 m).1
  unfold a86
  cases hu:m.upd with
  | false=>exact h.fails 81 (by omega)
  | true =>
   cases ha:ae6 m with
   | false=>exact h.fails 50 (by omega)
   | true =>
    cases hp:mayP m.wmax m.buf (addrV m) with
    | false=>exact h.fails 70 (by omega)
    | true =>
     have:=((h.setSt (ac7 hst 2) (by simp;omega)).setBuf (l:=putC m.buf (addrV m) (m.st.getD 1 0)) (bj8 h.buf (an2 hst 1)) (aN8 hp h.few _) (fun q=>by have q':m.upd=false:=q;rw[hu]at q';cases q')).inv;rw[if_pos rfl,if_pos rfl,if_pos rfl];rw[<- hu];exact this
 ·exact(h.setSt (ac7 hst 1) (by simp;omega)).out' (l:=m.out ++ [m.st.getD 0 0]) (by have:=h.out;simp;omega)
 ·exact h.ended 2 n 0 (by omega) (by omega) (by omega) m.out (by have:=h.out;omega)
 ·exact h.ended 1 0 0 (by omega) (by omega) (by omega) m.out (by have:=h.out;omega)
theorem bv8 (h:Inv m) (hw:¬ 0<=m.wait) (h0:m.how=0) (hf:m.used<m.fuel) (hp:m.place<(m.code.length:Int)):Mid (begM m):=by
 have h1:=h.high;have h2:=h.reads;rw[if_neg hw]at h1 h2;have h3:=h.wait;have h4:=h.used;have h5:=h.place;have h6:=h.out;refine⟨h.cells,h.fuel,h.wmax,h.len,h.may,h.args,h.loc,h.st,by show m.st.length<=64;omega,h.calls,h.deep,by show 0<=m.place+1/\m.place+1<=(m.code.length:Int);omega,by show 0<=m.used+1/\m.used+1<=m.fuel;omega,by show (m.out.length:Int)<m.used+1;omega,by show (m.reads.length:Int)<m.used+1;omega,h.buf,h.few,by show m.wait=-1;omega,h0,h.none,?_,fun q=>?_⟩
 ·show m.err=0
  by_cases he:m.err=0
  ·exact he
  ·exact absurd (h.fail.2 he) (by rw[h0];decide)
 ·have q':m.code=[]:=q
  rw[q']at hp
  simp at hp
  omega
theorem aI1 (h:Inv m) (e:Int) (he:e≠0) (hf:e=80->m.used=m.fuel):Inv (ah8 m e).1 :=
 ⟨h.cells,h.fuel,h.wmax,h.len,h.may,h.args,h.loc,h.st,h.high,h.calls,h.deep,h.place,h.used,h.out,h.reads,h.buf,h.few,h.wait,by show (0:Int)<=3/\(3:Int)<=3;decide,h.none,⟨fun _=>he,fun _=>rfl⟩,hf,h.idle⟩
theorem ag5 (h:Inv m):Inv (a07 m).1:=by
 unfold a07
 by_cases hw:0<=m.wait
 ·rw[if_pos hw]
  exact h
 rw[if_neg hw]
 by_cases h0:m.how=0
 ·rw[if_pos h0]
  by_cases hf:m.used<m.fuel
  ·rw[if_pos hf]
   by_cases hp:m.place<(m.code.length:Int)
   ·rw[if_pos hp]
    have hM:=bv8 h hw h0 hf hp;have hk:m.place.toNat<m.code.length:=by have:=h.place;omega
    have hmay:=h.may _ hk
    cases hr:as2 (begM m) (insM m) with
    | false=>exact hM.fails 82 (by omega)
    | true =>
     rw[if_pos rfl];unfold insM at hr ⊢
     rcases hci:ci m.code m.place.toNat with⟨o,n,x⟩
     rw[hci]at hmay hr;obtain⟨q,hq⟩:∃ q:Nat,o=q:=⟨o.toNat,by have:=hmay.1;unfold mayB ab2 at this;simp at this;omega⟩
     subst hq;exact bF1 hM hmay.1 hmay.2 hr
   ·rw[if_neg hp]
    exact aI1 h 50 (by omega) (by omega)
  ·rw[if_neg hf]
   exact aI1 h 80 (by omega) (fun _=>by have:=h.used;omega)
 ·rw[if_neg h0]
  exact h
theorem aD6 (h:Inv m) {x:Nat} (hx:x<18446744073709551616):Inv (a65 m x):=by
 unfold a65
 by_cases hw:0<=m.wait
 ·rw[if_pos hw]
  have h1:=h.high;have h2:=h.reads;rw[if_pos hw]at h1 h2;have h3:=h.cells;exact⟨h.cells,h.fuel,h.wmax,h.len,h.may,h.args,h.loc,ac5 (a83 hx) h.st,by show ((fixB x::m.st).length:Int)+(if (0:Int)<=-1 then 1 else 0)<=64;rw[if_neg (by decide)];simp;omega,h.calls,h.deep,h.place,h.used,h.out,by show ((m.reads ++ [(m.wait,fixB x)]).length:Int)+(if (0:Int)<=-1 then 1 else 0)<=m.used;rw[if_neg (by decide)];simp;omega,h.buf,h.few,by show (-1:Int)<=-1/\(-1:Int)<m.cells;omega,h.how,h.none,h.fail,h.full,h.idle⟩
 ·rw[if_neg hw]
  exact h
theorem b55 {a b f e t:Int} {c:List Ins} {l:List Nat} (hc:Md.cfgB a b f e=true) (hx:∀ k,k<c.length->(ci c k).x<18446744073709551616) (hl:∀ x∈l,x<18446744073709551616):Inv (newM a f e t c l):=by
 obtain⟨h1,_,h3,h4⟩:=Md.cfgB_iff.1 hc;have hcode:(if ab1 t c then c else []).length<=1024/\∀ k,k<(if ab1 t c then c else []).length->mayB (ci (if ab1 t c then c else []) k) (if ab1 t c then c else []).length=true/\(ci (if ab1 t c then c else []) k).x<18446744073709551616:=by
  cases hq:ab1 t c with
  | false=>exact⟨by simp,fun k hk=>absurd hk (by simp)⟩
  | true =>
   have:=af9.1 hq;rw[if_pos rfl];exact⟨this.2.2.1,fun k hk=>⟨this.2.2.2 k hk,hx k hk⟩⟩
 refine⟨h1,h3,h4,hcode.1,hcode.2,fun k=>a83 ?_,fun _=>a92,fun x hx=>by simp[newM]at hx,by simp[newM],fun c hc=>by simp[newM]at hc,by simp[newM],by show (0:Int)<=0/\(0:Int)<=_;omega,by show (0:Int)<=0/\(0:Int)<=f;omega,by simp[newM],by simp[newM],fun t ht=>by simp[newM]at ht,by show ((([]:Wr).length:Nat):Int)<=e;simp;omega,by show (-1:Int)<=-1/\(-1:Int)<a;omega,by show (0:Int)<=0/\(0:Int)<=3;decide,fun _=>rfl,by show (0:Int)=3 ↔ (0:Int)≠0;decide,fun q=>absurd q (show ¬ (0:Int)=80 by decide),fun _=>rfl⟩;exact ad9 (P:=fun x=>x<18446744073709551616) 0 (by decide) l hl k
end
attribute [local go_sem] a00
attribute [local go_sem] a00
attribute [local go_sem] a00
attribute [local go_sem] a00
attribute [local go_sem] a00
section
variable {w:World}
theorem ax1 {w u:World} {a b c e t:Int} {ao:Option Addr} {n cap:Nat} (h:Below (newW w a b c e t ao n cap).heap.size (newW w a b c e t ao n cap) u) :
  u.cell? ⟨w.heap.size,0,none⟩=some (.int .i64 a)/\u.cell? ⟨w.heap.size,1,none⟩=some (.int .i64 b)/\u.cell? ⟨w.heap.size,2,none⟩=some (.int .i64 c)/\u.cell? ⟨w.heap.size,3,none⟩=some (.int .i64 e)/\w.heap.size<u.heap.size:=by
 have b1:u.heap[w.heap.size]?=some (cfgO a b c e):=(h.block _ (by simp;omega)).trans ((heap_alloc_old _ _ (by simp)).trans (zN w _));exact Md.cells4 b1
end
structure Like (m m':Mac):Prop where
 cells:m'.cells=m.cells
 fuel:m'.fuel=m.fuel
 wmax:m'.wmax=m.wmax
 upd:m'.upd=m.upd
 code:m'.code=m.code
theorem Like.refl (m:Mac):Like m m:=⟨rfl,rfl,rfl,rfl,rfl⟩
theorem Like.trans {a b c:Mac} (h:Like a b) (k:Like b c):Like a c:=⟨k.cells.trans h.cells,k.fuel.trans h.fuel,k.wmax.trans h.wmax,k.upd.trans h.upd,k.code.trans h.code⟩
def Ends (_m:Mac) (r:Mac × Ask):Prop:=r.2.kind=4/\r.1.how≠0/\¬ 0<=r.1.wait
def bI4 (m:Mac) (r:Mac × Ask):Prop:=r.2.kind=1/\r.2.cell=r.1.wait/\0<=r.1.wait/\r.1.how=0/\r.1.used=m.used+1
def Goes (m:Mac) (r:Mac × Ask):Prop:=(r.2.kind=0∨r.2.kind=2∨r.2.kind=3)/\¬ 0<=r.1.wait/\r.1.how=0/\r.1.used=m.used+1
def aL3 (m:Mac) (r:Mac × Ask):Prop:=Like m r.1/\(Ends m r∨bI4 m r∨Goes m r)
section
variable {m:Mac}
theorem av3 (hw:¬ 0<=m.wait) (e:Int):aL3 m (ah8 m e):=⟨⟨rfl,rfl,rfl,rfl,rfl⟩,.inl ⟨rfl,by show (3:Int)≠0;decide,hw⟩⟩
theorem ac8 (hw:¬ 0<=m.wait) (e:Int):aL3 m (ah8 (begM m) e):=⟨⟨rfl,rfl,rfl,rfl,rfl⟩,.inl ⟨rfl,by show (3:Int)≠0;decide,hw⟩⟩
theorem be3 (hw:¬ 0<=m.wait) (h0:m.how=0) (hcl:m.cells<=256) {k:Nat} {n:Int} {x:Nat} (hk:1<=k/\k<21):aL3 m (doM (begM m) ⟨k,n,x⟩):=by
 have hkk:k=1∨k=2∨k=3∨k=4∨k=5∨k=6∨k=7∨k=8∨k=9∨k=10∨k=11∨k=12∨k=13∨k=14∨k=15∨k=16∨k=17∨k=18∨k=19∨k=20:=by omega
 rcases hkk with rfl | rfl | rfl | rfl | rfl | rfl | rfl | rfl | rfl | rfl | rfl | rfl | rfl | rfl | rfl | rfl | rfl | rfl | rfl | rfl
 ·exact⟨⟨rfl,rfl,rfl,rfl,rfl⟩,.inr (.inr ⟨.inl rfl,hw,h0,rfl⟩)⟩
 ·exact⟨⟨rfl,rfl,rfl,rfl,rfl⟩,.inr (.inr ⟨.inl rfl,hw,h0,rfl⟩)⟩
 ·exact⟨⟨rfl,rfl,rfl,rfl,rfl⟩,.inr (.inr ⟨.inl rfl,hw,h0,rfl⟩)⟩
 ·exact⟨⟨rfl,rfl,rfl,rfl,rfl⟩,.inr (.inr ⟨.inl rfl,hw,h0,rfl⟩)⟩
 ·exact⟨⟨rfl,rfl,rfl,rfl,rfl⟩,.inr (.inr ⟨.inl rfl,hw,h0,rfl⟩)⟩
 ·exact⟨⟨rfl,rfl,rfl,rfl,rfl⟩,.inr (.inr ⟨.inl rfl,hw,h0,rfl⟩)⟩
 ·exact⟨⟨rfl,rfl,rfl,rfl,rfl⟩,.inr (.inr ⟨.inl rfl,hw,h0,rfl⟩)⟩
 ·exact⟨⟨rfl,rfl,rfl,rfl,rfl⟩,.inr (.inr ⟨.inl rfl,hw,h0,rfl⟩)⟩
 ·exact⟨⟨rfl,rfl,rfl,rfl,rfl⟩,.inr (.inr ⟨.inl rfl,hw,h0,rfl⟩)⟩
 ·exact⟨⟨rfl,rfl,rfl,rfl,rfl⟩,.inr (.inr ⟨.inl rfl,hw,h0,rfl⟩)⟩
 ·exact⟨⟨rfl,rfl,rfl,rfl,rfl⟩,.inr (.inr ⟨.inl rfl,hw,h0,rfl⟩)⟩
 ·exact⟨⟨rfl,rfl,rfl,rfl,rfl⟩,.inr (.inr ⟨.inl rfl,hw,h0,rfl⟩)⟩
 ·exact⟨⟨rfl,rfl,rfl,rfl,rfl⟩,.inr (.inr ⟨.inl rfl,hw,h0,rfl⟩)⟩
 ·exact⟨⟨rfl,rfl,rfl,rfl,rfl⟩,.inr (.inr ⟨.inl rfl,hw,h0,rfl⟩)⟩
 ·show aL3 m (retM (begM m))
  cases hc:(begM m).calls with
  | nil =>
   rw[ao8 hc];exact⟨⟨rfl,rfl,rfl,rfl,rfl⟩,.inl ⟨rfl,by show (1:Int)≠0;decide,hw⟩⟩
  | cons c q =>
   rw[ai6 hc];exact⟨⟨rfl,rfl,rfl,rfl,rfl⟩,.inr (.inr ⟨.inl rfl,hw,h0,rfl⟩)⟩
 ·show aL3 m (af3 (begM m))
  unfold af3
  cases ha:ae6 (begM m) with
  | false=>exact ac8 hw 50
  | true =>
   have hid:=ar5 ((begM m).st.getD 0 0) (n:=m.cells) hcl ha
   cases hh:hasC (begM m).buf (addrV (begM m)) with
   | false =>
    rw[if_pos rfl,if_neg Bool.false_ne_true];exact⟨⟨rfl,rfl,rfl,rfl,rfl⟩,.inr (.inl ⟨rfl,rfl,hid.1,h0,rfl⟩)⟩
   | true =>
    rw[if_pos rfl,if_pos rfl];exact⟨⟨rfl,rfl,rfl,rfl,rfl⟩,.inr (.inr ⟨.inr (.inl rfl),hw,h0,rfl⟩)⟩
 ·show aL3 m (a86 (begM m))
  unfold a86
  cases hu:(begM m).upd with
  | false=>exact ac8 hw 81
  | true =>
   cases ha:ae6 (begM m) with
   | false=>exact ac8 hw 50
   | true =>
    cases hp:mayP (begM m).wmax (begM m).buf (addrV (begM m)) with
    | false=>exact ac8 hw 70
    | true =>
     rw[if_pos rfl,if_pos rfl,if_pos rfl];exact⟨⟨rfl,rfl,rfl,hu.symm ▸ rfl,rfl⟩,.inr (.inr ⟨.inr (.inr rfl),hw,h0,rfl⟩)⟩
 ·exact⟨⟨rfl,rfl,rfl,rfl,rfl⟩,.inr (.inr ⟨.inl rfl,hw,h0,rfl⟩)⟩
 ·exact⟨⟨rfl,rfl,rfl,rfl,rfl⟩,.inl ⟨rfl,by show (2:Int)≠0;decide,hw⟩⟩
 ·exact⟨⟨rfl,rfl,rfl,rfl,rfl⟩,.inl ⟨rfl,by show (1:Int)≠0;decide,hw⟩⟩
theorem a77 (h:Inv m) (hw:¬ 0<=m.wait) (h0:m.how=0):aL3 m (a07 m):=by
 unfold a07;rw[if_neg hw,if_pos h0]
 by_cases hf:m.used<m.fuel
 ·rw[if_pos hf]
  by_cases hp:m.place<(m.code.length:Int)
  ·rw[if_pos hp]
   have hk:m.place.toNat<m.code.length:=by have:=h.place;omega
   have hmay:=h.may _ hk
   cases hr:as2 (begM m) (insM m) with
   | false=>exact ac8 hw 82
   | true =>
    rw[if_pos rfl];unfold insM
    rcases hci:ci m.code m.place.toNat with⟨o,n,x⟩
    rw[hci]at hmay;obtain⟨q,hq⟩:∃ q:Nat,o=q:=⟨o.toNat,by have:=hmay.1;unfold mayB ab2 at this;simp at this;omega⟩
    subst hq;exact be3 hw h0 h.cells.2 (aj4 hmay.1).1
  ·rw[if_neg hp]
   exact av3 hw 50
 ·rw[if_neg hf]
  exact av3 hw 80
theorem aw2 (hw:0<=m.wait) (x:Nat):¬ 0<=(a65 m x).wait/\(a65 m x).how=m.how/\(a65 m x).used=m.used/\Like m (a65 m x):=by
 unfold a65;rw[if_pos hw];exact⟨by show ¬ (0:Int)<=-1;decide,rfl,rfl,⟨rfl,rfl,rfl,rfl,rfl⟩⟩
end
attribute [local go_sem] a00 frombits_run bits_run
attribute [local go_sem] a00
section
variable {w:World}
theorem aR7 {a b c e t:Int} {ao:Option Addr} {cs:List Ins} {n cap:Nat} {po:Option Addr} {l:List Nat} {k co:Nat} (hn:cs.length=n) (hk:l.length=k) (hT:Shaped5 w) (hC:a39 w ao cs) (hL:FlAt w po l) (hnl:n<=9223372036854775807) (hc:Md.cfgB a b c e=true) (hk8:k<=8):Calls Tryz.prog 88 #[cfgV a b c e,.agg #[.int .i64 t,.slice ao n cap],.slice po k co] w fun r w'=>∃ bm K,r=.returned (.pointer (some ⟨bm,0,none⟩))/\Gm w [] bm K w' (newM a c e t cs l)/\Abv w.heap.size K:=by
 cases hq:ab1 t cs
 ·exact bw0 hc hn hk hk8 hT hC hL hnl hq
 ·exact bh7 hc hn hk hk8 hT hC hL hnl hq
end
def Bufs (m:Mac) (r:Mac × Ask):Prop :=
 (r.2.kind=0/\r.1.buf=m.buf)∨(r.2.kind=4/\r.1.buf=m.buf)∨(r.2.kind=1/\r.1.buf=m.buf/\hasC m.buf r.2.cell=false/\0<=r.2.cell/\r.2.cell<m.cells) ∨
 (r.2.kind=2/\r.1.buf=m.buf/\hasC m.buf r.2.cell=true/\r.2.x=getC m.buf r.2.cell/\0<=r.2.cell/\r.2.cell<m.cells) ∨
 (r.2.kind=3/\r.1.buf=putC m.buf r.2.cell r.2.x/\r.2.first=!hasC m.buf r.2.cell/\0<=r.2.cell/\r.2.cell<m.cells)
section
variable {m:Mac}
theorem aA5 (e:Int):Bufs m (ah8 m e):=.inr (.inl ⟨rfl,rfl⟩)
theorem ac9 (e:Int):Bufs m (ah8 (begM m) e):=.inr (.inl ⟨rfl,rfl⟩)
theorem bt9 (hcl:m.cells<=256) {k:Nat} {n:Int} {x:Nat} (hk:1<=k/\k<21):Bufs m (doM (begM m) ⟨k,n,x⟩):=by
 have hkk:k=1∨k=2∨k=3∨k=4∨k=5∨k=6∨k=7∨k=8∨k=9∨k=10∨k=11∨k=12∨k=13∨k=14∨k=15∨k=16∨k=17∨k=18∨k=19∨k=20:=by omega
 rcases hkk with rfl | rfl | rfl | rfl | rfl | rfl | rfl | rfl | rfl | rfl | rfl | rfl | rfl | rfl | rfl | rfl | rfl | rfl | rfl | rfl
 iterate 14 exact .inl ⟨rfl,rfl⟩
 ·show Bufs m (retM (begM m))
  cases hc:(begM m).calls with
  | nil =>
   rw[ao8 hc];exact .inr (.inl ⟨rfl,rfl⟩)
  | cons c q =>
   rw[ai6 hc];exact .inl ⟨rfl,rfl⟩
 ·show Bufs m (af3 (begM m))
  unfold af3
  cases ha:ae6 (begM m) with
  | false=>exact ac9 50
  | true =>
   have hid:=ar5 ((begM m).st.getD 0 0) (n:=m.cells) hcl ha
   cases hh:hasC (begM m).buf (addrV (begM m)) with
   | false =>
    rw[if_pos rfl,if_neg Bool.false_ne_true];exact .inr (.inr (.inl ⟨rfl,rfl,hh,hid.1,hid.2.1⟩))
   | true =>
    rw[if_pos rfl,if_pos rfl];exact .inr (.inr (.inr (.inl ⟨rfl,rfl,hh,rfl,hid.1,hid.2.1⟩)))
 ·show Bufs m (a86 (begM m))
  unfold a86
  cases hu:(begM m).upd with
  | false=>exact ac9 81
  | true =>
   cases ha:ae6 (begM m) with
   | false=>exact ac9 50
   | true =>
    have hid:=ar5 ((begM m).st.getD 0 0) (n:=m.cells) hcl ha
    cases hp:mayP (begM m).wmax (begM m).buf (addrV (begM m)) with
    | false=>exact ac9 70
    | true =>
     rw[if_pos rfl,if_pos rfl,if_pos rfl];exact .inr (.inr (.inr (.inr ⟨rfl,rfl,rfl,hid.1,hid.2.1⟩)))
 ·exact .inl ⟨rfl,rfl⟩
 ·exact .inr (.inl ⟨rfl,rfl⟩)
 ·exact .inr (.inl ⟨rfl,rfl⟩)
theorem ai9 (h:Inv m) (hw:¬ 0<=m.wait) (h0:m.how=0):Bufs m (a07 m):=by
 unfold a07;rw[if_neg hw,if_pos h0]
 by_cases hf:m.used<m.fuel
 ·rw[if_pos hf]
  by_cases hp:m.place<(m.code.length:Int)
  ·rw[if_pos hp]
   have hk:m.place.toNat<m.code.length:=by have:=h.place;omega
   have hmay:=h.may _ hk
   cases hr:as2 (begM m) (insM m) with
   | false=>exact ac9 82
   | true =>
    rw[if_pos rfl];unfold insM
    rcases hci:ci m.code m.place.toNat with⟨o,n,x⟩
    rw[hci]at hmay;obtain⟨q,hq⟩:∃ q:Nat,o=q:=⟨o.toNat,by have:=hmay.1;unfold mayB ab2 at this;simp at this;omega⟩
    subst hq;exact bt9 h.cells.2 (aj4 hmay.1).1
  ·rw[if_neg hp]
   exact aA5 50
 ·rw[if_neg hf]
  exact aA5 80
theorem aw1 (x:Nat):(a65 m x).buf=m.buf:=by
 unfold a65
 split <;> rfl
end
attribute [local go_sem] a00
theorem row_put {E:TypeId} {w:World} {g c:Nat} {xs:List Value} (h:RowAt E w (some ⟨g,0,none⟩) c xs) (i:Nat) (z:Value):RowAt E (w.setCell ⟨g,i,none⟩ z) (some ⟨g,0,none⟩) c (xs.set i z)/\Turn [g] [g] w (w.setCell ⟨g,i,none⟩ z):=by
 obtain⟨hs,_⟩:=h.own.stored i z;refine⟨⟨?_⟩,a26 w g i z⟩;rw[List.length_set];exact hs
theorem row_get {E:TypeId} {w:World} {g c:Nat} {xs:List Value} (h:RowAt E w (some ⟨g,0,none⟩) c xs) {j:Nat} {v:Value} (hv:xs[j]?=some v):w.cell? ⟨g,j,none⟩=some v/\w.frozen? ⟨g,j,none⟩=false/\g<w.heap.size:=by
 rcases h.own.2 with⟨q,_⟩ | ⟨g',cap,cur,hq,_,hg,_⟩
 ·cases q
 ·cases hq
  refine⟨?_,zZ w g j _ _ hg,lt_of_block hg⟩;have:=World.ownsRow.cells h.own (g:=g) rfl j v hv;rwa[show (⟨g,0,none⟩:Addr).add j=⟨g,j,none⟩ by unfold Addr.add;split <;> simp_all]at this
end Go.Proofs.YtipakfjpfjehmaaGreatDoor
namespace Go.Proofs.YtipakfjpfjehmaaGreatDoor.Md
open Go.ChangeShapes Go.WideShapes Go.ChangeAt Go.RowKit
theorem aM8 (w:World) (pm pa pt b g k n:Nat) (x:Int) (u:Value) (h0:w.cell? ⟨pm,0,none⟩=some (.pointer (some ⟨b,0,none⟩))) (h1:w.cell? ⟨pa,0,none⟩=some (.int .i64 k)) (h2:w.cell? ⟨b,0,none⟩=some (.slice (some ⟨g,0,none⟩) n n)) (h3:w.cell? ⟨g,k,none⟩=some (.int .u64 x)) (hk:(k:Int)<(n:Int)) (h4:w.cell? ⟨pt,0,none⟩=some u) (h5:w.frozen? ⟨pt,0,none⟩=false) :
  Calls Tryz.prog 127 #[.pointer (some ⟨pm,0,none⟩),.pointer (some ⟨pa,0,none⟩),.pointer (some ⟨pt,0,none⟩)] w fun e w'=>e=.returned (.tuple #[])/\w'=(w.setCell ⟨pt,0,none⟩ (.int .u64 x)).drew:=by
 go_enter Tryz.func127,Tryz.ntmps127
 go_wp2
 go_region
 all_goals (try go_wp2)
 all_goals go_end0
 all_goals exact⟨rfl,rfl⟩
theorem aK7 (w:World) (pm pa pv b g k n:Nat) (x v:Int) (h0:w.cell? ⟨pm,0,none⟩=some (.pointer (some ⟨b,0,none⟩))) (h1:w.cell? ⟨pa,0,none⟩=some (.int .i64 k)) (h2:w.cell? ⟨b,0,none⟩=some (.slice (some ⟨g,0,none⟩) n n)) (h3:w.cell? ⟨g,k,none⟩=some (.int .u64 x)) (hk:(k:Int)<(n:Int)) (h4:w.cell? ⟨pv,0,none⟩=some (.int .u64 v)) (h5:w.frozen? ⟨g,k,none⟩=false) :
  Calls Tryz.prog 185 #[.pointer (some ⟨pv,0,none⟩),.pointer (some ⟨pm,0,none⟩),.pointer (some ⟨pa,0,none⟩)] w fun e w'=>e=.returned (.tuple #[])/\w'=(w.setCell ⟨g,k,none⟩ (.int .u64 v)).drew:=by
 go_enter Tryz.func185,Tryz.ntmps185
 go_wp2
 go_region
 all_goals (try go_wp2)
 all_goals go_end0
 all_goals exact⟨rfl,rfl⟩
theorem aU1 (w:World) (pm pa pt pn b g k n:Nat) (x v:Int) (u:Value) (h0:w.cell? ⟨pm,0,none⟩=some (.pointer (some ⟨b,0,none⟩))) (h1:w.cell? ⟨pa,0,none⟩=some (.int .i64 k)) (h2:w.cell? ⟨b,0,none⟩=some (.slice (some ⟨g,0,none⟩) n n)) (h3:w.cell? ⟨g,k,none⟩=some (.int .u64 x)) (hk:(k:Int)<(n:Int)) (h4:w.cell? ⟨pt,0,none⟩=some u) (h5:w.frozen? ⟨pt,0,none⟩=false)
  (h6:w.cell? ⟨pn,0,none⟩=some (.int .u64 v)) (h7:w.frozen? ⟨g,k,none⟩=false) (e1:pm≠pt) (e2:pa≠pt) (e3:b≠pt) (e4:g≠pt) (e5:pn≠pt) :
  Calls Tryz.prog 121 #[.pointer (some ⟨pm,0,none⟩),.pointer (some ⟨pa,0,none⟩),.pointer (some ⟨pt,0,none⟩),.pointer (some ⟨pn,0,none⟩)] w fun e w'=>e=.returned (.tuple #[])/\w'=(((w.setCell ⟨pt,0,none⟩ (.int .u64 x)).setCell ⟨g,k,none⟩ (.int .u64 (addV x v))).drew).drew:=by
 unfold addV;go_enter Tryz.func121,Tryz.ntmps121
 go_wp2
 go_region
 all_goals (try go_wp2)
 all_goals (try go_region)
 all_goals (try go_wp2)
 all_goals go_end0
 all_goals exact⟨rfl,rfl⟩
section
variable {w:World} {b g:Nat} {ws:List Int} {o:Bool} {c:Int}
theorem ak8 (h:MemAt 106 w b g ws o c) (i:Int) (hi:hasB ws i=false) (f:Fn) (first cap:Array Value):Calls Tryz.prog 120 #[.pointer (some ⟨b,0,none⟩),.int .i64 i,.func f first cap] w fun e w'=>e=.returned (.int .i64 30)/\w'=w:=by
 have HM:Hid (MemAt 106 w b g ws o c):=h;clear h;go_enter Tryz.func120,Tryz.ntmps120
 go_wp2_with (go_at_call 74;refine(aa2 HM.out _).mono ?_;rw[hi];rintro e w' ⟨rfl,hw⟩;subst w')
 go_ret;exact⟨rfl,rfl⟩
theorem ai0 (h:MemAt 106 w b g ws false c) (i:Int) (hi:hasB ws i=true) (f:Fn) (first cap:Array Value):Calls Tryz.prog 120 #[.pointer (some ⟨b,0,none⟩),.int .i64 i,.func f first cap] w fun e w'=>e=.returned (.int .i64 31)/\w'=w:=by
 have HM:Hid (MemAt 106 w b g ws false c):=h;have h1:=h.cell1;have hb:=h.ltB;clear h;go_enter Tryz.func120,Tryz.ntmps120
 go_wp2_with (go_at_call 74;refine(aa2 HM.out _).mono ?_;rw[hi];rintro e w' ⟨rfl,hw⟩;subst w')
 go_ret;exact⟨rfl,rfl⟩
theorem ap9 (h:MemAt 106 w b g ws true c) (i:Int) (hi:hasB ws i=true) (f:FuncId) (cap:Array Value) (Q:World->Prop) (hcall:∀ (args:Array Value) (w:World),(callFunc f args).run Tryz.prog w=.ok (.enter f args) w)
  (hf:Calls Tryz.prog f cap ((w.setCell ⟨b,1,none⟩ (.bool false)).setCell ⟨b,2,none⟩ (.int .i64 (up c))) fun e w'=>e=.returned (.tuple #[])/\Q w'):Calls Tryz.prog 120 #[.pointer (some ⟨b,0,none⟩),.int .i64 i,.func (.func f) #[] cap] w fun e w'=>e=.returned (.int .i64 0)/\Q w':=by
 have HM:Hid (MemAt 106 w b g ws true c):=h;have h1:=h.cell1;have h2:=h.cell2;have hb:=h.ltB;have hf1:=h.freeB 1;have hf2:=h.freeB 2;have HF:=zH hf;clear h hf;unfold up at HF;go_enter Tryz.func120,Tryz.ntmps120
 go_wp2_with (first | (go_at_call 74;refine(aa2 HM.out _).mono ?_;rw[hi];rintro e w' ⟨rfl,hw⟩;subst w') | (refine HF.out.mono ?_;rintro e w' ⟨rfl,hq⟩))
 go_ret;exact⟨rfl,hq⟩
end
theorem enter_run {f : FuncId} {fn : Func} (hf : Tryz.prog.funcs[f]? = some fn) (hname : (fn.name == "runtime.NumGoroutine") = false) (hb : fn.body.isSome = true) (args : Array Value) (w : World) : (callFunc f args).run Tryz.prog w = .ok (.enter f args) w := by
 obtain⟨c,hb⟩:=Option.isSome_iff_exists.1 hb;have h1 : fn.name ≠ "runtime.NumGoroutine" := by simpa using hname
 simp[callFunc,hf,h1,hb,mark]
section
variable {w:World} {b g:Nat} {ws:List Int} {o:Bool} {c:Int}
def poked (ws:List Int) (i v:Int):List Int:=if hasB ws i then ws.set i.toNat v else ws
def stored (ws:List Int) (o:Bool) (i v:Int):List Int:=if hasB ws i && o then ws.set i.toNat v else ws
def a53 (ws:List Int) (o:Bool) (i:Int):Bool:=if hasB ws i then false else o
def a52 (ws:List Int) (o:Bool) (i c:Int):Int:=if hasB ws i && o then up c else c
def toldW (ws:List Int) (o:Bool) (i:Int):Int:=if hasB ws i && o then wordAt ws i else 0
theorem bj4 (h:MemAt 106 w b g ws o c) (i v:Int):Calls Tryz.prog 54 #[.pointer (some ⟨b,0,none⟩),.int .i64 i,.int .u64 v] w fun e w'=>e=.returned (.int .i64 (errP ws i))/\MemAt 106 w' b g (poked ws i v) o c/\Chg b g w w':=by
 have h0:=h.cell0;have hb:=h.ltB;have hg:=h.ltG;have HM:Hid (MemAt 106 w b g ws o c):=h;unfold errP poked
 cases hh:hasB ws i
 ·clear h
  go_enter Tryz.func54,Tryz.ntmps54
  go_wp2_with (go_at_call 74;refine(aa2 HM.out _).mono ?_;rw[hh];rintro e w' ⟨rfl,hw⟩;subst w')
  go_ret;exact⟨rfl,HM.out,Chg.refl _ _ _⟩
 ·obtain⟨k,rfl,hk⟩:=an3 hh
  have hx:=h.word hk;have hf:=h.freeG k;have hk2:(k:Int)<(ws.length:Int):=by omega
  clear h;go_enter Tryz.func54,Tryz.ntmps54
  go_wp2_with (go_at_call 74;refine(aa2 HM.out _).mono ?_;rw[hh];rintro e w' ⟨rfl,hw⟩;subst w')
  try go_region
  all_goals (try go_wp2)
  all_goals go_ret
  all_goals exact⟨rfl,HM.out.setW k v,(Chg.refl _ _ _).setG _ _⟩
theorem aW1 (h:MemAt 106 w b g ws true c) {k:Nat} (hk:k<ws.length) :
  Calls Tryz.prog 127 #[.pointer (some ⟨w.heap.size,0,none⟩),.pointer (some ⟨w.heap.size+1,0,none⟩),.pointer (some ⟨w.heap.size+1+1,0,none⟩)] (((((w.alloc (.cells #[.pointer (some ⟨b,0,none⟩)] 67)).alloc (.cells #[.int .i64 k] 3)).alloc (.cells #[.int .u64 0] 52)).setCell ⟨b,1,none⟩ (.bool false)).setCell ⟨b,2,none⟩ (.int .i64 (up c))) fun e w'=>e=.returned (.tuple #[]) /\
   (w'.cell? ⟨w.heap.size+1+1,0,none⟩=some (.int .u64 (wordAt ws k))/\MemAt 106 w' b g ws false (up c)/\Chg b g w w'):=by
 have hb:=h.ltB;have hg:=h.ltG;have hv:wordAt ws k=ws[k]:=by simp[wordAt,hk]
 have HM0:=(((((h.alloc (.cells #[.pointer (some ⟨b,0,none⟩)] 67)).alloc (.cells #[.int .i64 k] 3)).alloc (.cells #[.int .u64 0] 52)).setO false).setC (up c));have HM:=(HM0.other (n:=w.heap.size+1+1) (by omega) (by omega) 0 (.int .u64 ws[k])).drew;have HC:=((((((Chg.refl b g w).alloc (.cells #[.pointer (some ⟨b,0,none⟩)] 67)).alloc (.cells #[.int .i64 k] 3)).alloc (.cells #[.int .u64 0] 52)).setB 1 (.bool false)).setB 2 (.int .i64 (up c))).setN (n:=w.heap.size+1+1) (by omega) 0 (.int .u64 ws[k]) |>.drew;rw[hv];refine(aM8 _ w.heap.size (w.heap.size+1) (w.heap.size+1+1) b g k ws.length ws[k] (.int .u64 0) ?_ ?_ HM0.cell0 (HM0.word hk) (by omega) ?_ ?_).mono ?_
 ·simp[go_sem]
 ·simp[go_sem]
 ·simp[go_sem]
 ·simp[go_sem]
 ·rintro e w' ⟨he,rfl⟩
  refine⟨he,?_,HM,HC⟩
  simp[go_sem]
theorem aO6 (h:MemAt 106 w b g ws true c) (v:Int) {k:Nat} (hk:k<ws.length) :
  Calls Tryz.prog 185 #[.pointer (some ⟨w.heap.size+1+1,0,none⟩),.pointer (some ⟨w.heap.size,0,none⟩),.pointer (some ⟨w.heap.size+1,0,none⟩)] (((((w.alloc (.cells #[.pointer (some ⟨b,0,none⟩)] 67)).alloc (.cells #[.int .i64 k] 3)).alloc (.cells #[.int .u64 v] 52)).setCell ⟨b,1,none⟩ (.bool false)).setCell ⟨b,2,none⟩ (.int .i64 (up c))) fun e w'=>e=.returned (.tuple #[]) /\
   (MemAt 106 w' b g (ws.set k v) false (up c)/\Chg b g w w'):=by
 have hb:=h.ltB;have hg:=h.ltG;have HM0:=(((((h.alloc (.cells #[.pointer (some ⟨b,0,none⟩)] 67)).alloc (.cells #[.int .i64 k] 3)).alloc (.cells #[.int .u64 v] 52)).setO false).setC (up c));have HC:=((((((Chg.refl b g w).alloc (.cells #[.pointer (some ⟨b,0,none⟩)] 67)).alloc (.cells #[.int .i64 k] 3)).alloc (.cells #[.int .u64 v] 52)).setB 1 (.bool false)).setB 2 (.int .i64 (up c))).setG k (.int .u64 v) |>.drew;refine(aK7 _ w.heap.size (w.heap.size+1) (w.heap.size+1+1) b g k ws.length ws[k] v ?_ ?_ HM0.cell0 (HM0.word hk) (by omega) ?_ (HM0.freeG k)).mono ?_
 ·simp[go_sem]
 ·simp[go_sem]
 ·simp[go_sem]
 ·rintro e w' ⟨he,rfl⟩
  exact⟨he,(HM0.setW k v).drew,HC⟩
theorem aZ2 (h:MemAt 106 w b g ws true c) (v:Int) {k:Nat} (hk:k<ws.length) :
  Calls Tryz.prog 121 #[.pointer (some ⟨w.heap.size,0,none⟩),.pointer (some ⟨w.heap.size+1,0,none⟩),.pointer (some ⟨w.heap.size+1+1+1,0,none⟩),.pointer (some ⟨w.heap.size+1+1,0,none⟩)] ((((((w.alloc (.cells #[.pointer (some ⟨b,0,none⟩)] 67)).alloc (.cells #[.int .i64 k] 3)).alloc (.cells #[.int .u64 v] 52)).alloc (.cells #[.int .u64 0] 52)).setCell ⟨b,1,none⟩ (.bool false)).setCell ⟨b,2,none⟩ (.int .i64 (up c))) fun e w'=>e=.returned (.tuple #[]) /\
   (w'.cell? ⟨w.heap.size+1+1+1,0,none⟩=some (.int .u64 (wordAt ws k))/\MemAt 106 w' b g (ws.set k (addV (wordAt ws k) v)) false (up c)/\Chg b g w w'):=by
 have hb:=h.ltB;have hg:=h.ltG;have hv:wordAt ws k=ws[k]:=by simp[wordAt,hk]
 have HM0:=((((((h.alloc (.cells #[.pointer (some ⟨b,0,none⟩)] 67)).alloc (.cells #[.int .i64 k] 3)).alloc (.cells #[.int .u64 v] 52)).alloc (.cells #[.int .u64 0] 52)).setO false).setC (up c));have HM:=((HM0.other (n:=w.heap.size+1+1+1) (by omega) (by omega) 0 (.int .u64 ws[k])).setW k (addV ws[k] v)).drew.drew;have HC:=(((((((Chg.refl b g w).alloc (.cells #[.pointer (some ⟨b,0,none⟩)] 67)).alloc (.cells #[.int .i64 k] 3)).alloc (.cells #[.int .u64 v] 52)).alloc (.cells #[.int .u64 0] 52)).setB 1 (.bool false)).setB 2 (.int .i64 (up c))).setN (n:=w.heap.size+1+1+1) (by omega) 0 (.int .u64 ws[k]) |>.setG k (.int .u64 (addV ws[k] v)) |>.drew.drew;rw[hv];refine(aU1 _ w.heap.size (w.heap.size+1) (w.heap.size+1+1+1) (w.heap.size+1+1) b g k ws.length ws[k] v (.int .u64 0) ?_ ?_ HM0.cell0 (HM0.word hk) (by omega) ?_ ?_ ?_ (HM0.freeG k) (by omega) (by omega) (by omega) (by omega) (by omega)).mono ?_
 ·simp[go_sem]
 ·simp[go_sem]
 ·simp[go_sem]
 ·simp[go_sem]
 ·simp[go_sem]
 ·rintro e w' ⟨he,rfl⟩
  refine⟨he,?_,HM,HC⟩;rw[World.cell?_drew,World.cell?_drew,World.cell?_setCell_other (h:=fun e=>by have:=congrArg Addr.block e;simp at this;omega)]
  simp[go_sem]
theorem aa5 (h:MemAt 106 w b g ws o c) (i:Int):Calls Tryz.prog 124 #[.pointer (some ⟨b,0,none⟩),.int .i64 i] w fun e w'=>e=.returned (.tuple #[.int .u64 (toldW ws o i),.int .i64 (errA ws o i)])/\MemAt 106 w' b g ws (a53 ws o i) (a52 ws o i c)/\Chg b g w w':=by
 have HM:Hid (MemAt 106 w b g ws o c):=h;clear h;unfold errA a53 a52 toldW
 cases hh:hasB ws i
 ·go_enter Tryz.func124,Tryz.ntmps124
  go_wp2_with (go_at_call 120;refine(ak8 (((HM.out.alloc _).alloc _).alloc _) _ hh _ _ _).mono ?_;rintro e w' ⟨rfl,hw⟩;subst w')
  go_ret2;exact⟨rfl,((HM.out.alloc _).alloc _).alloc _,(((Chg.refl _ _ _).alloc _).alloc _).alloc _⟩
 ·obtain⟨k,rfl,hk⟩:=an3 hh
  cases o
  ·go_enter Tryz.func124,Tryz.ntmps124
   go_wp2_with (go_at_call 120;refine(ai0 (((HM.out.alloc _).alloc _).alloc _) _ hh _ _ _).mono ?_;rintro e w' ⟨rfl,hw⟩;subst w')
   go_ret2;exact⟨rfl,((HM.out.alloc _).alloc _).alloc _,(((Chg.refl _ _ _).alloc _).alloc _).alloc _⟩
  ·have HA:=zH (aW1 HM.out hk)
   go_enter Tryz.func124,Tryz.ntmps124
   go_wp2_with (go_at_call 120;refine(ap9 (((HM.out.alloc _).alloc _).alloc _) _ hh _ _ _ (enter_run Tryz.func127 (by kernel_rfl) (by kernel_rfl)) HA.out).mono ?_;rintro e w' ⟨rfl,hc,hm,hz⟩;replace hm:=zH hm)
   go_ret2;exact⟨rfl,hm.out,hz⟩
theorem af5 (h:MemAt 106 w b g ws o c) (i v:Int):Calls Tryz.prog 171 #[.pointer (some ⟨b,0,none⟩),.int .i64 i,.int .u64 v] w fun e w'=>e=.returned (.int .i64 (errA ws o i))/\MemAt 106 w' b g (stored ws o i v) (a53 ws o i) (a52 ws o i c)/\Chg b g w w':=by
 have HM:Hid (MemAt 106 w b g ws o c):=h;clear h;unfold errA a53 a52 stored
 cases hh:hasB ws i
 ·go_enter Tryz.func171,Tryz.ntmps171
  go_wp2_with (go_at_call 120;refine(ak8 (((HM.out.alloc _).alloc _).alloc _) _ hh _ _ _).mono ?_;rintro e w' ⟨rfl,hw⟩;subst w')
  go_ret;exact⟨rfl,((HM.out.alloc _).alloc _).alloc _,(((Chg.refl _ _ _).alloc _).alloc _).alloc _⟩
 ·obtain⟨k,rfl,hk⟩:=an3 hh
  cases o
  ·go_enter Tryz.func171,Tryz.ntmps171
   go_wp2_with (go_at_call 120;refine(ai0 (((HM.out.alloc _).alloc _).alloc _) _ hh _ _ _).mono ?_;rintro e w' ⟨rfl,hw⟩;subst w')
   go_ret;exact⟨rfl,((HM.out.alloc _).alloc _).alloc _,(((Chg.refl _ _ _).alloc _).alloc _).alloc _⟩
  ·have HA:=zH (aO6 HM.out v hk)
   go_enter Tryz.func171,Tryz.ntmps171
   go_wp2_with (go_at_call 120;refine(ap9 (((HM.out.alloc _).alloc _).alloc _) _ hh _ _ _ (enter_run Tryz.func185 (by kernel_rfl) (by kernel_rfl)) HA.out).mono ?_;rintro e w' ⟨rfl,hm,hz⟩;replace hm:=zH hm)
   go_ret;exact⟨rfl,hm.out,hz⟩
theorem bs0 (h:MemAt 106 w b g ws o c) (i v:Int):Calls Tryz.prog 113 #[.pointer (some ⟨b,0,none⟩),.int .i64 i,.int .u64 v] w fun e w'=>e=.returned (.tuple #[.int .u64 (toldW ws o i),.int .i64 (errA ws o i)])/\MemAt 106 w' b g (stored ws o i (addV (wordAt ws i) v)) (a53 ws o i) (a52 ws o i c)/\Chg b g w w':=by
 have HM:Hid (MemAt 106 w b g ws o c):=h;clear h;unfold errA a53 a52 toldW stored
 cases hh:hasB ws i
 ·go_enter Tryz.func113,Tryz.ntmps113
  go_wp2_with (go_at_call 120;refine(ak8 ((((HM.out.alloc _).alloc _).alloc _).alloc _) _ hh _ _ _).mono ?_;rintro e w' ⟨rfl,hw⟩;subst w')
  go_ret2;exact⟨rfl,(((HM.out.alloc _).alloc _).alloc _).alloc _,((((Chg.refl _ _ _).alloc _).alloc _).alloc _).alloc _⟩
 ·obtain⟨k,rfl,hk⟩:=an3 hh
  cases o
  ·go_enter Tryz.func113,Tryz.ntmps113
   go_wp2_with (go_at_call 120;refine(ai0 ((((HM.out.alloc _).alloc _).alloc _).alloc _) _ hh _ _ _).mono ?_;rintro e w' ⟨rfl,hw⟩;subst w')
   go_ret2;exact⟨rfl,(((HM.out.alloc _).alloc _).alloc _).alloc _,((((Chg.refl _ _ _).alloc _).alloc _).alloc _).alloc _⟩
  ·have HA:=zH (aZ2 HM.out v hk)
   go_enter Tryz.func113,Tryz.ntmps113
   go_wp2_with (go_at_call 120;refine(ap9 ((((HM.out.alloc _).alloc _).alloc _).alloc _) _ hh _ _ _ (enter_run Tryz.func121 (by kernel_rfl) (by kernel_rfl)) HA.out).mono ?_;rintro e w' ⟨rfl,hc,hm,hz⟩;replace hm:=zH hm)
   go_ret2;exact⟨rfl,hm.out,hz⟩
end
theorem bo8:(Tryz.prog.info? 52).map (fun i=>(i.zero,i.size,i.bytes))=some (some (.int .u64 0),1,8):=by kernel_rfl
theorem aW3 (n:Nat) (hn:n<=4096) (w:World):(Instr.makeSlice 58 (.int .i64 (n:Int)) (.int .i64 (n:Int))).run Tryz.prog w=.ok (.slice (some ⟨w.heap.size,0,none⟩) n n) (w.alloc (.cells (u64s (List.replicate n 0)).toArray 52)):=by
 obtain⟨i,hi,hz0,hz1,hz2⟩:=info_parts bo8;rw[run_make w 58 52 i (.int .u64 0) Tryz.underlying58 hi hz0 .i64 .i64 n n (by omega) (zW _) (by rw[hz2];omega) (by omega)];have e:(madeCells (Value.int .u64 0).cells (((n:Int)).toNat*i.size))=(u64s (List.replicate n 0)).toArray:=by
  rw[hz1,Nat.mul_one,Int.toNat_natCast]
  apply Array.toList_inj.1
  rw[show (Value.int .u64 0).cells=#[.int .u64 0] from rfl,toList_madeCells_one]
  simp[u64s]
 rw[e,Int.toNat_natCast]
theorem new_some (n:Nat) (h1:1<=n) (h2:n<=4096) (w:World):Calls Tryz.prog 28 #[.int .i64 n] w fun e w'=>e=.returned (.tuple #[.pointer (some ⟨w.heap.size+1,0,none⟩),.int .i64 0])/\MemAt 106 w' (w.heap.size+1) w.heap.size (List.replicate n 0) false 0/\Bl w w':=by
 have hh:(decide (1<=(n:Int)) && decide ((n:Int)<=4096))=true:=by simp;omega
 have hmk:=aW3 n h2;have HN:=zH (And.intro h1 h2);clear h1 h2;go_enter Tryz.func28,Tryz.ntmps28
 go_wp2_with (go_at_call 52;refine(aB6 _ _ _).mono ?_;rw[hh];rintro e w' ⟨rfl,hw⟩;subst w')
 go_ret2;refine⟨rfl,⟨?_,?_,by omega,by rw[List.length_replicate];exact HN.out.1,by rw[List.length_replicate];exact HN.out.2⟩,((zF _ _).alloc (zE _) _).alloc (by simp) _⟩
 ·rw[List.length_replicate]
  have:=zN (w.alloc (.cells (u64s (List.replicate n 0)).toArray 52)) (.cells #[.slice (some ⟨w.heap.size,0,none⟩) n n,.bool false,.int .i64 0] 106)
  simpa using this
 ·rw[Below.heap_alloc _ _ _ (by simp)]
  exact zN _ _
end Go.Proofs.YtipakfjpfjehmaaGreatDoor.Md
namespace Go.Proofs.YtipakfjpfjehmaaGreatDoor.Md.Ce
open Go.ChangeShapes Go.WideShapes Go.ChangeAt Go.RowKit Num
attribute [local go_sem] frombits_run bits_run
theorem a00 (a:Addr) (m:Mode) (k:FloatKind) (b:Nat) (w:World):(store a (.float k b) m).run Tryz.prog w=_root_.Go.stored Tryz.prog w a (.float k b) m:=run_store Tryz.prog w a _ m rfl
theorem run_store_func (a:Addr) (m:Mode) (f:Fn) (x y:Array Value) (w:World):(store a (.func f x y) m).run Tryz.prog w=_root_.Go.stored Tryz.prog w a (.func f x y) m:=run_store Tryz.prog w a _ m rfl
theorem run_store_nilFunc (a:Addr) (m:Mode) (w:World):(store a .nilFunc m).run Tryz.prog w=_root_.Go.stored Tryz.prog w a .nilFunc m:=run_store Tryz.prog w a _ m rfl
theorem aI5 (n:Int) (w:World):Calls Tryz.prog 80 #[.int .u64 n] w fun e w'=>e=.returned (.float .f64 (fixB n.toNat))/\w'=w:=by
 go_enter Tryz.func80,Tryz.ntmps80
 go_wp2_with (first | (go_at_call 75;refine(ae2 _ _).mono ?_;rintro e w' ⟨rfl,rfl⟩) | go_in)
 go_ret;exact⟨rfl,rfl⟩
structure Ch (L:List Nat) (w w':World):Prop where
 os:w'.os=w.os
 tape:w'.tape=w.tape
 output:w'.output=w.output
 size:w.heap.size<=w'.heap.size
 block:∀ k,k<w.heap.size->k∉L->w'.heap[k]?=w.heap[k]?
theorem Ch.refl (L:List Nat) (w:World):Ch L w w:=⟨rfl,rfl,rfl,zE _,fun _ _ _=>rfl⟩
theorem Ch.trans {L:List Nat} {a w c:World} (h:Ch L a w) (k:Ch L w c):Ch L a c :=
 ⟨k.os.trans h.os,k.tape.trans h.tape,k.output.trans h.output,zQ h.size k.size,fun i hi h1=>(k.block i (zL hi h.size) h1).trans (h.block i hi h1)⟩
theorem Ch.mono {L M:List Nat} {a w:World} (h:Ch L a w) (s:∀ k,k∈L->k∈M):Ch M a w:=⟨h.os,h.tape,h.output,h.size,fun k hk hn=>h.block k hk (fun q=>hn (s k q))⟩
theorem Ch.alloc {L:List Nat} {a w:World} (h:Ch L a w) (o:Obj):Ch L a (w.alloc o):=h.trans ⟨rfl,rfl,rfl,by simp,fun k hk _=>Below.heap_alloc _ _ _ hk⟩
theorem Ch.set {L:List Nat} {a w:World} (h:Ch L a w) {b:Nat} (hb:b∈L) (j:Nat) (u:Value):Ch L a (w.setCell ⟨b,j,none⟩ u) :=
 h.trans ⟨rfl,rfl,rfl,by simp,fun k _ h1=>zO _ _ _ _ (fun (e:k=b)=>h1 (e ▸ hb))⟩
theorem _root_.Go.Proofs.YtipakfjpfjehmaaGreatDoor.Chg.ch {b g:Nat} {L:List Nat} {w w':World} (h:Chg b g w w') (hb:b∈L) (hg:g∈L):Ch L w w' :=
 ⟨h.os,h.tape,h.output,h.size,fun k hk hn=>h.block k hk (fun e=>hn (e ▸ hb)) (fun e=>hn (e ▸ hg))⟩
theorem bC1 {w w':World} (h:Bl w w') (L:List Nat):Ch L w w':=⟨h.os,h.tape,h.output,h.size,fun k hk _=>h.block k hk⟩
theorem _root_.Go.Proofs.YtipakfjpfjehmaaGreatDoor.MemAt.ch {T:TypeId} {w w':World} {b g:Nat} {ws:List Int} {o:Bool} {c:Int} {L:List Nat} (h:MemAt T w b g ws o c) (k:Ch L w w') (h1:b∉L) (h2:g∉L):MemAt T w' b g ws o c :=
 h.keep (k.block b h.ltB h1) (k.block g h.ltG h2)
def mayC (c:Int):Bool:=decide (0<=c/\c<256)
def placeI (p c j:Int):Int:=if 0<=p/\p<=4096 then p+3*c+j else -1
def errC (ws:List Int) (o:Bool) (p c j:Int):Int:=if mayC c then errA ws o (placeI p c j) else 60
def wordC (ws:List Int) (p c j:Int):Int:=wordAt ws (placeI p c j)
theorem bh4 {c:Int} (h:mayC c=true):0<=c/\c<256:=zP h
theorem aa7 (p c:Int) (w:World):Calls Tryz.prog 73 #[.agg #[.int .i64 p,.int .i64 c]] w fun e w'=>e=.returned (.bool (mayC c))/\Bl w w':=by
 unfold mayC
 by_cases h1:0<=c
 ·by_cases h2:c<256
  ·have h1':¬ c<0:=by omega
   go_enter Tryz.func73,Tryz.ntmps73
   go_wp2
   go_ret;exact⟨by first | (simp;done) | (simp;omega),(zF _ _).alloc (zE _) _⟩
  ·go_enter Tryz.func73,Tryz.ntmps73
   go_wp2
   go_ret;exact⟨by first | (simp;done) | (simp;omega),(zF _ _).alloc (zE _) _⟩
 ·go_enter Tryz.func73,Tryz.ntmps73
  go_wp2
  go_ret;exact⟨by first | (simp;done) | (simp;omega),(zF _ _).alloc (zE _) _⟩
theorem a69 (p c j:Int) (hc:mayC c=true) (hj:0<=j/\j<3) (w:World):Calls Tryz.prog 55 #[.agg #[.int .i64 p,.int .i64 c],.int .i64 j] w fun e w'=>e=.returned (.int .i64 (placeI p c j))/\Bl w w':=by
 obtain⟨hc0,hc1⟩:=bh4 hc;obtain⟨hj0,hj1⟩:=hj;clear hc
 by_cases h1:0<=p
 ·by_cases h2:p<=4096
  ·have e:placeI p c j=p+3*c+j:=by simp[placeI,h1,h2]
   have e1:wrap64 (3*c)=3*c:=Go.IntWalk.wrap64_in _ ⟨by omega,by omega⟩;have e2:wrap64 (p+3*c)=p+3*c:=Go.IntWalk.wrap64_in _ ⟨by omega,by omega⟩;have e3:wrap64 (p+3*c+j)=p+3*c+j:=Go.IntWalk.wrap64_in _ ⟨by omega,by omega⟩;have h1':¬ p<0:=by omega
   have h2':¬ 4096<p:=by omega
   rw[e];clear e hc0 hc1 hj0 hj1;go_enter Tryz.func55,Tryz.ntmps55
   go_wp2
   go_ret;exact⟨rfl,(zF _ _).alloc (zE _) _⟩
  ·have e:placeI p c j=-1:=by simp[placeI,h2]
   rw[e];clear e hc0 hc1 hj0 hj1;have h1':¬ p<0:=by omega
   have h2':4096<p:=by omega
   go_enter Tryz.func55,Tryz.ntmps55
   go_wp2
   go_ret;exact⟨rfl,(zF _ _).alloc (zE _) _⟩
 ·have e:placeI p c j=-1:=by simp[placeI,h1]
  rw[e];clear e hc0 hc1 hj0 hj1;have h1':p<0:=by omega
  go_enter Tryz.func55,Tryz.ntmps55
  go_wp2
  go_ret;exact⟨rfl,(zF _ _).alloc (zE _) _⟩
theorem _root_.Go.Proofs.YtipakfjpfjehmaaGreatDoor.MemAt.hop {T:TypeId} {w w':World} {b g:Nat} {ws:List Int} {o:Bool} {c:Int} (h:MemAt T w b g ws o c) (k:Bl w w'):MemAt T w' b g ws o c:=h.on k
theorem a57 {a w w':World} (h:Bl a w) (k:Bl w w'):Bl a w':=h.trans (k.mono h.size)
theorem a56 {a w':World} {x:Obj} (k:Below (a.alloc x).heap.size (a.alloc x) w'):Bl a w':=a57 ((zF _ _).alloc (zE _) x) k
theorem ak1 {a w':World} {x y:Value} {T:TypeId} (k:Below (a.alloc (.cells #[x,y] T)).heap.size (a.alloc (.cells #[x,y] T)) w'):w'.cell? ⟨a.heap.size,0,none⟩=some x/\w'.cell? ⟨a.heap.size,1,none⟩=some y/\a.heap.size<w'.heap.size :=
 ⟨(k.cell (p:=⟨a.heap.size,0,none⟩) (by simp)).trans (by simp),(k.cell (p:=⟨a.heap.size,1,none⟩) (by simp)).trans (by simp),by have:=k.size;simp at this;omega⟩
theorem a70 {a w w':World} {b g:Nat} (h:Bl a w) (k:Chg b g w w'):Chg b g a w':=(Chg.trans ⟨h.os,h.tape,h.output,h.size,fun i hi _ _=>h.block i hi⟩ k)
section
variable {w:World} {b g:Nat} {ws:List Int} {o:Bool} {n:Int}
theorem am6 (h:MemAt 106 w b g ws o n) {p c j:Int} (hj:0<=j/\j<3) (hok:errC ws o p c j=0):Calls Tryz.prog 150 #[.agg #[.int .i64 p,.int .i64 c],.pointer (some ⟨b,0,none⟩),.int .i64 j] w fun e w'=>e=.returned (.tuple #[.int .u64 (wordC ws p c j),.int .i64 0])/\MemAt 106 w' b g ws false (up n)/\Chg b g w w':=by
 cases hm:mayC c
 ·simp[errC,hm]at hok
 ·have hA:errA ws o (placeI p c j)=0:=by simpa[errC,hm]using hok
  have hk:hasB ws (placeI p c j)=true/\o=true:=by
   unfold errA at hA
   cases q:hasB ws (placeI p c j) <;> cases o <;> simp[q]at hA ⊢
  have H1:=zH (aa7 p c);simp only[hm]at H1;have H2:=zH (a69 p c j hm hj);have H3:=zH (fun (w1:World) (h1:Bl w w1)=>aa5 (h.hop h1) (placeI p c j));have e1:toldW ws o (placeI p c j)=wordC ws p c j:=by simp[toldW,wordC,hk.1,hk.2]
  have e2:a53 ws o (placeI p c j)=false:=by simp[a53,hk.1]
  have e3:a52 ws o (placeI p c j) n=up n:=by simp[a52,hk.1,hk.2]
  simp only[hA,e1,e2,e3]at H3
  generalize wordC ws p c j=x at H3 ⊢
  generalize placeI p c j=i at H2 H3
  clear hA hk e1 e2 e3 hok hm h;go_enter Tryz.func150,Tryz.ntmps150
  go_wp2_with (first
   | (go_at_call 73;refine(H1.out _).mono ?_;rintro e w1 ⟨rfl,hw⟩;have HB1:=zH (a56 hw);obtain⟨q0,q1,q2⟩:=ak1 hw;clear hw)
   | (go_at_call 55;refine(H2.out _).mono ?_;rintro e w2 ⟨rfl,hw⟩;have HB2:=zH (a57 HB1.out hw);clear hw)
   | (go_at_call 124;refine(H3.out _ HB2.out).mono ?_;rintro e w3 ⟨rfl,hm1,hc1⟩;have HM:=zH (And.intro hm1 (a70 HB2.out hc1));clear hm1 hc1))
  go_ret2;exact⟨rfl,HM.out.1,HM.out.2⟩
theorem aH0 {i:Int} (h:¬ errA ws o i=0):toldW ws o i=0/\a53 ws o i=o/\a52 ws o i n=n:=by
 unfold errA at h
 cases q:hasB ws i <;> cases o <;> simp[q]at h <;> simp[toldW,a53,a52,q]
theorem am5 (h:MemAt 106 w b g ws o n) {p c j:Int} (hj:0<=j/\j<3) (hok:¬ errC ws o p c j=0):Calls Tryz.prog 150 #[.agg #[.int .i64 p,.int .i64 c],.pointer (some ⟨b,0,none⟩),.int .i64 j] w fun e w'=>e=.returned (.tuple #[.int .u64 0,.int .i64 (errC ws o p c j)])/\MemAt 106 w' b g ws o n/\Chg b g w w':=by
 have H1:=zH (aa7 p c)
 cases hm:mayC c
 ·have e:errC ws o p c j=60:=by simp[errC,hm]
  rw[e];simp only[hm]at H1;have HM:=zH h;clear e hok h hm;go_enter Tryz.func150,Tryz.ntmps150
  go_wp2_with (go_at_call 73;refine(H1.out _).mono ?_;rintro e w1 ⟨rfl,hw⟩;have HB:=zH (a56 hw);clear hw)
  go_ret2;exact⟨rfl,HM.out.hop HB.out,a70 HB.out (Chg.refl _ _ _)⟩
 ·have e0:errC ws o p c j=errA ws o (placeI p c j):=by simp[errC,hm]
  rw[e0]at hok ⊢;simp only[hm]at H1;obtain⟨e1,e2,e3⟩:=aH0 (n:=n) hok;have H2:=zH (a69 p c j hm hj);have H3:=zH (fun (w1:World) (h1:Bl w w1)=>aa5 (h.hop h1) (placeI p c j));simp only[e1,e2,e3]at H3
  generalize errA ws o (placeI p c j)=x at H3 ⊢
  generalize placeI p c j=i at H2 H3
  clear e0 e1 e2 e3 hok hm h;go_enter Tryz.func150,Tryz.ntmps150
  go_wp2_with (first
   | (go_at_call 73;refine(H1.out _).mono ?_;rintro e w1 ⟨rfl,hw⟩;have HB1:=zH (a56 hw);obtain⟨q0,q1,q2⟩:=ak1 hw;clear hw)
   | (go_at_call 55;refine(H2.out _).mono ?_;rintro e w2 ⟨rfl,hw⟩;have HB2:=zH (a57 HB1.out hw);clear hw)
   | (go_at_call 124;refine(H3.out _ HB2.out).mono ?_;rintro e w3 ⟨rfl,hm1,hc1⟩;have HM:=zH (And.intro hm1 (a70 HB2.out hc1));clear hm1 hc1))
  go_ret2;exact⟨rfl,HM.out.1,HM.out.2⟩
def storeC (ws:List Int) (p c j v:Int):List Int:=ws.set (placeI p c j).toNat v
theorem b21 (h:MemAt 106 w b g ws o n) {p c j:Int} (v:Int) (hj:0<=j/\j<3) (hok:errC ws o p c j=0):Calls Tryz.prog 211 #[.agg #[.int .i64 p,.int .i64 c],.pointer (some ⟨b,0,none⟩),.int .i64 j,.int .u64 v] w fun e w'=>e=.returned (.int .i64 0)/\MemAt 106 w' b g (storeC ws p c j v) false (up n)/\Chg b g w w':=by
 cases hm:mayC c
 ·simp[errC,hm]at hok
 ·have hA:errA ws o (placeI p c j)=0:=by simpa[errC,hm]using hok
  have hk:hasB ws (placeI p c j)=true/\o=true:=by
   unfold errA at hA
   cases q:hasB ws (placeI p c j) <;> cases o <;> simp[q]at hA ⊢
  have H1:=zH (aa7 p c);simp only[hm]at H1;have H2:=zH (a69 p c j hm hj);have H3:=zH (fun (w1:World) (h1:Bl w w1)=>af5 (h.hop h1) (placeI p c j) v);have e1:Go.Proofs.YtipakfjpfjehmaaGreatDoor.Md.stored ws o (placeI p c j) v=storeC ws p c j v:=by simp[Go.Proofs.YtipakfjpfjehmaaGreatDoor.Md.stored,storeC,hk.1,hk.2]
  have e2:a53 ws o (placeI p c j)=false:=by simp[a53,hk.1]
  have e3:a52 ws o (placeI p c j) n=up n:=by simp[a52,hk.1,hk.2]
  simp only[hA,e1,e2,e3]at H3
  generalize storeC ws p c j v=x at H3 ⊢
  generalize placeI p c j=i at H2 H3
  clear hA hk e1 e2 e3 hok hm h;go_enter Tryz.func211,Tryz.ntmps211
  go_wp2_with (first
   | (go_at_call 73;refine(H1.out _).mono ?_;rintro e w1 ⟨rfl,hw⟩;have HB1:=zH (a56 hw);obtain⟨q0,q1,q2⟩:=ak1 hw;clear hw)
   | (go_at_call 55;refine(H2.out _).mono ?_;rintro e w2 ⟨rfl,hw⟩;have HB2:=zH (a57 HB1.out hw);clear hw)
   | (go_at_call 171;refine(H3.out _ HB2.out).mono ?_;rintro e w3 ⟨rfl,hm1,hc1⟩;have HM:=zH (And.intro hm1 (a70 HB2.out hc1));clear hm1 hc1))
  go_ret;exact⟨rfl,HM.out.1,HM.out.2⟩
theorem aM1 {i v:Int} (h:¬ errA ws o i=0):Go.Proofs.YtipakfjpfjehmaaGreatDoor.Md.stored ws o i v=ws:=by
 unfold errA at h
 cases q:hasB ws i <;> cases o <;> simp[q]at h <;> simp[Go.Proofs.YtipakfjpfjehmaaGreatDoor.Md.stored,q]
theorem b20 (h:MemAt 106 w b g ws o n) {p c j:Int} (v:Int) (hj:0<=j/\j<3) (hok:¬ errC ws o p c j=0):Calls Tryz.prog 211 #[.agg #[.int .i64 p,.int .i64 c],.pointer (some ⟨b,0,none⟩),.int .i64 j,.int .u64 v] w fun e w'=>e=.returned (.int .i64 (errC ws o p c j))/\MemAt 106 w' b g ws o n/\Chg b g w w':=by
 have H1:=zH (aa7 p c)
 cases hm:mayC c
 ·have e:errC ws o p c j=60:=by simp[errC,hm]
  rw[e];simp only[hm]at H1;have HM:=zH h;clear e hok h hm;go_enter Tryz.func211,Tryz.ntmps211
  go_wp2_with (go_at_call 73;refine(H1.out _).mono ?_;rintro e w1 ⟨rfl,hw⟩;have HB:=zH (a56 hw);clear hw)
  go_ret;exact⟨rfl,HM.out.hop HB.out,a70 HB.out (Chg.refl _ _ _)⟩
 ·have e0:errC ws o p c j=errA ws o (placeI p c j):=by simp[errC,hm]
  rw[e0]at hok ⊢;simp only[hm]at H1;obtain⟨_,e2,e3⟩:=aH0 (n:=n) hok;have e1:=aM1 (v:=v) hok;have H2:=zH (a69 p c j hm hj);have H3:=zH (fun (w1:World) (h1:Bl w w1)=>af5 (h.hop h1) (placeI p c j) v);simp only[e1,e2,e3]at H3
  generalize errA ws o (placeI p c j)=x at H3 ⊢
  generalize placeI p c j=i at H2 H3
  clear e0 e1 e2 e3 hok hm h;go_enter Tryz.func211,Tryz.ntmps211
  go_wp2_with (first
   | (go_at_call 73;refine(H1.out _).mono ?_;rintro e w1 ⟨rfl,hw⟩;have HB1:=zH (a56 hw);obtain⟨q0,q1,q2⟩:=ak1 hw;clear hw)
   | (go_at_call 55;refine(H2.out _).mono ?_;rintro e w2 ⟨rfl,hw⟩;have HB2:=zH (a57 HB1.out hw);clear hw)
   | (go_at_call 171;refine(H3.out _ HB2.out).mono ?_;rintro e w3 ⟨rfl,hm1,hc1⟩;have HM:=zH (And.intro hm1 (a70 HB2.out hc1));clear hm1 hc1))
  go_ret;exact⟨rfl,HM.out.1,HM.out.2⟩
end
attribute [local go_sem] a00 run_store_func run_store_nilFunc
theorem b40:∃ ps rs v,Tryz.prog.underlying 284=some (.func ps rs v):=⟨#[167,67],#[32],false,by kernel_rfl⟩
theorem as3 {P:Program} (d:Nat) (t:TypeId) (f:Fn) (x y:Array Value) (w:World) {ps rs:Array TypeId} {v:Bool} (h:P.underlying t=some (.func ps rs v)):(Op.equalIn (d+1) t (.func f x y) .nilFunc).run P w=.ok false w:=by
 simp[Op.equalIn,run_underlying h]
theorem ax8 {P:Program} (d:Nat) (t:TypeId) (w:World) {ps rs:Array TypeId} {v:Bool} (h:P.underlying t=some (.func ps rs v)):(Op.equalIn (d+1) t .nilFunc .nilFunc).run P w=.ok true w:=by
 simp[Op.equalIn,run_underlying h]
theorem run_equal_func {P:Program} (t:TypeId) (f:Fn) (x y:Array Value) (w:World) {ps rs:Array TypeId} {v:Bool} (h:P.underlying t=some (.func ps rs v)):(Op.equal t (.func f x y) .nilFunc).run P w=.ok false w:=as3 9999 t f x y w h
theorem run_equal_nil {P:Program} (t:TypeId) (w:World) {ps rs:Array TypeId} {v:Bool} (h:P.underlying t=some (.func ps rs v)):(Op.equal t .nilFunc .nilFunc).run P w=.ok true w:=ax8 9999 t w h
theorem ai8 (f:Fn) (x y:Array Value) (w:World):(binOp .eql 284 (.func f x y) .nilFunc).run Tryz.prog w=.ok (.bool false) w:=by
 obtain⟨ps,rs,v,h⟩:=b40;simp only[binOp]
 simp[run_equal_func _ f x y w h]
theorem ad4 (w:World):(binOp .eql 284 .nilFunc .nilFunc).run Tryz.prog w=.ok (.bool true) w:=by
 obtain⟨ps,rs,v,h⟩:=b40;simp only[binOp]
 simp[run_equal_nil _ w h]
attribute [local go_sem] ai8 ad4
structure Rd where
 p:Int
 c:Int
 s:Int
 k:Nat
 v:Int
 x:Nat
 y:Nat
 n:Int
 t:Bool
def viewF (k:Nat):FuncId:=if k=0 then 269 else if k=1 then 272 else if k=2 then 274 else 273
def recvV (r:Rd):Value:=.agg #[.int .i64 r.p,.int .i64 r.c,.int .u64 r.s]
def al3 (r:Rd):Value:=if r.k<4 then .func (.func (viewF r.k)) #[recvV r] #[] else .nilFunc
def bN5 (r:Rd) (f:Value):Array Value:=#[f,.int .u64 r.v,.float .f64 r.x,.float .f64 r.y,.int .i64 r.n,.bool r.t]
def RbAt (w:World) (q:Nat) (r:Rd) (f:Value):Prop:=w.heap[q]?=some (.cells (bN5 r f) 286 (0,0))
def RdAt (w:World) (q:Nat) (r:Rd):Prop:=RbAt w q r (al3 r)
section
variable {w:World} {q:Nat} {r:Rd} {f:Value}
theorem RbAt.lt (h:RbAt w q r f):q<w.heap.size:=lt_of_block h
theorem RbAt.free (h:RbAt w q r f) (j:Nat):w.frozen? ⟨q,j,none⟩=false:=zZ w q j _ _ h
theorem RbAt.cell0 (h:RbAt w q r f):w.cell? ⟨q,0,none⟩=some f:=by rw[zR w q 0 _ _ _ h];rfl
theorem RbAt.cell1 (h:RbAt w q r f):w.cell? ⟨q,1,none⟩=some (.int .u64 r.v):=by rw[zR w q 1 _ _ _ h];rfl
theorem RbAt.cell2 (h:RbAt w q r f):w.cell? ⟨q,2,none⟩=some (.float .f64 r.x):=by rw[zR w q 2 _ _ _ h];rfl
theorem RbAt.cell3 (h:RbAt w q r f):w.cell? ⟨q,3,none⟩=some (.float .f64 r.y):=by rw[zR w q 3 _ _ _ h];rfl
theorem RbAt.cell4 (h:RbAt w q r f):w.cell? ⟨q,4,none⟩=some (.int .i64 r.n):=by rw[zR w q 4 _ _ _ h];rfl
theorem RbAt.cell5 (h:RbAt w q r f):w.cell? ⟨q,5,none⟩=some (.bool r.t):=by rw[zR w q 5 _ _ _ h];rfl
theorem RbAt.keep {w':World} (h:RbAt w q r f) (k:w'.heap[q]?=w.heap[q]?):RbAt w' q r f:=k.trans h
theorem RbAt.setF (h:RbAt w q r f) (f':Value):RbAt (w.setCell ⟨q,0,none⟩ f') q r f':=(zS w q 0 _ _ _ h).trans rfl
theorem RbAt.setV (h:RbAt w q r f) (v:Int):RbAt (w.setCell ⟨q,1,none⟩ (.int .u64 v)) q { r with v:=v } f:=(zS w q 1 _ _ _ h).trans rfl
theorem RbAt.setX (h:RbAt w q r f) (x:Nat):RbAt (w.setCell ⟨q,2,none⟩ (.float .f64 x)) q { r with x:=x } f:=(zS w q 2 _ _ _ h).trans rfl
theorem RbAt.setY (h:RbAt w q r f) (y:Nat):RbAt (w.setCell ⟨q,3,none⟩ (.float .f64 y)) q { r with y:=y } f:=(zS w q 3 _ _ _ h).trans rfl
theorem RbAt.setN (h:RbAt w q r f) (n:Int):RbAt (w.setCell ⟨q,4,none⟩ (.int .i64 n)) q { r with n:=n } f:=(zS w q 4 _ _ _ h).trans rfl
theorem RbAt.setT (h:RbAt w q r f) (t:Bool):RbAt (w.setCell ⟨q,5,none⟩ (.bool t)) q { r with t:=t } f:=(zS w q 5 _ _ _ h).trans rfl
theorem RdAt.lt (h:RdAt w q r):q<w.heap.size:=RbAt.lt h
end
def wrd (k:Nat):Int:=if k=1 then 1 else if k=3 then 2 else 0
theorem wrd_in (k:Nat):0<=wrd k/\wrd k<3:=by unfold wrd;split <;> (try split) <;> omega
def nx0 (r:Rd) (u:Int):Rd :=
 if r.k=0 then { r with v:=u,k:=if r.s<u then 3 else 1 }
 else if r.k=1 then { r with x:=fixB u.toNat,k:=2 }
 else if r.k=2 then (if u=r.v then { r with y:=r.x,k:=4 } else { r with t:=true,k:=3 })
 else { r with y:=fixB u.toNat,k:=4 }
def errR (r:Rd) (ws:List Int) (o:Bool):Int:=if r.k<4 then errC ws o r.p r.c (wrd r.k) else 3
def nxt (r:Rd) (u:Int):Rd:={ nx0 r u with n:=up r.n }
def stepR (r:Rd) (ws:List Int) (o:Bool):Rd:=if errR r ws o=0 then nxt r (wordC ws r.p r.c (wrd r.k)) else r
section
variable {w:World} {b g q:Nat} {ws:List Int} {o:Bool} {n:Int} {r:Rd}
theorem over_any (h:RdAt w q r):Calls Tryz.prog 271 #[.pointer (some ⟨q,0,none⟩)] w fun e w'=>e=.returned (.bool (decide (4<=r.k)))/\w'=w:=by
 have h0:=RbAt.cell0 h;have hq:=RbAt.lt h;unfold al3 at h0
 by_cases hk:r.k<4
 ·rw[if_pos hk]at h0
  generalize viewF r.k=ff at h0
  generalize recvV r=fr at h0
  have hk':decide (4<=r.k)=false:=zU (by omega);rw[hk'];clear h hk hk';go_enter Tryz.func271,Tryz.ntmps271
  go_wp2
  go_ret;exact⟨rfl,rfl⟩
 ·rw[if_neg hk]at h0
  have hk':decide (4<=r.k)=true:=zT (by omega);rw[hk'];clear h hk hk';go_enter Tryz.func271,Tryz.ntmps271
  go_wp2
  go_ret;exact⟨rfl,rfl⟩
theorem end_any {f:Value} (h:RbAt w q r f) (x:Nat):Calls Tryz.prog 275 #[.pointer (some ⟨q,0,none⟩),.float .f64 x] w fun e w'=>e=.returned (.tuple #[])/\RbAt w' q { r with y:=x } .nilFunc/\Ch [q] w w':=by
 have h0:=h.cell0;have h3:=h.cell3;have hq:=h.lt;have hf0:=h.free 0;have hf3:=h.free 3;have HM:=zH h;clear h;go_enter Tryz.func275,Tryz.ntmps275
 go_wp2
 go_end0
 exact⟨rfl,(HM.out.setY x).setF _,((Ch.refl _ _).set (by simp) _ _).set (by simp) _ _⟩
end
attribute [local go_sem] a00 run_store_func run_store_nilFunc
section
variable {w:World} {b g q:Nat} {ws:List Int} {o:Bool} {n:Int} {r:Rd} {f:Value}
theorem aa8 {w1:World} {x y z:Value} {T:TypeId} (h:RbAt w q r f) (h1:q≠b) (h2:q≠g) (hb:b<w.heap.size) (hg:g<w.heap.size) (hc:Chg b g (w.alloc (.cells #[x,y,z] T)) w1) :
  w1.cell? ⟨w.heap.size,0,none⟩=some x/\w1.cell? ⟨w.heap.size,1,none⟩=some y/\w1.cell? ⟨w.heap.size,2,none⟩=some z/\w.heap.size<w1.heap.size/\RbAt w1 q r f/\Ch [b,g,q] w w1:=by
 have hq:=h.lt;have hs:=hc.size
 simp at hs
 have hx:w1.heap[w.heap.size]?=some (.cells #[x,y,z] T (0,0)):=(hc.block w.heap.size (by simp) (by omega) (by omega)).trans (zN _ _);refine⟨?_,?_,?_,by omega,h.keep ((hc.block q (by simp;omega) h1 h2).trans (Below.heap_alloc _ _ _ hq)),?_⟩
 ·rw[zR _ _ _ _ _ _ hx];rfl
 ·rw[zR _ _ _ _ _ _ hx];rfl
 ·rw[zR _ _ _ _ _ _ hx];rfl
 ·exact((Ch.refl _ _).alloc _).trans (hc.ch (by simp) (by simp))
theorem bL8 (h:MemAt 106 w b g ws o n) (hr:RbAt w q r f) (h1:q≠b) (h2:q≠g) (hk:r.k=0) (hok:errC ws o r.p r.c 0=0):Calls Tryz.prog 269 #[recvV r,.pointer (some ⟨q,0,none⟩),.pointer (some ⟨b,0,none⟩)] w fun e w'=>e=.returned (.int .i64 0)/\MemAt 106 w' b g ws false (up n)/\RbAt w' q (nx0 r (wordC ws r.p r.c 0)) (al3 (nx0 r (wordC ws r.p r.c 0)))/\Ch [b,g,q] w w':=by
 have hb:=h.ltB;have hg:=h.ltG;have hq:=hr.lt;have HL:=zH (am6 (h.alloc (.cells #[.int .i64 r.p,.int .i64 r.c,.int .u64 r.s] 283)) (p:=r.p) (c:=r.c) (j:=0) (by omega) hok);have HR:=zH hr;have HN:=zH (And.intro h1 h2);unfold recvV
 generalize wordC ws r.p r.c 0=u at HL ⊢
 clear h hok;obtain⟨p,c,s,k,v,x,y,m,t⟩:=r;simp only at hk HL;subst hk;clear hr
 by_cases hu:s<u
 ·have hn:nx0 ⟨p,c,s,0,v,x,y,m,t⟩ u=⟨p,c,s,3,u,x,y,m,t⟩:=by simp[nx0,hu]
  rw[hn];clear hn;go_enter Tryz.func269,Tryz.ntmps269
  go_wp2_with (go_at_call 150;refine HL.out.mono ?_;rintro e w1 ⟨rfl,hm,hc⟩;obtain⟨c0,c1,c2,c3,hrr,hch⟩:=aa8 HR.out HN.out.1 HN.out.2 hb hg hc;have d0:=hrr.cell0;have d1:=hrr.cell1;have d2:=hrr.cell2;have d3:=hrr.cell3;have d5:=hrr.cell5;have dq:=hrr.lt;have f0:=hrr.free 0;have f1:=hrr.free 1;have f2:=hrr.free 2;have f5:=hrr.free 5;have HX:=zH (And.intro hm (And.intro hrr hch));clear hm hc hrr hch)
  go_ret;exact⟨rfl,(((HX.out.1.other (Ne.symm HN.out.1) (Ne.symm HN.out.2) _ _).other (Ne.symm HN.out.1) (Ne.symm HN.out.2) _ _).other (Ne.symm HN.out.1) (Ne.symm HN.out.2) _ _),((HX.out.2.1.setV u).setF _).setF _,((HX.out.2.2.set (by simp) _ _).set (by simp) _ _).set (by simp) _ _⟩
 ·have hn:nx0 ⟨p,c,s,0,v,x,y,m,t⟩ u=⟨p,c,s,1,u,x,y,m,t⟩:=by simp[nx0,hu]
  rw[hn];clear hn;go_enter Tryz.func269,Tryz.ntmps269
  go_wp2_with (go_at_call 150;refine HL.out.mono ?_;rintro e w1 ⟨rfl,hm,hc⟩;obtain⟨c0,c1,c2,c3,hrr,hch⟩:=aa8 HR.out HN.out.1 HN.out.2 hb hg hc;have d0:=hrr.cell0;have d1:=hrr.cell1;have d2:=hrr.cell2;have d3:=hrr.cell3;have d5:=hrr.cell5;have dq:=hrr.lt;have f0:=hrr.free 0;have f1:=hrr.free 1;have f2:=hrr.free 2;have f5:=hrr.free 5;have HX:=zH (And.intro hm (And.intro hrr hch));clear hm hc hrr hch)
  go_ret;exact⟨rfl,((HX.out.1.other (Ne.symm HN.out.1) (Ne.symm HN.out.2) _ _).other (Ne.symm HN.out.1) (Ne.symm HN.out.2) _ _),(HX.out.2.1.setV u).setF _,(HX.out.2.2.set (by simp) _ _).set (by simp) _ _⟩
theorem bL6 (h:MemAt 106 w b g ws o n) (hr:RbAt w q r f) (h1:q≠b) (h2:q≠g) (hk:r.k=1) (hok:errC ws o r.p r.c 1=0):Calls Tryz.prog 272 #[recvV r,.pointer (some ⟨q,0,none⟩),.pointer (some ⟨b,0,none⟩)] w fun e w'=>e=.returned (.int .i64 0)/\MemAt 106 w' b g ws false (up n)/\RbAt w' q (nx0 r (wordC ws r.p r.c 1)) (al3 (nx0 r (wordC ws r.p r.c 1)))/\Ch [b,g,q] w w':=by
 have hb:=h.ltB;have hg:=h.ltG;have hq:=hr.lt;have HL:=zH (am6 (h.alloc (.cells #[.int .i64 r.p,.int .i64 r.c,.int .u64 r.s] 283)) (p:=r.p) (c:=r.c) (j:=1) (by omega) hok);have HR:=zH hr;have HN:=zH (And.intro h1 h2);unfold recvV
 generalize wordC ws r.p r.c 1=u at HL ⊢
 clear h hok;obtain⟨p,c,s,k,v,x,y,m,t⟩:=r;simp only at hk HL;subst hk;clear hr;have hn:nx0 ⟨p,c,s,1,v,x,y,m,t⟩ u=⟨p,c,s,2,v,fixB u.toNat,y,m,t⟩:=by simp[nx0]
 rw[hn];clear hn;go_enter Tryz.func272,Tryz.ntmps272
 go_wp2_with (first
  | (go_at_call 150;refine HL.out.mono ?_;rintro e w1 ⟨rfl,hm,hc⟩;obtain⟨c0,c1,c2,c3,hrr,hch⟩:=aa8 HR.out HN.out.1 HN.out.2 hb hg hc;have d0:=hrr.cell0;have d1:=hrr.cell1;have d2:=hrr.cell2;have d3:=hrr.cell3;have d5:=hrr.cell5;have dq:=hrr.lt;have f0:=hrr.free 0;have f1:=hrr.free 1;have f2:=hrr.free 2;have f5:=hrr.free 5;have HX:=zH (And.intro hm (And.intro hrr hch));clear hm hc hrr hch)
  | (go_at_call 80;refine(aI5 _ _).mono ?_;rintro e w2 ⟨rfl,hw⟩;subst w2))
 go_ret;exact⟨rfl,((HX.out.1.other (Ne.symm HN.out.1) (Ne.symm HN.out.2) _ _).other (Ne.symm HN.out.1) (Ne.symm HN.out.2) _ _),(HX.out.2.1.setX _).setF _,(HX.out.2.2.set (by simp) _ _).set (by simp) _ _⟩
theorem bL4 (h:MemAt 106 w b g ws o n) (hr:RbAt w q r f) (h1:q≠b) (h2:q≠g) (hk:r.k=2) (hok:errC ws o r.p r.c 0=0):Calls Tryz.prog 274 #[recvV r,.pointer (some ⟨q,0,none⟩),.pointer (some ⟨b,0,none⟩)] w fun e w'=>e=.returned (.int .i64 0)/\MemAt 106 w' b g ws false (up n)/\RbAt w' q (nx0 r (wordC ws r.p r.c 0)) (al3 (nx0 r (wordC ws r.p r.c 0)))/\Ch [b,g,q] w w':=by
 have hb:=h.ltB;have hg:=h.ltG;have hq:=hr.lt;have HL:=zH (am6 (h.alloc (.cells #[.int .i64 r.p,.int .i64 r.c,.int .u64 r.s] 283)) (p:=r.p) (c:=r.c) (j:=0) (by omega) hok);have HR:=zH hr;have HN:=zH (And.intro h1 h2);unfold recvV
 generalize wordC ws r.p r.c 0=u at HL ⊢
 clear h hok;obtain⟨p,c,s,k,v,x,y,m,t⟩:=r;simp only at hk HL;subst hk;clear hr
 by_cases hu:u=v
 ·have hn:nx0 ⟨p,c,s,2,v,x,y,m,t⟩ u=⟨p,c,s,4,v,x,x,m,t⟩:=by simp[nx0,hu]
  rw[hn];subst hu;clear hn;go_enter Tryz.func274,Tryz.ntmps274
  go_wp2_with (first
   | (go_at_call 150;refine HL.out.mono ?_;rintro e w1 ⟨rfl,hm,hc⟩;obtain⟨c0,c1,c2,c3,hrr,hch⟩:=aa8 HR.out HN.out.1 HN.out.2 hb hg hc;have d0:=hrr.cell0;have d1:=hrr.cell1;have d2:=hrr.cell2;have d3:=hrr.cell3;have d5:=hrr.cell5;have dq:=hrr.lt;have f0:=hrr.free 0;have f1:=hrr.free 1;have f2:=hrr.free 2;have f5:=hrr.free 5;have HX:=zH (And.intro hm (And.intro hrr hch));clear hm hc hrr hch)
   | (go_at_call 275;refine(end_any HX.out.2.1 _).mono ?_;rintro e w2 ⟨rfl,hr2,hc2⟩;have HY:=zH (And.intro (HX.out.1.ch hc2 (by simp;exact Ne.symm HN.out.1) (by simp;exact Ne.symm HN.out.2)) (And.intro hr2 (HX.out.2.2.trans (hc2.mono (by simp)))));clear hr2 hc2 HX))
  go_ret;exact⟨rfl,HY.out⟩
 ·have hn:nx0 ⟨p,c,s,2,v,x,y,m,t⟩ u=⟨p,c,s,3,v,x,y,m,true⟩:=by simp[nx0,hu]
  rw[hn];clear hn;go_enter Tryz.func274,Tryz.ntmps274
  go_wp2_with (go_at_call 150;refine HL.out.mono ?_;rintro e w1 ⟨rfl,hm,hc⟩;obtain⟨c0,c1,c2,c3,hrr,hch⟩:=aa8 HR.out HN.out.1 HN.out.2 hb hg hc;have d0:=hrr.cell0;have d1:=hrr.cell1;have d2:=hrr.cell2;have d3:=hrr.cell3;have d5:=hrr.cell5;have dq:=hrr.lt;have f0:=hrr.free 0;have f1:=hrr.free 1;have f2:=hrr.free 2;have f5:=hrr.free 5;have HX:=zH (And.intro hm (And.intro hrr hch));clear hm hc hrr hch)
  go_ret;exact⟨rfl,((HX.out.1.other (Ne.symm HN.out.1) (Ne.symm HN.out.2) _ _).other (Ne.symm HN.out.1) (Ne.symm HN.out.2) _ _),(HX.out.2.1.setT _).setF _,(HX.out.2.2.set (by simp) _ _).set (by simp) _ _⟩
theorem bM0 (h:MemAt 106 w b g ws o n) (hr:RbAt w q r f) (h1:q≠b) (h2:q≠g) (hk:r.k=3) (hok:errC ws o r.p r.c 2=0):Calls Tryz.prog 273 #[recvV r,.pointer (some ⟨q,0,none⟩),.pointer (some ⟨b,0,none⟩)] w fun e w'=>e=.returned (.int .i64 0)/\MemAt 106 w' b g ws false (up n)/\RbAt w' q (nx0 r (wordC ws r.p r.c 2)) (al3 (nx0 r (wordC ws r.p r.c 2)))/\Ch [b,g,q] w w':=by
 have hb:=h.ltB;have hg:=h.ltG;have hq:=hr.lt;have HL:=zH (am6 (h.alloc (.cells #[.int .i64 r.p,.int .i64 r.c,.int .u64 r.s] 283)) (p:=r.p) (c:=r.c) (j:=2) (by omega) hok);have HR:=zH hr;have HN:=zH (And.intro h1 h2);unfold recvV
 generalize wordC ws r.p r.c 2=u at HL ⊢
 clear h hok;obtain⟨p,c,s,k,v,x,y,m,t⟩:=r;simp only at hk HL;subst hk;clear hr;have hn:nx0 ⟨p,c,s,3,v,x,y,m,t⟩ u=⟨p,c,s,4,v,x,fixB u.toNat,m,t⟩:=by simp[nx0]
 rw[hn];clear hn;go_enter Tryz.func273,Tryz.ntmps273
 go_wp2_with (first
  | (go_at_call 150;refine HL.out.mono ?_;rintro e w1 ⟨rfl,hm,hc⟩;obtain⟨c0,c1,c2,c3,hrr,hch⟩:=aa8 HR.out HN.out.1 HN.out.2 hb hg hc;have d0:=hrr.cell0;have d1:=hrr.cell1;have d2:=hrr.cell2;have d3:=hrr.cell3;have d5:=hrr.cell5;have dq:=hrr.lt;have f0:=hrr.free 0;have f1:=hrr.free 1;have f2:=hrr.free 2;have f5:=hrr.free 5;have HX:=zH (And.intro hm (And.intro hrr hch));clear hm hc hrr hch)
  | (go_at_call 80;refine(aI5 _ _).mono ?_;rintro e w2 ⟨rfl,hw⟩;subst w2)
  | (go_at_call 275;refine(end_any HX.out.2.1 _).mono ?_;rintro e w2 ⟨rfl,hr2,hc2⟩;have HY:=zH (And.intro (HX.out.1.ch hc2 (by simp;exact Ne.symm HN.out.1) (by simp;exact Ne.symm HN.out.2)) (And.intro hr2 (HX.out.2.2.trans (hc2.mono (by simp)))));clear hr2 hc2 HX))
 go_ret;exact⟨rfl,HY.out⟩
theorem bL7 (h:MemAt 106 w b g ws o n) (hr:RbAt w q r f) (h1:q≠b) (h2:q≠g) (hok:¬ errC ws o r.p r.c 0=0):Calls Tryz.prog 269 #[recvV r,.pointer (some ⟨q,0,none⟩),.pointer (some ⟨b,0,none⟩)] w fun e w'=>e=.returned (.int .i64 (errC ws o r.p r.c 0))/\MemAt 106 w' b g ws o n/\RbAt w' q r f/\Ch [b,g,q] w w':=by
 have hb:=h.ltB;have hg:=h.ltG;have HL:=zH (am5 (h.alloc (.cells #[.int .i64 r.p,.int .i64 r.c,.int .u64 r.s] 283)) (p:=r.p) (c:=r.c) (j:=0) (by omega) hok);have HR:=zH hr;have HN:=zH (And.intro h1 h2);unfold recvV
 generalize errC ws o r.p r.c 0=x at HL hok ⊢
 clear h hr;go_enter Tryz.func269,Tryz.ntmps269
 go_wp2_with (go_at_call 150;refine HL.out.mono ?_;rintro e w1 ⟨rfl,hm,hc⟩;obtain⟨_,_,_,_,hrr,hch⟩:=aa8 HR.out HN.out.1 HN.out.2 hb hg hc;have HX:=zH (And.intro hm (And.intro hrr hch));clear hm hc hrr hch)
 go_ret;exact⟨rfl,HX.out⟩
theorem bL5 (h:MemAt 106 w b g ws o n) (hr:RbAt w q r f) (h1:q≠b) (h2:q≠g) (hok:¬ errC ws o r.p r.c 1=0):Calls Tryz.prog 272 #[recvV r,.pointer (some ⟨q,0,none⟩),.pointer (some ⟨b,0,none⟩)] w fun e w'=>e=.returned (.int .i64 (errC ws o r.p r.c 1))/\MemAt 106 w' b g ws o n/\RbAt w' q r f/\Ch [b,g,q] w w':=by
 have hb:=h.ltB;have hg:=h.ltG;have HL:=zH (am5 (h.alloc (.cells #[.int .i64 r.p,.int .i64 r.c,.int .u64 r.s] 283)) (p:=r.p) (c:=r.c) (j:=1) (by omega) hok);have HR:=zH hr;have HN:=zH (And.intro h1 h2);unfold recvV
 generalize errC ws o r.p r.c 1=x at HL hok ⊢
 clear h hr;go_enter Tryz.func272,Tryz.ntmps272
 go_wp2_with (go_at_call 150;refine HL.out.mono ?_;rintro e w1 ⟨rfl,hm,hc⟩;obtain⟨_,_,_,_,hrr,hch⟩:=aa8 HR.out HN.out.1 HN.out.2 hb hg hc;have HX:=zH (And.intro hm (And.intro hrr hch));clear hm hc hrr hch)
 go_ret;exact⟨rfl,HX.out⟩
theorem bL3 (h:MemAt 106 w b g ws o n) (hr:RbAt w q r f) (h1:q≠b) (h2:q≠g) (hok:¬ errC ws o r.p r.c 0=0):Calls Tryz.prog 274 #[recvV r,.pointer (some ⟨q,0,none⟩),.pointer (some ⟨b,0,none⟩)] w fun e w'=>e=.returned (.int .i64 (errC ws o r.p r.c 0))/\MemAt 106 w' b g ws o n/\RbAt w' q r f/\Ch [b,g,q] w w':=by
 have hb:=h.ltB;have hg:=h.ltG;have HL:=zH (am5 (h.alloc (.cells #[.int .i64 r.p,.int .i64 r.c,.int .u64 r.s] 283)) (p:=r.p) (c:=r.c) (j:=0) (by omega) hok);have HR:=zH hr;have HN:=zH (And.intro h1 h2);unfold recvV
 generalize errC ws o r.p r.c 0=x at HL hok ⊢
 clear h hr;go_enter Tryz.func274,Tryz.ntmps274
 go_wp2_with (go_at_call 150;refine HL.out.mono ?_;rintro e w1 ⟨rfl,hm,hc⟩;obtain⟨_,_,_,_,hrr,hch⟩:=aa8 HR.out HN.out.1 HN.out.2 hb hg hc;have HX:=zH (And.intro hm (And.intro hrr hch));clear hm hc hrr hch)
 go_ret;exact⟨rfl,HX.out⟩
theorem bL9 (h:MemAt 106 w b g ws o n) (hr:RbAt w q r f) (h1:q≠b) (h2:q≠g) (hok:¬ errC ws o r.p r.c 2=0):Calls Tryz.prog 273 #[recvV r,.pointer (some ⟨q,0,none⟩),.pointer (some ⟨b,0,none⟩)] w fun e w'=>e=.returned (.int .i64 (errC ws o r.p r.c 2))/\MemAt 106 w' b g ws o n/\RbAt w' q r f/\Ch [b,g,q] w w':=by
 have hb:=h.ltB;have hg:=h.ltG;have HL:=zH (am5 (h.alloc (.cells #[.int .i64 r.p,.int .i64 r.c,.int .u64 r.s] 283)) (p:=r.p) (c:=r.c) (j:=2) (by omega) hok);have HR:=zH hr;have HN:=zH (And.intro h1 h2);unfold recvV
 generalize errC ws o r.p r.c 2=x at HL hok ⊢
 clear h hr;go_enter Tryz.func273,Tryz.ntmps273
 go_wp2_with (go_at_call 150;refine HL.out.mono ?_;rintro e w1 ⟨rfl,hm,hc⟩;obtain⟨_,_,_,_,hrr,hch⟩:=aa8 HR.out HN.out.1 HN.out.2 hb hg hc;have HX:=zH (And.intro hm (And.intro hrr hch));clear hm hc hrr hch)
 go_ret;exact⟨rfl,HX.out⟩
end
attribute [local go_sem] a00 run_store_func run_store_nilFunc
section
variable {w:World} {b g q:Nat} {ws:List Int} {o:Bool} {n:Int} {r:Rd}
theorem aB5 (k:Nat) (args:Array Value) (w:World):(callFunc (viewF k) args).run Tryz.prog w=.ok (.enter (viewF k) args) w:=by
 unfold viewF
 split
 ·exact enter_run Tryz.func269 (by kernel_rfl) (by kernel_rfl) args w
 split
 ·exact enter_run Tryz.func272 (by kernel_rfl) (by kernel_rfl) args w
 split
 ·exact enter_run Tryz.func274 (by kernel_rfl) (by kernel_rfl) args w
 ·exact enter_run Tryz.func273 (by kernel_rfl) (by kernel_rfl) args w
theorem aX0 (h:RdAt w q r) (hk:¬ r.k<4):Calls Tryz.prog 267 #[.pointer (some ⟨q,0,none⟩),.pointer (some ⟨b,0,none⟩)] w fun e w'=>e=.returned (.tuple #[.bool false,.int .i64 3])/\w'=w:=by
 have H1:=zH (over_any h);rw[zT (show 4<=r.k by omega)]at H1;clear h hk;go_enter Tryz.func267,Tryz.ntmps267
 go_wp2_with (go_at_call 271;refine H1.out.mono ?_;rintro e w1 ⟨rfl,hw⟩;subst w1)
 go_ret2;exact⟨rfl,rfl⟩
theorem b95 (h:RdAt w q r) (hk:r.k<4) {E:Int} (hE:¬ E=0) {Q:World->Prop} (hf:Calls Tryz.prog (viewF r.k) #[recvV r,.pointer (some ⟨q,0,none⟩),.pointer (some ⟨b,0,none⟩)] w fun e w'=>e=.returned (.int .i64 E)/\Q w') :
  Calls Tryz.prog 267 #[.pointer (some ⟨q,0,none⟩),.pointer (some ⟨b,0,none⟩)] w fun e w'=>e=.returned (.tuple #[.bool false,.int .i64 E])/\Q w':=by
 have H1:=zH (over_any h);rw[zU (show ¬ 4<=r.k by omega)]at H1;have h0:=RbAt.cell0 h;have hq:=RbAt.lt h;have hcall:=aB5 r.k;unfold al3 at h0;rw[if_pos hk]at h0
 generalize viewF r.k=ff at h0 hf hcall
 generalize recvV r=fr at h0 hf
 have HF:=zH hf;clear h hk hf;go_enter Tryz.func267,Tryz.ntmps267
 go_wp2_with (first
  | (go_at_call 271;refine H1.out.mono ?_;rintro e w1 ⟨rfl,hw⟩;subst w1)
  | (refine HF.out.mono ?_;rintro e w' ⟨rfl,hqq⟩;have HQ:=zH hqq;clear hqq))
 go_ret2;exact⟨rfl,HQ.out⟩
theorem b96 (h:RdAt w q r) (hk:r.k<4) {r':Rd} {Q:World->Prop} (hf:Calls Tryz.prog (viewF r.k) #[recvV r,.pointer (some ⟨q,0,none⟩),.pointer (some ⟨b,0,none⟩)] w fun e w'=>e=.returned (.int .i64 0)/\Q w'/\RdAt w' q r') :
  Calls Tryz.prog 267 #[.pointer (some ⟨q,0,none⟩),.pointer (some ⟨b,0,none⟩)] w fun e w'=>e=.returned (.tuple #[.bool (decide (4<=r'.k)),.int .i64 0])/\∃ w1,Q w1/\RdAt w1 q r'/\w'=w1.setCell ⟨q,4,none⟩ (.int .i64 (up r'.n)):=by
 have H1:=zH (over_any h);rw[zU (show ¬ 4<=r.k by omega)]at H1;have h0:=RbAt.cell0 h;have hq:=RbAt.lt h;have hcall:=aB5 r.k;unfold al3 at h0;rw[if_pos hk]at h0
 generalize viewF r.k=ff at h0 hf hcall
 generalize recvV r=fr at h0 hf
 have HF:=zH hf;have HO:=zH (fun (w1:World) (h1:RdAt w1 q r')=>over_any (show RdAt (w1.setCell ⟨q,4,none⟩ (.int .i64 (up r'.n))) q { r' with n:=up r'.n } from RbAt.setN h1 _));simp only at HO
 generalize hdd:decide (4<=r'.k)=dd at HO ⊢
 clear h hk hf hdd;unfold up at HO ⊢;go_enter Tryz.func267,Tryz.ntmps267
 go_wp2_with (first
  | (go_at_call 271;refine H1.out.mono ?_;rintro e w1 ⟨rfl,hw⟩;subst w1;clear H1)
  | (go_at_call 271;refine(HO.out _ HQ.out.2).mono ?_;rintro e w1 ⟨rfl,hw⟩;subst w1;clear HO)
  | (refine HF.out.mono ?_;rintro e w2 ⟨rfl,hqq,hr2⟩;have d4:=RbAt.cell4 hr2;have f4:=RbAt.free hr2 4;have l4:=RbAt.lt hr2;have HQ:=zH (And.intro hqq hr2);clear hqq hr2 HF))
 go_ret2;exact⟨rfl,w2,HQ.out.1,HQ.out.2,rfl⟩
theorem bo6 (h:MemAt 106 w b g ws o n) (hr:RdAt w q r) (h1:q≠b) (h2:q≠g) (hk:r.k<4) (hok:errC ws o r.p r.c (wrd r.k)=0):Calls Tryz.prog (viewF r.k) #[recvV r,.pointer (some ⟨q,0,none⟩),.pointer (some ⟨b,0,none⟩)] w fun e w'=>e=.returned (.int .i64 0)/\(MemAt 106 w' b g ws false (up n)/\Ch [b,g,q] w w')/\RdAt w' q (nx0 r (wordC ws r.p r.c (wrd r.k))):=by
 have hc:r.k=0∨r.k=1∨r.k=2∨r.k=3:=by omega
 rcases hc with hc | hc | hc | hc
 ·rw[show viewF r.k=269 by simp[viewF,hc],show wrd r.k=0 by simp[wrd,hc]]
  refine(bL8 h hr h1 h2 hc (by rw[hc]at hok;exact hok)).mono fun e w' ⟨k1,k2,k3,k4⟩=>⟨k1,⟨k2,k4⟩,k3⟩
 ·rw[show viewF r.k=272 by simp[viewF,hc],show wrd r.k=1 by simp[wrd,hc]]
  refine(bL6 h hr h1 h2 hc (by rw[hc]at hok;exact hok)).mono fun e w' ⟨k1,k2,k3,k4⟩=>⟨k1,⟨k2,k4⟩,k3⟩
 ·rw[show viewF r.k=274 by simp[viewF,hc],show wrd r.k=0 by simp[wrd,hc]]
  refine(bL4 h hr h1 h2 hc (by rw[hc]at hok;exact hok)).mono fun e w' ⟨k1,k2,k3,k4⟩=>⟨k1,⟨k2,k4⟩,k3⟩
 ·rw[show viewF r.k=273 by simp[viewF,hc],show wrd r.k=2 by simp[wrd,hc]]
  refine(bM0 h hr h1 h2 hc (by rw[hc]at hok;exact hok)).mono fun e w' ⟨k1,k2,k3,k4⟩=>⟨k1,⟨k2,k4⟩,k3⟩
theorem bB5 (h:MemAt 106 w b g ws o n) (hr:RdAt w q r) (h1:q≠b) (h2:q≠g) (hk:r.k<4) (hok:¬ errC ws o r.p r.c (wrd r.k)=0):Calls Tryz.prog (viewF r.k) #[recvV r,.pointer (some ⟨q,0,none⟩),.pointer (some ⟨b,0,none⟩)] w fun e w'=>e=.returned (.int .i64 (errC ws o r.p r.c (wrd r.k)))/\MemAt 106 w' b g ws o n/\RdAt w' q r/\Ch [b,g,q] w w':=by
 have hc:r.k=0∨r.k=1∨r.k=2∨r.k=3:=by omega
 rcases hc with hc | hc | hc | hc
 ·rw[show viewF r.k=269 by simp[viewF,hc],show wrd r.k=0 by simp[wrd,hc]]
  exact bL7 h hr h1 h2 (by rw[hc]at hok;exact hok)
 ·rw[show viewF r.k=272 by simp[viewF,hc],show wrd r.k=1 by simp[wrd,hc]]
  exact bL5 h hr h1 h2 (by rw[hc]at hok;exact hok)
 ·rw[show viewF r.k=274 by simp[viewF,hc],show wrd r.k=0 by simp[wrd,hc]]
  exact bL3 h hr h1 h2 (by rw[hc]at hok;exact hok)
 ·rw[show viewF r.k=273 by simp[viewF,hc],show wrd r.k=2 by simp[wrd,hc]]
  exact bL9 h hr h1 h2 (by rw[hc]at hok;exact hok)
def endR (r:Rd) (ws:List Int) (o:Bool):Bool:=decide (errR r ws o=0) && decide (4<=(stepR r ws o).k)
def aftO (e:Int) (o:Bool):Bool:=if e=0 then false else o
def aftN (e n:Int):Int:=if e=0 then up n else n
theorem bM3 (r:Rd) (u:Int):(nx0 r u).n=r.n:=by unfold nx0;split <;> (try split) <;> (try split) <;> (try split) <;> rfl
theorem rstep_any (h:MemAt 106 w b g ws o n) (hr:RdAt w q r) (h1:q≠b) (h2:q≠g):Calls Tryz.prog 267 #[.pointer (some ⟨q,0,none⟩),.pointer (some ⟨b,0,none⟩)] w fun e w'=>e=.returned (.tuple #[.bool (endR r ws o),.int .i64 (errR r ws o)])/\MemAt 106 w' b g ws (aftO (errR r ws o) o) (aftN (errR r ws o) n)/\RdAt w' q (stepR r ws o)/\Ch [b,g,q] w w':=by
 by_cases hk:r.k<4
 ·have eE:errR r ws o=errC ws o r.p r.c (wrd r.k):=by simp[errR,hk]
  by_cases hok:errC ws o r.p r.c (wrd r.k)=0
  ·refine(b96 hr hk (bo6 h hr h1 h2 hk hok)).mono fun e w' ⟨he,w1,⟨hm,hch⟩,hr1,hw⟩=>?_
   have e1:errR r ws o=0:=by rw[eE];exact hok
   have e2:stepR r ws o=nxt r (wordC ws r.p r.c (wrd r.k)):=by simp[stepR,e1]
   have e3:endR r ws o=decide (4<=(nx0 r (wordC ws r.p r.c (wrd r.k))).k):=by simp[endR,e1,e2,nxt]
   rw[e3,e2,e1];subst hw;refine⟨he,?_,?_,hch.set (by simp) _ _⟩
   ·exact hm.other (Ne.symm h1) (Ne.symm h2) _ _
   ·have:=RbAt.setN hr1 (up r.n)
    rw[bM3];exact this
  ·refine(b95 hr hk hok (bB5 h hr h1 h2 hk hok)).mono fun e w' ⟨he,hm,hr1,hch⟩=>?_
   have e1:¬ errR r ws o=0:=by rw[eE];exact hok
   have e2:stepR r ws o=r:=by simp[stepR,e1]
   have e3:endR r ws o=false:=by simp[endR,e1]
   rw[e3,e2,aftO,aftN,if_neg e1,if_neg e1,eE];exact⟨he,hm,hr1,hch⟩
 ·refine(aX0 hr hk).mono fun e w' ⟨he,hw⟩=>?_
  subst hw;have e1:errR r ws o=3:=by simp[errR,hk]
  have e2:stepR r ws o=r:=by simp[stepR,e1]
  have e3:endR r ws o=false:=by simp[endR,e1]
  rw[e3,e2,e1];exact⟨he,h,hr,Ch.refl _ _⟩
theorem value_any (h:RdAt w q r):Calls Tryz.prog 268 #[.pointer (some ⟨q,0,none⟩)] w fun e w'=>e=.returned (.float .f64 r.y)/\w'=w:=by
 have h0:=RbAt.cell3 h;have hb:=RbAt.lt h;clear h;go_enter Tryz.func268,Tryz.ntmps268
 go_wp2
 go_ret;exact⟨rfl,rfl⟩
end
theorem aa3 {w:World} {x:Obj} {k:Nat} (hk:w.heap.size=k):(w.alloc x).heap[k]?=some x:=by subst hk;exact zN _ _
def planV (a b c d p f:Int):Value:=.agg #[.int .i64 a,.int .i64 b,.int .i64 c,.int .i64 d,.int .i64 p,.int .i64 f]
def newR (p c s:Int):Rd:=⟨p,c,s,0,0,0,0,0,false⟩
theorem read_any (w:World) (a1 a2 a3 a4 p a6 c s:Int):Calls Tryz.prog 262 #[planV a1 a2 a3 a4 p a6,.int .i64 c,.int .u64 s] w fun e w'=>∃ q,e=.returned (.pointer (some ⟨q,0,none⟩))/\w.heap.size<=q/\RdAt w' q (newR p c s)/\Bl w w':=by
 unfold planV;go_enter Tryz.func262,Tryz.ntmps262
 go_wp2
 go_ret;refine⟨_,rfl,by omega,?_,(((zF _ _).alloc (zE _) _).alloc (by simp) _).alloc (by simp;omega) _⟩;exact aa3 (by simp)
attribute [local go_sem] a00 run_store_func run_store_nilFunc
structure Wt where
 p:Int
 c:Int
 a:Int
 v:Int
 z:Int
 d:Nat
theorem a31 {a w:World} (h:Bl a w) (x:Obj):Bl a (w.alloc x):=h.alloc h.size x
theorem a55 {a w:World} (h:Bl a w):Bl a w.drew:=⟨h.os,h.tape,h.output,h.size,h.block⟩
theorem a22 {a w:World} {k:Nat} (h:Bl a w) (hk:a.heap.size<=k) (j:Nat) (u:Value):Bl a (w.setCell ⟨k,j,none⟩ u) :=
 ⟨h.os,h.tape,h.output,by simpa using h.size,fun i hi=>(zO w ⟨k,j,none⟩ i u (by show i≠k;omega)).trans (h.block i hi)⟩
theorem bl_setRow {a w:World} {k:Nat} (h:Bl a w) (hk:a.heap.size<=k) (x:Array Value):Bl a (w.setRow k x) :=
 ⟨h.os,h.tape,h.output,by simpa using h.size,fun i hi=>(setRow_other _ _ _ _ (by omega)).trans (h.block i hi)⟩
theorem as7 {b g k:Nat} {u w1:World} (hc:Chg b g u w1) (hk:k<u.heap.size) (h1:k≠b) (h2:k≠g) (j:Nat):w1.cell? ⟨k,j,none⟩=u.cell? ⟨k,j,none⟩:=World.cell?_of_block (a:=⟨k,j,none⟩) (hc.block k hk h1 h2)
def bI1 (t:Wt):Array Value:=#[.int .i64 t.p,.int .i64 t.c,.int .i64 2,.int .u64 t.a,.int .i64 0,.int .u64 t.v,.int .i64 1,.int .u64 t.z,.int .i64 t.d]
def WtAt (w:World) (q:Nat) (t:Wt):Prop:=w.heap[q]?=some (.cells (bI1 t) 254 (0,0))/\t.d<=3
section
variable {w:World} {q:Nat} {t:Wt}
theorem WtAt.lt (h:WtAt w q t):q<w.heap.size:=lt_of_block h.1
theorem WtAt.free (h:WtAt w q t) (j:Nat):w.frozen? ⟨q,j,none⟩=false:=zZ w q j _ _ h.1
theorem WtAt.cell (h:WtAt w q t) (j:Nat) (v:Value) (hj:(bI1 t)[j]?=some v):w.cell? ⟨q,j,none⟩=some v:=by rw[zR w q j _ _ _ h.1];exact hj
theorem WtAt.keep {w':World} (h:WtAt w q t) (k:w'.heap[q]?=w.heap[q]?):WtAt w' q t:=⟨k.trans h.1,h.2⟩
theorem WtAt.setD (h:WtAt w q t) (hd:t.d<3):WtAt (w.setCell ⟨q,8,none⟩ (.int .i64 ((t.d+1:Nat):Int))) q { t with d:=t.d+1 }:=⟨(zS w q 8 _ _ _ h.1).trans rfl,hd⟩
end
def wordW (d:Nat):Int:=if d=0 then 2 else if d=1 then 0 else 1
def bitsW (t:Wt):Int:=if t.d=0 then t.a else if t.d=1 then t.v else t.z
theorem wordW_in (d:Nat):0<=wordW d/\wordW d<3:=by unfold wordW;split <;> (try split) <;> omega
def errW (t:Wt) (ws:List Int) (o:Bool):Int:=if t.d<3 then errC ws o t.p t.c (wordW t.d) else 3
def stepW (t:Wt) (ws:List Int) (o:Bool):Wt:=if errW t ws o=0 then { t with d:=t.d+1 } else t
def laidW (t:Wt) (ws:List Int) (o:Bool):List Int:=if errW t ws o=0 then storeC ws t.p t.c (wordW t.d) (bitsW t) else ws
def endW (t:Wt) (ws:List Int) (o:Bool):Bool:=decide (errW t ws o=0) && decide (t.d=2)
section
variable {w:World} {b g q:Nat} {ws:List Int} {o:Bool} {n:Int} {t:Wt}
theorem ap5 (h:WtAt w q t):Calls Tryz.prog 210 #[.pointer (some ⟨q,0,none⟩)] w fun e w'=>e=.returned (.bool (decide (t.d=3)))/\w'=w:=by
 have h8:=h.cell 8 (.int .i64 t.d) rfl;have hb:=h.lt;have e:decide ((t.d:Int)=3)=decide (t.d=3):=by rw[decide_eq_decide];omega
 rw[<- e];clear e h;go_enter Tryz.func210,Tryz.ntmps210
 go_wp2
 go_ret;exact⟨by first | rfl | (congr 1),rfl⟩
theorem aZ1 (h:WtAt w q t) (hk:¬ t.d<3):Calls Tryz.prog 189 #[.pointer (some ⟨q,0,none⟩),.pointer (some ⟨b,0,none⟩)] w fun e w'=>e=.returned (.tuple #[.bool false,.int .i64 3])/\w'=w:=by
 have H1:=zH (ap5 h);rw[zT (show t.d=3 by have:=h.2;omega)]at H1;clear h hk;go_enter Tryz.func189,Tryz.ntmps189
 go_wp2_with (go_at_call 210;refine H1.out.mono ?_;rintro e w1 ⟨rfl,hw⟩;subst w1)
 go_ret2;exact⟨rfl,rfl⟩
theorem bp3 (h:MemAt 106 w b g ws o n) (hr:WtAt w q t) (h1:q≠b) (h2:q≠g) (hd:t.d<3) (hok:errC ws o t.p t.c (wordW t.d)=0):Calls Tryz.prog 189 #[.pointer (some ⟨q,0,none⟩),.pointer (some ⟨b,0,none⟩)] w fun e w'=>e=.returned (.tuple #[.bool (decide (t.d=2)),.int .i64 0])/\MemAt 106 w' b g (storeC ws t.p t.c (wordW t.d) (bitsW t)) false (up n)/\WtAt w' q { t with d:=t.d+1 }/\Ch [b,g,q] w w':=by
 have H1:=zH (ap5 hr);rw[zU (show ¬ t.d=3 by omega)]at H1;have HS:=zH (fun (u:World) (k:Bl w u)=>b21 (h.on k) (p:=t.p) (c:=t.c) (j:=wordW t.d) (bitsW t) (wordW_in _) hok);have HR:=zH hr;have HD:=zH hd;have HN:=zH (And.intro h1 h2);have hb:=h.ltB;have hg:=h.ltG;have hq:=hr.lt;have c0:w.cell? ⟨q,0,none⟩=some (.int .i64 t.p):=hr.cell 0 _ rfl;have c1:w.cell? ⟨q,1,none⟩=some (.int .i64 t.c):=hr.cell 1 _ rfl;have c2:w.cell? ⟨q,2,none⟩=some (.int .i64 2):=hr.cell 2 _ rfl;have c3:w.cell? ⟨q,3,none⟩=some (.int .u64 t.a):=hr.cell 3 _ rfl;have c4:w.cell? ⟨q,4,none⟩=some (.int .i64 0):=hr.cell 4 _ rfl;have c5:w.cell? ⟨q,5,none⟩=some (.int .u64 t.v):=hr.cell 5 _ rfl;have c6:w.cell? ⟨q,6,none⟩=some (.int .i64 1):=hr.cell 6 _ rfl;have c7:w.cell? ⟨q,7,none⟩=some (.int .u64 t.z):=hr.cell 7 _ rfl;have c8:w.cell? ⟨q,8,none⟩=some (.int .i64 t.d):=hr.cell 8 _ rfl;have HO:=zH (fun (w1:World) (k1:WtAt w1 q { t with d:=t.d+1 })=>ap5 k1);have e2:decide (t.d+1=3)=decide (t.d=2):=by rw[decide_eq_decide];omega
 simp only[e2]at HO;have HA:Hid (∀ (u w1:World),Bl w u->w.heap.size<u.heap.size->Chg b g u w1->MemAt 106 w1 b g (storeC ws t.p t.c (wordW t.d) (bitsW t)) false (up n)->(w1.cell? ⟨q,0,none⟩=some (.int .i64 t.p)/\w1.cell? ⟨q,1,none⟩=some (.int .i64 t.c)/\w1.cell? ⟨w.heap.size,0,none⟩=u.cell? ⟨w.heap.size,0,none⟩/\w1.cell? ⟨w.heap.size,1,none⟩=u.cell? ⟨w.heap.size,1,none⟩/\w1.cell? ⟨q,8,none⟩=some (.int .i64 t.d)/\w1.frozen? ⟨q,8,none⟩=false/\q<w1.heap.size)/\Hid (WtAt (w1.setCell ⟨q,8,none⟩ (.int .i64 ((t.d+1:Nat):Int))) q { t with d:=t.d+1 }/\MemAt 106 (w1.setCell ⟨q,8,none⟩ (.int .i64 ((t.d+1:Nat):Int))) b g (storeC ws t.p t.c (wordW t.d) (bitsW t)) false (up n)/\Ch [b,g,q] w (w1.setCell ⟨q,8,none⟩ (.int .i64 ((t.d+1:Nat):Int))))):=fun u w1 k hs hc hm=>by
  have k1:WtAt w1 q t:=hr.keep ((hc.block q (zL hq k.size) h1 h2).trans (k.block q hq));exact⟨⟨k1.cell 0 _ rfl,k1.cell 1 _ rfl,as7 hc hs (by omega) (by omega) 0,as7 hc hs (by omega) (by omega) 1,k1.cell 8 _ rfl,k1.free 8,k1.lt⟩,k1.setD hd,hm.other (Ne.symm h1) (Ne.symm h2) _ _,((bC1 k _).trans (hc.ch (by simp) (by simp))).set (by simp) _ _⟩
 clear h hr hok hd e2
 generalize hyy:storeC ws t.p t.c (wordW t.d) (bitsW t)=yy at HS HA ⊢
 clear hyy;obtain⟨p,c,a,v,z,d⟩:=t;simp only[wordW,bitsW]at *;have hd:d=0∨d=1∨d=2:=by have:d<3:=HD.out;omega
 rcases hd with rfl | rfl | rfl
 ·simp at HS HA HO c8
  go_enter Tryz.func189,Tryz.ntmps189
  go_wp2_with (go_at_call 210;refine H1.out.mono ?_;rintro e w1 ⟨rfl,hw⟩;subst w1;clear H1)
  go_region_held (fun u=>u.cell? ⟨q,0,none⟩=some (.int .i64 p)/\u.cell? ⟨q,1,none⟩=some (.int .i64 c)/\u.cell? ⟨q,2,none⟩=some (.int .i64 2)/\u.cell? ⟨q,3,none⟩=some (.int .u64 a)/\u.cell? ⟨q,4,none⟩=some (.int .i64 0)/\u.cell? ⟨q,5,none⟩=some (.int .u64 v)/\u.cell? ⟨q,6,none⟩=some (.int .i64 1)/\u.cell? ⟨q,7,none⟩=some (.int .u64 z)/\u.cell? ⟨q,8,none⟩=some (.int .i64 0)) (go_keep) (fail)
  go_wp2
  go_region_held (fun u=>u.cell? ⟨q,0,none⟩=some (.int .i64 p)/\u.cell? ⟨q,1,none⟩=some (.int .i64 c)/\u.cell? ⟨w.heap.size,0,none⟩=some (.int .i64 2)/\u.cell? ⟨w.heap.size,1,none⟩=some (.int .u64 a)) (go_keep) (first | (go_at_call 211;refine(HS.out _ (by repeat (first | exact zF _ _ | refine a55 ?_ | refine bl_drewN _ ?_ | refine a31 ?_ _ | refine a22 ?_ (by simp) _ _ | refine bl_setRow ?_ (by simp) _))).mono ?_;rintro e w2 ⟨rfl,hm,hc⟩;obtain⟨⟨d0,d1,d2,d3,d4,d5,d6⟩,hx⟩:=HA.out _ _ (by repeat (first | exact zF _ _ | refine a55 ?_ | refine bl_drewN _ ?_ | refine a31 ?_ _ | refine a22 ?_ (by simp) _ _ | refine bl_setRow ?_ (by simp) _)) (by simp) hc hm;clear hm hc))
  go_wp2_with (go_at_call 210;refine(HO.out _ hx.out.1).mono ?_;rintro e w1 ⟨rfl,hw⟩;subst w1;clear HO)
  go_ret2;exact⟨by first | rfl | simp,hx.out.2.1,hx.out.1,hx.out.2.2⟩
 ·simp at HS HA HO c8
  go_enter Tryz.func189,Tryz.ntmps189
  go_wp2_with (go_at_call 210;refine H1.out.mono ?_;rintro e w1 ⟨rfl,hw⟩;subst w1;clear H1)
  go_region_held (fun u=>u.cell? ⟨q,0,none⟩=some (.int .i64 p)/\u.cell? ⟨q,1,none⟩=some (.int .i64 c)/\u.cell? ⟨q,2,none⟩=some (.int .i64 2)/\u.cell? ⟨q,3,none⟩=some (.int .u64 a)/\u.cell? ⟨q,4,none⟩=some (.int .i64 0)/\u.cell? ⟨q,5,none⟩=some (.int .u64 v)/\u.cell? ⟨q,6,none⟩=some (.int .i64 1)/\u.cell? ⟨q,7,none⟩=some (.int .u64 z)/\u.cell? ⟨q,8,none⟩=some (.int .i64 1)) (go_keep) (fail)
  go_wp2
  go_region_held (fun u=>u.cell? ⟨q,0,none⟩=some (.int .i64 p)/\u.cell? ⟨q,1,none⟩=some (.int .i64 c)/\u.cell? ⟨w.heap.size,0,none⟩=some (.int .i64 0)/\u.cell? ⟨w.heap.size,1,none⟩=some (.int .u64 v)) (go_keep) (first | (go_at_call 211;refine(HS.out _ (by repeat (first | exact zF _ _ | refine a55 ?_ | refine bl_drewN _ ?_ | refine a31 ?_ _ | refine a22 ?_ (by simp) _ _ | refine bl_setRow ?_ (by simp) _))).mono ?_;rintro e w2 ⟨rfl,hm,hc⟩;obtain⟨⟨d0,d1,d2,d3,d4,d5,d6⟩,hx⟩:=HA.out _ _ (by repeat (first | exact zF _ _ | refine a55 ?_ | refine bl_drewN _ ?_ | refine a31 ?_ _ | refine a22 ?_ (by simp) _ _ | refine bl_setRow ?_ (by simp) _)) (by simp) hc hm;clear hm hc))
  go_wp2_with (go_at_call 210;refine(HO.out _ hx.out.1).mono ?_;rintro e w1 ⟨rfl,hw⟩;subst w1;clear HO)
  go_ret2;exact⟨by first | rfl | simp,hx.out.2.1,hx.out.1,hx.out.2.2⟩
 ·simp at HS HA HO c8
  go_enter Tryz.func189,Tryz.ntmps189
  go_wp2_with (go_at_call 210;refine H1.out.mono ?_;rintro e w1 ⟨rfl,hw⟩;subst w1;clear H1)
  go_region_held (fun u=>u.cell? ⟨q,0,none⟩=some (.int .i64 p)/\u.cell? ⟨q,1,none⟩=some (.int .i64 c)/\u.cell? ⟨q,2,none⟩=some (.int .i64 2)/\u.cell? ⟨q,3,none⟩=some (.int .u64 a)/\u.cell? ⟨q,4,none⟩=some (.int .i64 0)/\u.cell? ⟨q,5,none⟩=some (.int .u64 v)/\u.cell? ⟨q,6,none⟩=some (.int .i64 1)/\u.cell? ⟨q,7,none⟩=some (.int .u64 z)/\u.cell? ⟨q,8,none⟩=some (.int .i64 2)) (go_keep) (fail)
  go_wp2
  go_region_held (fun u=>u.cell? ⟨q,0,none⟩=some (.int .i64 p)/\u.cell? ⟨q,1,none⟩=some (.int .i64 c)/\u.cell? ⟨w.heap.size,0,none⟩=some (.int .i64 1)/\u.cell? ⟨w.heap.size,1,none⟩=some (.int .u64 z)) (go_keep) (first | (go_at_call 211;refine(HS.out _ (by repeat (first | exact zF _ _ | refine a55 ?_ | refine bl_drewN _ ?_ | refine a31 ?_ _ | refine a22 ?_ (by simp) _ _ | refine bl_setRow ?_ (by simp) _))).mono ?_;rintro e w2 ⟨rfl,hm,hc⟩;obtain⟨⟨d0,d1,d2,d3,d4,d5,d6⟩,hx⟩:=HA.out _ _ (by repeat (first | exact zF _ _ | refine a55 ?_ | refine bl_drewN _ ?_ | refine a31 ?_ _ | refine a22 ?_ (by simp) _ _ | refine bl_setRow ?_ (by simp) _)) (by simp) hc hm;clear hm hc))
  go_wp2_with (go_at_call 210;refine(HO.out _ hx.out.1).mono ?_;rintro e w1 ⟨rfl,hw⟩;subst w1;clear HO)
  go_ret2;exact⟨by first | rfl | simp,hx.out.2.1,hx.out.1,hx.out.2.2⟩
theorem bp2 (h:MemAt 106 w b g ws o n) (hr:WtAt w q t) (h1:q≠b) (h2:q≠g) (hd:t.d<3) (hok:¬ errC ws o t.p t.c (wordW t.d)=0):Calls Tryz.prog 189 #[.pointer (some ⟨q,0,none⟩),.pointer (some ⟨b,0,none⟩)] w fun e w'=>e=.returned (.tuple #[.bool false,.int .i64 (errC ws o t.p t.c (wordW t.d))])/\MemAt 106 w' b g ws o n/\WtAt w' q t/\Ch [b,g,q] w w':=by
 have H1:=zH (ap5 hr);rw[zU (show ¬ t.d=3 by omega)]at H1;have HS:=zH (fun (u:World) (k:Bl w u)=>b20 (h.on k) (p:=t.p) (c:=t.c) (j:=wordW t.d) (bitsW t) (wordW_in _) hok);have HD:=zH hd;have hb:=h.ltB;have hg:=h.ltG;have hq:=hr.lt;have c0:w.cell? ⟨q,0,none⟩=some (.int .i64 t.p):=hr.cell 0 _ rfl;have c1:w.cell? ⟨q,1,none⟩=some (.int .i64 t.c):=hr.cell 1 _ rfl;have c2:w.cell? ⟨q,2,none⟩=some (.int .i64 2):=hr.cell 2 _ rfl;have c3:w.cell? ⟨q,3,none⟩=some (.int .u64 t.a):=hr.cell 3 _ rfl;have c4:w.cell? ⟨q,4,none⟩=some (.int .i64 0):=hr.cell 4 _ rfl;have c5:w.cell? ⟨q,5,none⟩=some (.int .u64 t.v):=hr.cell 5 _ rfl;have c6:w.cell? ⟨q,6,none⟩=some (.int .i64 1):=hr.cell 6 _ rfl;have c7:w.cell? ⟨q,7,none⟩=some (.int .u64 t.z):=hr.cell 7 _ rfl;have c8:w.cell? ⟨q,8,none⟩=some (.int .i64 t.d):=hr.cell 8 _ rfl;have HA:Hid (∀ (u w1:World),Bl w u->w.heap.size<u.heap.size->Chg b g u w1->MemAt 106 w1 b g ws o n->(w1.cell? ⟨q,0,none⟩=some (.int .i64 t.p)/\w1.cell? ⟨q,1,none⟩=some (.int .i64 t.c)/\w1.cell? ⟨w.heap.size,0,none⟩=u.cell? ⟨w.heap.size,0,none⟩/\w1.cell? ⟨w.heap.size,1,none⟩=u.cell? ⟨w.heap.size,1,none⟩)/\Hid (MemAt 106 w1 b g ws o n/\WtAt w1 q t/\Ch [b,g,q] w w1)):=fun u w1 k hs hc hm=>by
  have k1:WtAt w1 q t:=hr.keep ((hc.block q (zL hq k.size) h1 h2).trans (k.block q hq));exact⟨⟨k1.cell 0 _ rfl,k1.cell 1 _ rfl,as7 hc hs (by omega) (by omega) 0,as7 hc hs (by omega) (by omega) 1⟩,hm,hr.keep ((hc.block q (zL hq k.size) h1 h2).trans (k.block q hq)),((bC1 k _).trans (hc.ch (by simp) (by simp)))⟩
 clear h hr hd
 generalize errC ws o t.p t.c (wordW t.d)=x at HS hok ⊢
 obtain⟨p,c,a,v,z,d⟩:=t;simp only[wordW,bitsW]at *;have hd:d=0∨d=1∨d=2:=by have:d<3:=HD.out;omega
 rcases hd with rfl | rfl | rfl
 ·simp at HS HA c8
  go_enter Tryz.func189,Tryz.ntmps189
  go_wp2_with (go_at_call 210;refine H1.out.mono ?_;rintro e w1 ⟨rfl,hw⟩;subst w1;clear H1)
  go_region_held (fun u=>u.cell? ⟨q,0,none⟩=some (.int .i64 p)/\u.cell? ⟨q,1,none⟩=some (.int .i64 c)/\u.cell? ⟨q,2,none⟩=some (.int .i64 2)/\u.cell? ⟨q,3,none⟩=some (.int .u64 a)/\u.cell? ⟨q,4,none⟩=some (.int .i64 0)/\u.cell? ⟨q,5,none⟩=some (.int .u64 v)/\u.cell? ⟨q,6,none⟩=some (.int .i64 1)/\u.cell? ⟨q,7,none⟩=some (.int .u64 z)/\u.cell? ⟨q,8,none⟩=some (.int .i64 0)) (go_keep) (fail)
  go_wp2
  go_region_held (fun u=>u.cell? ⟨q,0,none⟩=some (.int .i64 p)/\u.cell? ⟨q,1,none⟩=some (.int .i64 c)/\u.cell? ⟨w.heap.size,0,none⟩=some (.int .i64 2)/\u.cell? ⟨w.heap.size,1,none⟩=some (.int .u64 a)) (go_keep) (first | (go_at_call 211;refine(HS.out _ (by repeat (first | exact zF _ _ | refine a55 ?_ | refine bl_drewN _ ?_ | refine a31 ?_ _ | refine a22 ?_ (by simp) _ _ | refine bl_setRow ?_ (by simp) _))).mono ?_;rintro e w2 ⟨rfl,hm,hc⟩;obtain⟨⟨d0,d1,d2,d3⟩,hx⟩:=HA.out _ _ (by repeat (first | exact zF _ _ | refine a55 ?_ | refine bl_drewN _ ?_ | refine a31 ?_ _ | refine a22 ?_ (by simp) _ _ | refine bl_setRow ?_ (by simp) _)) (by simp) hc hm;clear hm hc))
  go_wp2
  go_ret2;exact⟨rfl,hx.out⟩
 ·simp at HS HA c8
  go_enter Tryz.func189,Tryz.ntmps189
  go_wp2_with (go_at_call 210;refine H1.out.mono ?_;rintro e w1 ⟨rfl,hw⟩;subst w1;clear H1)
  go_region_held (fun u=>u.cell? ⟨q,0,none⟩=some (.int .i64 p)/\u.cell? ⟨q,1,none⟩=some (.int .i64 c)/\u.cell? ⟨q,2,none⟩=some (.int .i64 2)/\u.cell? ⟨q,3,none⟩=some (.int .u64 a)/\u.cell? ⟨q,4,none⟩=some (.int .i64 0)/\u.cell? ⟨q,5,none⟩=some (.int .u64 v)/\u.cell? ⟨q,6,none⟩=some (.int .i64 1)/\u.cell? ⟨q,7,none⟩=some (.int .u64 z)/\u.cell? ⟨q,8,none⟩=some (.int .i64 1)) (go_keep) (fail)
  go_wp2
  go_region_held (fun u=>u.cell? ⟨q,0,none⟩=some (.int .i64 p)/\u.cell? ⟨q,1,none⟩=some (.int .i64 c)/\u.cell? ⟨w.heap.size,0,none⟩=some (.int .i64 0)/\u.cell? ⟨w.heap.size,1,none⟩=some (.int .u64 v)) (go_keep) (first | (go_at_call 211;refine(HS.out _ (by repeat (first | exact zF _ _ | refine a55 ?_ | refine bl_drewN _ ?_ | refine a31 ?_ _ | refine a22 ?_ (by simp) _ _ | refine bl_setRow ?_ (by simp) _))).mono ?_;rintro e w2 ⟨rfl,hm,hc⟩;obtain⟨⟨d0,d1,d2,d3⟩,hx⟩:=HA.out _ _ (by repeat (first | exact zF _ _ | refine a55 ?_ | refine bl_drewN _ ?_ | refine a31 ?_ _ | refine a22 ?_ (by simp) _ _ | refine bl_setRow ?_ (by simp) _)) (by simp) hc hm;clear hm hc))
  go_wp2
  go_ret2;exact⟨rfl,hx.out⟩
 ·simp at HS HA c8
  go_enter Tryz.func189,Tryz.ntmps189
  go_wp2_with (go_at_call 210;refine H1.out.mono ?_;rintro e w1 ⟨rfl,hw⟩;subst w1;clear H1)
  go_region_held (fun u=>u.cell? ⟨q,0,none⟩=some (.int .i64 p)/\u.cell? ⟨q,1,none⟩=some (.int .i64 c)/\u.cell? ⟨q,2,none⟩=some (.int .i64 2)/\u.cell? ⟨q,3,none⟩=some (.int .u64 a)/\u.cell? ⟨q,4,none⟩=some (.int .i64 0)/\u.cell? ⟨q,5,none⟩=some (.int .u64 v)/\u.cell? ⟨q,6,none⟩=some (.int .i64 1)/\u.cell? ⟨q,7,none⟩=some (.int .u64 z)/\u.cell? ⟨q,8,none⟩=some (.int .i64 2)) (go_keep) (fail)
  go_wp2
  go_region_held (fun u=>u.cell? ⟨q,0,none⟩=some (.int .i64 p)/\u.cell? ⟨q,1,none⟩=some (.int .i64 c)/\u.cell? ⟨w.heap.size,0,none⟩=some (.int .i64 1)/\u.cell? ⟨w.heap.size,1,none⟩=some (.int .u64 z)) (go_keep) (first | (go_at_call 211;refine(HS.out _ (by repeat (first | exact zF _ _ | refine a55 ?_ | refine bl_drewN _ ?_ | refine a31 ?_ _ | refine a22 ?_ (by simp) _ _ | refine bl_setRow ?_ (by simp) _))).mono ?_;rintro e w2 ⟨rfl,hm,hc⟩;obtain⟨⟨d0,d1,d2,d3⟩,hx⟩:=HA.out _ _ (by repeat (first | exact zF _ _ | refine a55 ?_ | refine bl_drewN _ ?_ | refine a31 ?_ _ | refine a22 ?_ (by simp) _ _ | refine bl_setRow ?_ (by simp) _)) (by simp) hc hm;clear hm hc))
  go_wp2
  go_ret2;exact⟨rfl,hx.out⟩
theorem wstep_any (h:MemAt 106 w b g ws o n) (hr:WtAt w q t) (h1:q≠b) (h2:q≠g):Calls Tryz.prog 189 #[.pointer (some ⟨q,0,none⟩),.pointer (some ⟨b,0,none⟩)] w fun e w'=>e=.returned (.tuple #[.bool (endW t ws o),.int .i64 (errW t ws o)])/\MemAt 106 w' b g (laidW t ws o) (aftO (errW t ws o) o) (aftN (errW t ws o) n)/\WtAt w' q (stepW t ws o)/\Ch [b,g,q] w w':=by
 by_cases hd:t.d<3
 ·have eE:errW t ws o=errC ws o t.p t.c (wordW t.d):=by simp[errW,hd]
  by_cases hok:errC ws o t.p t.c (wordW t.d)=0
  ·have e1:errW t ws o=0:=by rw[eE];exact hok
   have e2:endW t ws o=decide (t.d=2):=by simp[endW,e1]
   rw[e2,laidW,stepW,if_pos e1,if_pos e1,e1];exact bp3 h hr h1 h2 hd hok
  ·have e1:¬ errW t ws o=0:=by rw[eE];exact hok
   have e2:endW t ws o=false:=by simp[endW,e1]
   rw[e2,laidW,stepW,aftO,aftN,if_neg e1,if_neg e1,if_neg e1,if_neg e1,eE];exact bp2 h hr h1 h2 hd hok
 ·have e1:errW t ws o=3:=by simp[errW,hd]
  have e3:¬ errW t ws o=0:=by rw[e1];decide
  have e2:endW t ws o=false:=by simp[endW,e1]
  rw[e2,laidW,stepW,aftO,aftN,if_neg e3,if_neg e3,if_neg e3,if_neg e3,e1];refine(aZ1 hr hd).mono fun e w' ⟨he,hw⟩=>?_
  subst hw;exact⟨he,h,hr,Ch.refl _ _⟩
end
def newW (p c v:Int) (x y:Nat):Wt:=⟨p,c,fixB x,v,fixB y,0⟩
theorem write_any (w:World) (a1 a2 a3 a4 p a6 c v:Int) (x y:Nat):Calls Tryz.prog 176 #[planV a1 a2 a3 a4 p a6,.int .i64 c,.int .u64 v,.float .f64 x,.float .f64 y] w fun e w'=>∃ q,e=.returned (.pointer (some ⟨q,0,none⟩))/\w.heap.size<=q/\WtAt w' q (newW p c v x y)/\Bl w w':=by
 unfold planV;go_enter Tryz.func176,Tryz.ntmps176
 go_wp2
 go_region_held (fun u=>u.cell? ⟨w.heap.size,4,none⟩=some (.int .i64 p)) (go_keep) (first | (go_at_call 56;refine(am2 _ _).mono ?_;rintro e w1 ⟨rfl,hw⟩;subst w1))
 go_wp2
 go_ret;refine⟨_,rfl,by omega,⟨aa3 (by simp),zV _⟩,(by repeat (first | exact zF _ _ | refine a55 ?_ | refine bl_drewN _ ?_ | refine a31 ?_ _ | refine a22 ?_ (by simp) _ _ | refine bl_setRow ?_ (by simp) _))⟩
attribute [local go_sem] a00 run_store_func run_store_nilFunc
theorem box2 {w:World} {x:Nat} {v0 v1:Value} {T:TypeId} (h:w.heap[x]?=some (.cells #[v0,v1] T (0,0))):(w.cell? ⟨x,0,none⟩=some v0/\w.cell? ⟨x,1,none⟩=some v1/\x<w.heap.size) :=
 ⟨by rw[zR w x 0 _ _ _ h];rfl,by rw[zR w x 1 _ _ _ h];rfl,lt_of_block h⟩
theorem box3 {w:World} {x:Nat} {v0 v1 v2:Value} {T:TypeId} (h:w.heap[x]?=some (.cells #[v0,v1,v2] T (0,0))):(w.cell? ⟨x,0,none⟩=some v0/\w.cell? ⟨x,1,none⟩=some v1/\w.cell? ⟨x,2,none⟩=some v2/\x<w.heap.size)/\w.frozen? ⟨x,0,none⟩=false/\w.frozen? ⟨x,1,none⟩=false/\w.frozen? ⟨x,2,none⟩=false :=
 ⟨⟨by rw[zR w x 0 _ _ _ h];rfl,by rw[zR w x 1 _ _ _ h];rfl,by rw[zR w x 2 _ _ _ h];rfl,lt_of_block h⟩,zZ w x 0 _ _ h,zZ w x 1 _ _ h,zZ w x 2 _ _ h⟩
def ay5 (v x y:Int):Value:=.agg #[.int .u64 v,.int .u64 x,.int .u64 y]
def bH5 (v x y:Int):Array Value:=#[.int .u64 v,.int .u64 x,.int .u64 y]
theorem ar1 {fn:Func} {p u:Tmp} (h:fn.results=#[.cell p 108,.tmp u]) {Q:Ending->World->Prop} {a:Act} {w:World} (g:Nat) (v x y:Int) (e:Int) (hp:a.tmps.getD p undef=.pointer (some ⟨g,0,none⟩)) (hu:a.tmps.getD u undef=.int .i64 e)
  (hg:w.heap[g]?=some (.cells (bH5 v x y) 108 (0,0))) (hd:a.defers=[]) (hR:Q (.returned (.tuple #[ay5 v x y,.int .i64 e])) w):bodyPost Tryz.prog fn Q .ret a w:=by
 refine bodyPost_ret (v:=.tuple #[ay5 v x y,.int .i64 e]) ?_ hd hR;rw[results_cell_tmp h,hp,hu];have hl:=run_loadVar_row (P:=Tryz.prog) w g 108 108 (bH5 v x y) (0,0) _ hg Tryz.underlying108 rfl (by kernel_rfl)
 simp[asAddr,hl,Result.andThen]
 rfl
theorem aF4 {w:World} {x:Nat} {v0 v1 v2 u0 u1 u2:Value} {T:TypeId} (h:w.heap[x]?=some (.cells #[v0,v1,v2] T (0,0))):(((w.setCell ⟨x,0,none⟩ u0).setCell ⟨x,1,none⟩ u1).setCell ⟨x,2,none⟩ u2).heap[x]?=some (.cells #[u0,u1,u2] T (0,0)):=by
 have k0:=zS w x 0 _ _ u0 h;have k1:=zS _ x 1 _ _ u1 k0;exact(zS _ x 2 _ _ u2 k1).trans rfl
structure Pk (w wr:World) (p c:Int):Prop where
 below:Bl w wr
 ans:wr.heap[w.heap.size+1]?=some (.cells #[.int .u64 0,.int .u64 0,.int .u64 0] 108 (0,0))
 spot:wr.heap[w.heap.size+1+1]?=some (.cells #[.int .i64 p,.int .i64 c] 112 (0,0))
theorem Pk.on {w wr u:World} {p c:Int} (h:Pk w wr p c) (k:Bl wr u):Pk w u p c :=
 ⟨a57 h.below k,(k.block _ (lt_of_block h.ans)).trans h.ans,(k.block _ (lt_of_block h.spot)).trans h.spot⟩
theorem br2 {w w1:World} {A:Obj} {p c:Int} (k:Below (((w.alloc A).alloc (.cells #[.int .u64 0,.int .u64 0,.int .u64 0] 108)).alloc (.cells #[.int .i64 p,.int .i64 c] 112)).heap.size (((w.alloc A).alloc (.cells #[.int .u64 0,.int .u64 0,.int .u64 0] 108)).alloc (.cells #[.int .i64 p,.int .i64 c] 112)) w1):Pk w w1 p c :=
 ⟨a57 (a31 (a31 (a31 (zF _ _) _) _) _) k,(k.block _ (by simp)).trans ((Below.heap_alloc _ _ _ (by simp)).trans (aa3 (by simp))),(k.block _ (by simp)).trans (aa3 (by simp))⟩
def PkL (ws:List Int) (p c:Int) (k:Nat):List Int:=[if 0<k then wordC ws p c 0 else 0,if 1<k then wordC ws p c 1 else 0,if 2<k then wordC ws p c 2 else 0]
theorem br9 (ws:List Int) (p c:Int) {k:Nat} (hk:k<3):(PkL ws p c k).set k (wordC ws p c k)=PkL ws p c (k+1):=by
 have:k=0∨k=1∨k=2:=by omega
 rcases this with rfl | rfl | rfl <;> simp[PkL]
theorem bj3 {w u:World} {ws:List Int} {p c:Int} {gl k:Nat} (h:Pk w u p c/\u.heap[gl]?=some (.cells (u64s (PkL ws p c k)).toArray 142 (0,0))) (hg:w.heap.size+1+1<gl) (hk:k<3) :
  ((∃ y,u.cell? ⟨gl,k,none⟩=some (.int .u64 y))/\u.frozen? ⟨gl,k,none⟩=false/\gl<u.heap.size)/\Hid (Pk w (u.setCell ⟨gl,k,none⟩ (.int .u64 (wordAt ws (placeI p c k)))) p c/\(u.setCell ⟨gl,k,none⟩ (.int .u64 (wordAt ws (placeI p c k)))).heap[gl]?=some (.cells (u64s (PkL ws p c (k+1))).toArray 142 (0,0))):=by
 refine⟨⟨⟨(PkL ws p c k).getD k 0,?_⟩,zZ _ _ _ _ _ h.2,lt_of_block h.2⟩,⟨⟨a22 h.1.below (by omega) _ _,?_,?_⟩,?_⟩⟩
 ·rw[zR _ _ _ _ _ _ h.2]
  have hl:k<(PkL ws p c k).length:=by simpa[PkL]using hk
  simp[u64s,hl]
 ·exact(zO _ _ _ _ (by show w.heap.size+1≠gl;omega)).trans h.1.ans
 ·exact(zO _ _ _ _ (by show w.heap.size+1+1≠gl;omega)).trans h.1.spot
 ·rw[zS _ _ _ _ _ _ h.2,<- br9 ws p c hk,<- aT4,zA]
  rfl
section
variable {w:World} {b g:Nat} {ws:List Int} {o:Bool} {n:Int}
theorem bd9 (a1 a2 a3 a4 p a6 c:Int) (hc:mayC c=false) (w:World):Calls Tryz.prog 53 #[.pointer (some ⟨b,0,none⟩),planV a1 a2 a3 a4 p a6,.int .i64 c] w fun e w'=>e=.returned (.tuple #[ay5 0 0 0,.int .i64 60])/\Bl w w':=by
 have H1:=zH (aa7 p c);simp only[hc]at H1;unfold planV;clear hc;go_enter Tryz.func53,Tryz.ntmps53
 go_wp2_with (go_at_call 73;refine(H1.out _).mono ?_;rintro e w1 ⟨rfl,hw⟩;have HP:=zH (br2 hw);obtain⟨⟨q0,q1,q2,q3⟩,q4,q5,q6⟩:=box3 HP.out.ans;clear hw)
 refine ar1 rfl (w.heap.size+1) 0 0 0 60 rfl rfl (aF4 HP.out.ans) rfl ⟨rfl,?_⟩;refine a22 (a22 (a22 HP.out.below (by omega) _ _) (by omega) _ _) (by omega) _ _
theorem b18 (h:MemAt 106 w b g ws o n) (a1 a2 a3 a4 p a6 c:Int) (hc:mayC c=true):Calls Tryz.prog 53 #[.pointer (some ⟨b,0,none⟩),planV a1 a2 a3 a4 p a6,.int .i64 c] w fun e w'=>(e=.returned (.tuple #[ay5 (wordC ws p c 0) (wordC ws p c 1) (wordC ws p c 2),.int .i64 0])/\(∀ j:Nat,j<3->hasB ws (placeI p c j)=true)∨e=.returned (.tuple #[ay5 0 0 0,.int .i64 30])/\∃ j:Nat,j<3/\hasB ws (placeI p c j)=false)/\Bl w w':=by
 have H1:=zH (aa7 p c);simp only[hc]at H1;unfold planV;have HPL:=zH (fun (j:Int) (hj:0<=j/\j<3)=>a69 p c j hc hj);have HPK:=zH (fun (u:World) (k:Bl w u) (j:Int)=>peek_any (h.on k) j);clear h hc;go_enter Tryz.func53,Tryz.ntmps53
 go_wp2_with (go_at_call 73;refine(H1.out _).mono ?_;rintro e w1 ⟨rfl,hw⟩;have HP:=zH (br2 hw);clear hw)
 obtain⟨gl,hgl⟩:∃ gl,w1.heap.size=gl:=⟨_,rfl⟩
 have HG:Hid (w.heap.size+1+1<gl):=by show _<_;rw[<- hgl];exact lt_of_block HP.out.spot
 have HL0:Hid (Pk w (w1.alloc (.cells #[.int .u64 0,.int .u64 0,.int .u64 0] 142)) p c/\(w1.alloc (.cells #[.int .u64 0,.int .u64 0,.int .u64 0] 142)).heap[gl]?=some (.cells (u64s (PkL ws p c 0)).toArray 142 (0,0))):=⟨HP.out.on (a31 (zF _ _) _),aa3 hgl⟩;rw[hgl];clear HP hgl
 go_loopw [21] (fun vi wr=>∃ k:Nat,vi=.int .i64 k/\k<=3/\Hid ((Pk w wr p c/\wr.heap[gl]?=some (.cells (u64s (PkL ws p c k)).toArray 142 (0,0)))/\∀ j:Nat,j<k->hasB ws (placeI p c j)=true)) (fun vi _=>3 - (intOf vi).toNat)
 case atStart=>exact⟨0,rfl,by omega,HL0.out,fun j hj=>absurd hj (zI j)⟩
 case round =>
  clear HL0;obtain⟨k,rfl,hk,HR⟩:=hrel
  by_cases hlt:k<3
  ·have hlt':(k:Int)<3:=by omega
   obtain⟨q0,q1,q2⟩:=box2 HR.out.1.1.spot;have hsz:=HR.out.1.1.below.size;have HPLK:=zH (HPL.out k ⟨by omega,by omega⟩);have HAR:Hid (∀ u,Bl wr u->(Pk w u p c/\u.heap[gl]?=some (.cells (u64s (PkL ws p c k)).toArray 142 (0,0)))):=fun u hu=>⟨HR.out.1.1.on hu,(hu.block gl (lt_of_block HR.out.1.2)).trans HR.out.1.2⟩
   cases hh:hasB ws (placeI p c k)
   ·have HEX:Hid (∃ j:Nat,j<3/\hasB ws (placeI p c j)=false):=⟨k,hlt,hh⟩
    have HPKK:=zH (fun (u:World) (z:Bl w u)=>HPK.out u z (placeI p c k));simp only[errP,hh]at HPKK
    generalize placeI p c k=ii at HPLK HPKK hh
    clear hh hk HR
    go_wp2_with (first
     | (go_at_call 55;refine(HPLK.out _).mono ?_;rintro e w2 ⟨rfl,hw⟩;have HP2:=zH (HAR.out _ hw);obtain⟨⟨q0,q1,q2,q3⟩,q4,q5,q6⟩:=box3 HP2.out.1.ans;clear hw)
     | (go_at_call 67;refine(HPKK.out _ HP2.out.1.below).mono ?_;rintro e w3 ⟨rfl,hw⟩;subst w3))
    refine ar1 rfl (w.heap.size+1) 0 0 0 30 rfl rfl (aF4 HP2.out.1.ans) rfl ⟨.inr ⟨rfl,HEX.out⟩,?_⟩;exact a22 (a22 (a22 HP2.out.1.below (by omega) _ _) (by omega) _ _) (by omega) _ _
   ·have HALL:Hid (∀ j:Nat,j<k+1->hasB ws (placeI p c j)=true):=fun j hj=>by
     by_cases e:j=k
     ·subst e;exact hh
     ·exact HR.out.2 j (by omega)
    have HPKK:=zH (fun (u:World) (z:Bl w u)=>HPK.out u z (placeI p c k));simp only[errP,hh]at HPKK;have HST:Hid (∀ u:World,(Pk w u p c/\u.heap[gl]?=some (.cells (u64s (PkL ws p c k)).toArray 142 (0,0)))->((∃ y,u.cell? ⟨gl,k,none⟩=some (.int .u64 y))/\u.frozen? ⟨gl,k,none⟩=false/\gl<u.heap.size)/\Hid (Pk w (u.setCell ⟨gl,k,none⟩ (.int .u64 (wordAt ws (placeI p c k)))) p c/\(u.setCell ⟨gl,k,none⟩ (.int .u64 (wordAt ws (placeI p c k)))).heap[gl]?=some (.cells (u64s (PkL ws p c (k+1))).toArray 142 (0,0)))):=fun u hu=>bj3 hu HG.out hlt
    generalize placeI p c k=ii at HPLK HPKK hh HST
    generalize wordAt ws ii=yy at HPKK HST
    clear hh hk HR
    go_wp2_with (first
     | (go_at_call 55;refine(HPLK.out _).mono ?_;rintro e w2 ⟨rfl,hw⟩;have HP2:=zH (HAR.out _ hw);obtain⟨⟨⟨y0,q0⟩,q1,q2⟩,HX⟩:=HST.out _ HP2.out;clear hw)
     | (go_at_call 67;refine(HPKK.out _ HP2.out.1.below).mono ?_;rintro e w3 ⟨rfl,hw⟩;subst w3))
    exact⟨⟨k+1,by first | rfl | (congr 1),by omega,HX.out,HALL.out⟩,by simp[intOf];omega⟩
  ·have hlt':¬ (k:Int)<3:=by omega
   obtain rfl:k=3:=by omega
   have HALL:=zH HR.out.2;have HP2:=zH HR.out.1;obtain⟨⟨q0,q1,q2,q3⟩,q4,q5,q6⟩:=box3 HP2.out.1.ans;obtain⟨⟨r0,r1,r2,r3⟩,_⟩:=box3 (v0:=.int .u64 (wordC ws p c 0)) (v1:=.int .u64 (wordC ws p c 1)) (v2:=.int .u64 (wordC ws p c 2)) HP2.out.2;clear HR HPL HPK hlt hk
   go_wp2
   refine ar1 rfl (w.heap.size+1) (wordC ws p c 0) (wordC ws p c 1) (wordC ws p c 2) 0 rfl rfl (aF4 HP2.out.1.ans) rfl ⟨.inl ⟨rfl,HALL.out⟩,?_⟩;exact a22 (a22 (a22 HP2.out.1.below (by omega) _ _) (by omega) _ _) (by omega) _ _
def okP (ws:List Int) (p c:Int):Bool:=hasB ws (placeI p c 0) && hasB ws (placeI p c 1) && hasB ws (placeI p c 2)
def peekE (ws:List Int) (p c:Int):Int:=if mayC c then (if okP ws p c then 0 else 30) else 60
def peekW (ws:List Int) (p c j:Int):Int:=if peekE ws p c=0 then wordC ws p c j else 0
theorem cpeek_any (h:MemAt 106 w b g ws o n) (a1 a2 a3 a4 p a6 c:Int):Calls Tryz.prog 53 #[.pointer (some ⟨b,0,none⟩),planV a1 a2 a3 a4 p a6,.int .i64 c] w fun e w'=>e=.returned (.tuple #[ay5 (peekW ws p c 0) (peekW ws p c 1) (peekW ws p c 2),.int .i64 (peekE ws p c)])/\Bl w w':=by
 cases hc:mayC c
 ·have e1:peekE ws p c=60:=by simp[peekE,hc]
  have e2:∀ j,peekW ws p c j=0:=fun j=>by simp[peekW,e1]
  rw[e2,e2,e2,e1];exact bd9 a1 a2 a3 a4 p a6 c hc w
 ·refine(b18 h a1 a2 a3 a4 p a6 c hc).mono fun e w' ⟨he,hb⟩=>⟨?_,hb⟩
  rcases he with⟨he,ha⟩ | ⟨he,j,hj,hn⟩
  ·have e1:peekE ws p c=0:=by
    have h0:=ha 0 (by omega);have h1:=ha 1 (by omega);have h2:=ha 2 (by omega)
    simp at h0 h1 h2
    simp[peekE,hc,okP,h0,h1,h2]
   have e2:∀ j,peekW ws p c j=wordC ws p c j:=fun j=>by simp[peekW,e1]
   rw[e2,e2,e2,e1];exact he
  ·have e0:okP ws p c=false:=by
    have:j=0∨j=1∨j=2:=by omega
    rcases this with rfl | rfl | rfl <;> simp at hn <;> simp[okP,hn]
   have e1:peekE ws p c=30:=by simp[peekE,hc,e0]
   have e2:∀ j,peekW ws p c j=0:=fun j=>by simp[peekW,e1]
   rw[e2,e2,e2,e1];exact he
def nowV (ws:List Int) (o:Bool) (p c:Int):Nat:=if errC ws o p c 1=0 then fixB (wordC ws p c 1).toNat else 0
theorem cnow_any (h:MemAt 106 w b g ws o n) (a1 a2 a3 a4 p a6 c:Int):Calls Tryz.prog 138 #[.pointer (some ⟨b,0,none⟩),planV a1 a2 a3 a4 p a6,.int .i64 c] w fun e w'=>e=.returned (.tuple #[.float .f64 (nowV ws o p c),.int .i64 (errC ws o p c 1)])/\MemAt 106 w' b g ws (aftO (errC ws o p c 1) o) (aftN (errC ws o p c 1) n)/\Chg b g w w':=by
 unfold planV
 by_cases hok:errC ws o p c 1=0
 ·have HL:=zH (fun (u:World) (k:Bl w u)=>am6 (h.on k) (p:=p) (c:=c) (j:=1) (by omega) hok)
  rw[nowV,if_pos hok,hok]
  generalize wordC ws p c 1=x at HL ⊢
  clear h hok;go_enter Tryz.func138,Tryz.ntmps138
  go_wp2_with (first
   | (go_at_call 150;refine(HL.out _ (by repeat (first | exact zF _ _ | refine a55 ?_ | refine bl_drewN _ ?_ | refine a31 ?_ _ | refine a22 ?_ (by simp) _ _ | refine bl_setRow ?_ (by simp) _))).mono ?_;rintro e w1 ⟨rfl,hm,hc⟩;have HX:=zH (And.intro hm (a70 (a:=w) (by repeat (first | exact zF _ _ | refine a55 ?_ | refine bl_drewN _ ?_ | refine a31 ?_ _ | refine a22 ?_ (by simp) _ _ | refine bl_setRow ?_ (by simp) _)) hc));clear hm hc)
   | (go_at_call 80;refine(aI5 _ _).mono ?_;rintro e w2 ⟨rfl,hw⟩;subst w2))
  go_ret2;exact⟨rfl,HX.out⟩
 ·have HL:=zH (fun (u:World) (k:Bl w u)=>am5 (h.on k) (p:=p) (c:=c) (j:=1) (by omega) hok)
  rw[nowV,aftO,aftN,if_neg hok,if_neg hok,if_neg hok]
  generalize errC ws o p c 1=x at HL hok ⊢
  clear h;go_enter Tryz.func138,Tryz.ntmps138
  go_wp2_with (go_at_call 150;refine(HL.out _ (by repeat (first | exact zF _ _ | refine a55 ?_ | refine bl_drewN _ ?_ | refine a31 ?_ _ | refine a22 ?_ (by simp) _ _ | refine bl_setRow ?_ (by simp) _))).mono ?_;rintro e w1 ⟨rfl,hm,hc⟩;have HX:=zH (And.intro hm (a70 (a:=w) (by repeat (first | exact zF _ _ | refine a55 ?_ | refine bl_drewN _ ?_ | refine a31 ?_ _ | refine a22 ?_ (by simp) _ _ | refine bl_setRow ?_ (by simp) _)) hc));clear hm hc)
  go_ret2;exact⟨rfl,HX.out⟩
end
def atV (v x y s:Int):Nat:=if s<v then fixB y.toNat else fixB x.toNat
theorem cat_any (v x y s:Int) (w:World):Calls Tryz.prog 68 #[ay5 v x y,.int .u64 s] w fun e w'=>e=.returned (.float .f64 (atV v x y s))/\Bl w w':=by
 unfold ay5 atV
 by_cases h:s<v
 ·rw[if_pos h]
  go_enter Tryz.func68,Tryz.ntmps68
  go_wp2_with (go_at_call 80;refine(aI5 _ _).mono ?_;rintro e w2 ⟨rfl,hw⟩;subst w2)
  go_ret;exact⟨rfl,(by repeat (first | exact zF _ _ | refine a55 ?_ | refine bl_drewN _ ?_ | refine a31 ?_ _ | refine a22 ?_ (by simp) _ _ | refine bl_setRow ?_ (by simp) _))⟩
 ·rw[if_neg h]
  go_enter Tryz.func68,Tryz.ntmps68
  go_wp2_with (go_at_call 80;refine(aI5 _ _).mono ?_;rintro e w2 ⟨rfl,hw⟩;subst w2)
  go_ret;exact⟨rfl,(by repeat (first | exact zF _ _ | refine a55 ?_ | refine bl_drewN _ ?_ | refine a31 ?_ _ | refine a22 ?_ (by simp) _ _ | refine bl_setRow ?_ (by simp) _))⟩
end Go.Proofs.YtipakfjpfjehmaaGreatDoor.Md.Ce
namespace Go.Proofs.YtipakfjpfjehmaaGreatDoor
section
variable {P:Program} {ops:Array Oper} {Q:Exit->Act->World->Prop} {md:Region.Mode} {S:World->Prop}
def ae5 (P:Program) (ops:Array Oper) (Q:Exit->Act->World->Prop) (S:World->Prop):List (Nat × Bool)->Act->World->Prop
 | [],a,w=>Q .normal a w
 | (i,true)::rest,a,w=>∃ o v,ops[i]?=some o/\YieldsIf P ops S o v a/\ae5 P ops Q S rest (a.put o.dst v) w
 | (i,false)::rest,a,w=>wpOp P ops Q i (fun a' w'=>S w'/\ae5 P ops Q S rest a' w') a w
def seqB (md:Region.Mode) (ops:Array Oper):Array Bool->List (Nat × Bool)->Bool
 | listed,[]=>(Region.ready md ops listed).isEmpty
 | listed,(i,true)::rest=>(Region.ready md ops listed).contains i && Region.free md ops listed i && seqB md ops (listed.setIfInBounds i true) rest
 | listed,(i,false)::rest=>Region.ready md ops listed == [i] && seqB md ops (listed.setIfInBounds i true) rest
theorem ao1 (hQ:∀ c t t' d w,Q (.panic c) ⟨t,d⟩ w->Q (.panic c) ⟨t',d⟩ w) {c} {a:Act} {d:Option Tmp} {v:Value} {w:World} (h:Q (.panic c) (a.put d v) w):Q (.panic c) a w:=by
 obtain⟨t,ds⟩:=a
 cases d with
 | none=>exact h
 | some k=>exact hQ c _ _ _ _ h
theorem a68 (hs:Region.noSelect ops=true) (hQ:∀ c t t' d w,Q (.panic c) ⟨t,d⟩ w->Q (.panic c) ⟨t',d⟩ w):∀ (l:List (Nat × Bool)) (listed:Array Bool) (a:Act) (w:World),seqB md ops listed l=true->S w->ae5 P ops Q S l a w->wpAnyH P md ops Q S l.length listed a w
 | [],listed,a,w,hb,_,h=>⟨by simpa[seqB]using hb,h⟩
 | (i,true)::rest,listed,a,w,hb,hS,h=>by
  simp only[seqB,Bool.and_eq_true]at hb;obtain⟨o,v,ho,hy,hr⟩:=h;exact wpAnyH_take ho hs hb.1.2 hb.1.1 (fun c a w h=>ao1 hQ h) hy hS (a68 hs hQ rest _ _ _ hb.2 hS hr)
 | (i,false)::rest,listed,a,w,hb,_,h=>by
  simp only[seqB,Bool.and_eq_true,beq_iff_eq]at hb;refine wpAnyH_all (rs:=[i]) hb.1 (by simp) fun j hj=>?_
  have hj':j=i:=by simpa using hj
  subst hj';exact wpOp_mono (fun a' w' h'=>⟨h'.1,a68 hs hQ rest _ _ _ hb.2 h'.1 h'.2⟩) h
theorem a06 {id:Nat} {a:Act} {w:World} (S:World->Prop) (l:List (Nat × Bool)) (hm:P.follows .mixedOrders=true) (hb:(Region.noSelect ops && l.length == ops.size && seqB .any ops (Array.replicate ops.size false) l)=true) (hQ:∀ c t t' d w,Q (.panic c) ⟨t,d⟩ w->Q (.panic c) ⟨t',d⟩ w) (hS:S w.drew) (h:ae5 P ops Q S l a w.drew):(Code.region id ops true).wp P Q a w:=by
 simp only[Bool.and_eq_true,beq_iff_eq]at hb;refine wp_region_held (S:=S) hm ?_;rw[<- hb.1.2];have:=a68 (Q:=Q) (S:=S) hb.1.1 hQ l _ a w.drew hb.2 hS h;rw[<- hb.1.2]at this;exact this
theorem a13 {a:Act} {w:World} (h:Q .normal a w):ae5 P ops Q S [] a w:=h
def nth:List Oper->Nat->Option Oper
 | [],_=>none
 | o::_,0=>some o
 | _::l,n+1=>nth l n
theorem br0:∀ (l:List Oper) (i:Nat),nth l i=l[i]?
 | [],_=>by simp[nth]
 | _::_,0=>by simp[nth]
 | _::l,n+1=>by simp[nth,br0 l n]
theorem aE2 {i:Nat} {o:Oper} (h:nth ops.toList i=some o):ops[i]?=some o:=by
 rw[br0]at h
 simpa using h
theorem a02 {i:Nat} {rest:List (Nat × Bool)} {o:Oper} {v:Value} {a:Act} {w:World} (ho:nth ops.toList i=some o) (hw:Region.wanted o (yielded ops a.tmps)=true) (hy:∀ w,S w->(execOp a.eval o).run P w=.ok (.value v) w) (h:ae5 P ops Q S rest (a.put o.dst v) w):ae5 P ops Q S ((i,true)::rest) a w:=⟨o,v,aE2 ho,.inl ⟨hw,hy⟩,h⟩
theorem a03 {i:Nat} {rest:List (Nat × Bool)} {o:Oper} {a:Act} {w:World} (ho:nth ops.toList i=some o) (hw:Region.wanted o (yielded ops a.tmps)=false) (h:ae5 P ops Q S rest (a.put o.dst undef) w):ae5 P ops Q S ((i,true)::rest) a w:=⟨o,undef,aE2 ho,.inr ⟨hw,rfl⟩,h⟩
theorem az0 {i:Nat} {rest:List (Nat × Bool)} {o:Oper} {a:Act} {w:World} (ho:nth ops.toList i=some o) (hw:Region.wanted o (yielded ops a.tmps)=false) (hS:S w) (h:ae5 P ops Q S rest (a.put o.dst undef) w):ae5 P ops Q S ((i,false)::rest) a w:=by
 refine wpOp_step (aE2 ho) (fun K' hK=>?_);rw[hw];exact hK _ _ ⟨hS,h⟩
theorem a04 {i:Nat} {rest:List (Nat × Bool)} {o:Oper} {a:Act} {w:World} (ho:nth ops.toList i=some o) (hw:Region.wanted o (yielded ops a.tmps)=true) (h:∀ K':Act->World->Prop,Shut (∀ a w,S w->ae5 P ops Q S rest a w->K' a w)->Oper.wp P o a w K' Q):ae5 P ops Q S ((i,false)::rest) a w:=by
 refine wpOp_step (aE2 ho) (fun K' hK=>?_);rw[hw];exact h K' fun a w hS hr=>hK a w ⟨hS,hr⟩
def Left (ops:Array Oper) (listed:Array Bool):Prop:=∃ k,k<ops.size/\listed.getD k true=false
def aL1 (P:Program) (md:Region.Mode) (ops:Array Oper) (Q:Exit->Act->World->Prop) (S:World->Prop):Nat->Array Bool->Act->World->Prop
 | 0,listed,a,w=>Region.ready md ops listed=[]/\Q .normal a w
 | n+1,listed,a,w=>(Region.ready md ops listed=[]->Q .normal a w)/\∀ i∈Region.ready md ops listed,wpOp P ops Q i (fun a' w'=>(Left ops (listed.setIfInBounds i true)->S w')/\aL1 P md ops Q S n (listed.setIfInBounds i true) a' w') a w
theorem aB7:∀ (n:Nat) (listed:Array Bool) (a:Act) (w:World),aL1 P md ops Q S n listed a w->wpAny P md ops Q n listed a w
 | 0,_,_,_,h=>h
 | n+1,_,_,_,h=>⟨h.1,fun i hi=>wpOp_mono (fun a' w' k=>aB7 n _ a' w' k.2) (h.2 i hi)⟩
def bp6 (md:Region.Mode) (ops:Array Oper) (listed:Array Bool) (i:Nat):Prop:=∃ k o e,ops[k]?=some o/\k≠i/\listed.getD k true=false/\e∈o.after/\Region.binds md e=true/\e.on=i
theorem ao9 {l:Array Bool} {i k:Nat} (h:i≠k):(l.setIfInBounds i true).getD k true=l.getD k true:=getD_set_ne true h
theorem aP3 {i:Nat} {oi:Oper} {v:Value} (hi:ops[i]?=some oi) (hs:Region.noSelect ops=true) (hQ:∀ c a w,Q (.panic c) (a.put oi.dst v) w->Q (.panic c) a w):∀ (n:Nat) (listed:Array Bool) (a:Act) (w:World),
  (∀ j oj,ops[j]?=some oj->j≠i->listed.getD j true=false->(∀ e∈oj.after,Region.binds md e=true->e.on≠i)->oi.apart ops oj=true)->i∈Region.ready md ops listed->bp6 md ops listed i->YieldsIf P ops S oi v a->S w ->
  aL1 P md ops Q S n (listed.setIfInBounds i true) (a.put oi.dst v) w->aL1 P md ops Q S (n+1) listed a w:=by
 intro n
 induction n with
 | zero =>
  intro listed a w _ hr _ hy hS H;refine⟨fun z=>absurd hr (by rw[z];simp),fun j hj=>?_⟩
  by_cases hji:j=i
  ·subst hji
   exact hy.wpOp hi hS ⟨fun _=>hS,H⟩
  ·exact absurd (ready_mono hj hji) (by rw[H.1];simp)
 | succ n ih =>
  intro listed a w hf hr hW hy hS H;refine⟨fun z=>absurd hr (by rw[z];simp),fun j hj=>?_⟩
  by_cases hji:j=i
  ·subst hji
   exact hy.wpOp hi hS ⟨fun _=>hS,H⟩
  have hun:=(mem_ready.1 hr).1;obtain⟨jun,oj,hoj,hall⟩:=mem_ready.1 hj
  -- whoever waits for i is not ready
  have hno:∀ e∈oj.after,Region.binds md e=true->e.on≠i:=fun e he hb q=>by
   have z:=hall e he hb;rw[q]at z
   by_cases hlt:i<listed.size
   ·have z1:listed.getD i true=listed.getD i false:=by simp[hlt]
    rw[z1,z]at hun
    cases hun
   ·simp[Array.getElem?_eq_none (Nat.not_lt.1 hlt)]at z
  have h2:=wpOp_putIf hoj (hf j oj hoj hji jun hno) (fun cs b=>Region.noSelect_spec hs i oi cs b hi) (fun cs b=>Region.noSelect_spec hs j oj cs b hoj) hQ hy (H.2 j (ready_mono hj hji));obtain⟨L,oL,e,hL,hLi,hLu,he,hb,hon⟩:=hW;have hLj:L≠j:=fun q=>by
   subst q;rw[hL]at hoj
   cases hoj
   exact hno e he hb hon
  have hleft:Left ops ((listed.setIfInBounds i true).setIfInBounds j true):=⟨L,(Array.getElem?_eq_some_iff.1 hL).1,by rw[ao9 (Ne.symm hLj),ao9 (Ne.symm hLi)];exact hLu⟩;refine wpOp_mono (fun a' w' k=>?_) h2;have hS':=k.2.1 hleft;refine⟨fun _=>hS',ih (listed.setIfInBounds j true) a' w' ?_ (ready_mono hr (Ne.symm hji)) ⟨L,oL,e,hL,hLi,by rw[ao9 (Ne.symm hLj)];exact hLu,he,hb,hon⟩ k.1 hS' ?_⟩
  ·intro x ox hx hxi hxu hxn
   refine hf x ox hx hxi ?_ hxn
   by_cases q:j=x
   ·subst q;exact jun
   ·rw[ao9 q]at hxu;exact hxu
  ·rw[Array.setIfInBounds_comm _ _ hji]
   exact k.2.2
def aP1 (md:Region.Mode) (ops:Array Oper) (listed:Array Bool) (i:Nat):Bool:=(List.range ops.size).any fun k=>k != i && !listed.getD k true && match ops[k]? with
 | some o=>o.after.any fun e=>Region.binds md e && e.on == i
 | none=>false
theorem bc4 {listed:Array Bool} {i:Nat} (h:aP1 md ops listed i=true):bp6 md ops listed i:=by
 unfold aP1 at h;rw[List.any_eq_true]at h;obtain⟨k,_,hk⟩:=h;simp only[Bool.and_eq_true,bne_iff_ne,ne_eq,Bool.not_eq_true']at hk;obtain⟨⟨h1,h2⟩,h3⟩:=hk
 cases ho:ops[k]? with
 | none=>rw[ho]at h3;cases h3
 | some o =>
  rw[ho]at h3;simp only[Array.any_eq_true']at h3;obtain⟨e,he,hb⟩:=h3;simp only[Bool.and_eq_true,beq_iff_eq]at hb;exact⟨k,o,e,ho,h1,h2,he,hb.1,hb.2⟩
def ap8 (P:Program) (ops:Array Oper) (Q:Exit->Act->World->Prop) (S:World->Prop):List (Nat × Bool)->Act->World->Prop
 | [],a,w=>Q .normal a w
 | (i,true)::rest,a,w=>∃ o v,ops[i]?=some o/\YieldsIf P ops S o v a/\ap8 P ops Q S rest (a.put o.dst v) w
 | (i,false)::rest,a,w=>wpOp P ops Q i (fun a' w'=>(rest≠[]->S w')/\ap8 P ops Q S rest a' w') a w
def aK3 (md:Region.Mode) (ops:Array Oper):Array Bool->List (Nat × Bool)->Bool
 | listed,[]=>(Region.ready md ops listed).isEmpty && (List.range ops.size).all (listed.getD · true)
 | listed,(i,true)::rest=>(Region.ready md ops listed).contains i && Region.free md ops listed i && aP1 md ops listed i && aK3 md ops (listed.setIfInBounds i true) rest
 | listed,(i,false)::rest=>Region.ready md ops listed == [i] && aK3 md ops (listed.setIfInBounds i true) rest
theorem ah3 (hs:Region.noSelect ops=true) (hQ:∀ c t t' d w,Q (.panic c) ⟨t,d⟩ w->Q (.panic c) ⟨t',d⟩ w):∀ (l:List (Nat × Bool)) (listed:Array Bool) (a:Act) (w:World),aK3 md ops listed l=true->S w∨l=[]->ap8 P ops Q S l a w->aL1 P md ops Q S l.length listed a w
 | [],listed,a,w,hb,_,h=>by
  simp only[aK3,Bool.and_eq_true]at hb;exact⟨by simpa using hb.1,h⟩
 | (i,true)::rest,listed,a,w,hb,hS,h=>by
  simp only[aK3,Bool.and_eq_true]at hb;obtain⟨o,v,ho,hy,hr⟩:=h;have hS':S w:=hS.resolve_right (by simp);exact aP3 ho hs (fun c a w h=>ao1 hQ h) _ _ _ _ (Region.free_spec ho hb.1.1.2) (by simpa using hb.1.1.1) (bc4 hb.1.2) hy hS' (ah3 hs hQ rest _ _ _ hb.2 (.inl hS') hr)
 | (i,false)::rest,listed,a,w,hb,_,h=>by
  simp only[aK3,Bool.and_eq_true,beq_iff_eq]at hb;refine⟨fun z=>absurd (hb.1.symm.trans z) (by simp),fun j hj=>?_⟩;rw[hb.1]at hj;have hj':j=i:=by simpa using hj
  subst hj';refine wpOp_mono (fun a' w' k=>⟨fun hl=>?_,ah3 hs hQ rest _ _ _ hb.2 ?_ k.2⟩) h
  ·cases rest with
   | nil =>
    obtain⟨x,hx,hu⟩:=hl;have:=hb.2;simp only[aK3,Bool.and_eq_true,List.all_eq_true,List.mem_range]at this;rw[this.2 x hx]at hu
    cases hu
   | cons y l=>exact k.1 (by simp)
  ·cases rest with
   | nil=>exact .inr rfl
   | cons y l=>exact .inl (k.1 (by simp))
theorem a47 {id:Nat} {a:Act} {w:World} (S:World->Prop) (l:List (Nat × Bool)) (hm:P.follows .mixedOrders=true) (hb:(Region.noSelect ops && l.length == ops.size && aK3 .any ops (Array.replicate ops.size false) l)=true) (hQ:∀ c t t' d w,Q (.panic c) ⟨t,d⟩ w->Q (.panic c) ⟨t',d⟩ w) (hS:S w.drew) (h:ap8 P ops Q S l a w.drew):(Code.region id ops true).wp P Q a w:=by
 simp only[Bool.and_eq_true,beq_iff_eq]at hb;refine wp_region_any hm (aB7 (S:=S) _ _ _ _ ?_);rw[<- hb.1.2];have:=ah3 (Q:=Q) (S:=S) hb.1.1 hQ l _ a w.drew hb.2 (.inl hS) h;rw[<- hb.1.2]at this;exact this
theorem a78 {a:Act} {w:World} (h:Q .normal a w):ap8 P ops Q S [] a w:=h
theorem a33 {i:Nat} {rest:List (Nat × Bool)} {o:Oper} {v:Value} {a:Act} {w:World} (ho:nth ops.toList i=some o) (hw:Region.wanted o (yielded ops a.tmps)=true) (hy:∀ w,S w->(execOp a.eval o).run P w=.ok (.value v) w) (h:ap8 P ops Q S rest (a.put o.dst v) w):ap8 P ops Q S ((i,true)::rest) a w:=⟨o,v,aE2 ho,.inl ⟨hw,hy⟩,h⟩
theorem a29 {i:Nat} {rest:List (Nat × Bool)} {o:Oper} {a:Act} {w:World} (ho:nth ops.toList i=some o) (hw:Region.wanted o (yielded ops a.tmps)=true) (h:∀ K':Act->World->Prop,Shut (∀ a w,(rest≠[]->S w)->ap8 P ops Q S rest a w->K' a w)->Oper.wp P o a w K' Q):ap8 P ops Q S ((i,false)::rest) a w:=by
 refine wpOp_step (aE2 ho) (fun K' hK=>?_);rw[hw];exact h K' fun a w hS hr=>hK a w ⟨hS,hr⟩
end
end Go.Proofs.YtipakfjpfjehmaaGreatDoor
namespace Go.Proofs.YtipakfjpfjehmaaGreatDoor.Md.Cv
open Go.ChangeShapes Go.WideShapes Go.ChangeAt Go.RowKit
theorem follows13:Tryz.prog.follows .mixedOrders=true:=by kernel_rfl
def plnV (a b c d e f:Int):Value:=.agg #[.int .i64 a,.int .i64 b,.int .i64 c,.int .i64 d,.int .i64 e,.int .i64 f]
def passV (t:Int):Int:=IntKind.u64.wrap (t+1)
theorem cell_kept {w w':World} {b:Nat} (e:w'.heap[b]?=w.heap[b]?) (o:Nat):w'.cell? ⟨b,o,none⟩=w.cell? ⟨b,o,none⟩:=by simp[World.cell?,e]
theorem ay4 {B:Nat} {a w:World} (h:Below B a w):Below B a w.drew:=⟨h.os,h.tape,h.output,h.size,h.block⟩
theorem ae0 {a w:World} (h:Bl a w) (x:Obj):Bl a (w.alloc x):=h.alloc h.size x
theorem aa3 {w:World} {x:Obj} {k:Nat} (hk:w.heap.size=k):(w.alloc x).heap[k]?=some x:=by subst hk;exact zN _ _
theorem ne_ty {w:World} {a b:Nat} {c d:Array Value} {S T:TypeId} {x y:Nat × Nat} (h:w.heap[a]?=some (.cells c S x)) (k:w.heap[b]?=some (.cells d T y)) (hne:(S == T)=false):a≠b:=by
 rintro rfl;rw[h]at k
 cases k
 simp at hne
structure Ch3 (b g l:Nat) (w w':World):Prop where
 os:w'.os=w.os
 tape:w'.tape=w.tape
 output:w'.output=w.output
 size:w.heap.size<=w'.heap.size
 block:∀ k,k<w.heap.size->k≠b->k≠g->k≠l->w'.heap[k]?=w.heap[k]?
section
variable {b g l:Nat} {a w c:World}
theorem Ch3.refl (b g l:Nat) (w:World):Ch3 b g l w w:=⟨rfl,rfl,rfl,zE _,fun _ _ _ _ _=>rfl⟩
theorem Ch3.trans (h:Ch3 b g l a w) (k:Ch3 b g l w c):Ch3 b g l a c :=
 ⟨k.os.trans h.os,k.tape.trans h.tape,k.output.trans h.output,zQ h.size k.size,fun i hi h1 h2 h3=>(k.block i (zL hi h.size) h1 h2 h3).trans (h.block i hi h1 h2 h3)⟩
theorem Ch3.chg (h:Ch3 b g l a w) (k:Chg b g w c):Ch3 b g l a c:=h.trans ⟨k.os,k.tape,k.output,k.size,fun i hi h1 h2 _=>k.block i hi h1 h2⟩
theorem Ch3.on (h:Ch3 b g l a w) (k:Bl w c):Ch3 b g l a c:=h.trans ⟨k.os,k.tape,k.output,k.size,fun i hi _ _ _=>k.block i hi⟩
theorem Ch3.set (h:Ch3 b g l a w) (j:Nat) (u:Value):Ch3 b g l a (w.setCell ⟨l,j,none⟩ u):=h.trans ⟨rfl,rfl,rfl,by simp,fun k _ _ _ h3=>zO _ _ _ _ h3⟩
end
theorem a70 {a w w':World} {b g:Nat} (h:Bl a w) (k:Chg b g w w'):Chg b g a w':=(Chg.trans ⟨h.os,h.tape,h.output,h.size,fun i hi _ _=>h.block i hi⟩ k)
theorem a57 {a w w':World} (h:Bl a w) (k:Bl w w'):Bl a w':=h.trans (k.mono h.size)
def may8 (t:Int):Bool:=decide (0<=t/\t<8)
def plc (p t:Int):Int:=if 0<=p/\p<=4096 then p+t else -1
theorem bh3 {t:Int} (h:may8 t=true):0<=t/\t<8:=zP h
theorem aa7 (p t:Int) (w:World):Calls Tryz.prog 265 #[.agg #[.int .i64 p,.int .i64 t]] w fun e w'=>e=.returned (.bool (may8 t))/\Bl w w':=by
 unfold may8
 by_cases h1:0<=t
 ·by_cases h2:t<8
  ·go_enter Tryz.func265,Tryz.ntmps265
   go_wp2
   go_ret;exact⟨by first | (simp;done) | (simp;omega),(zF _ _).alloc (zE _) _⟩
  ·go_enter Tryz.func265,Tryz.ntmps265
   go_wp2
   go_ret;exact⟨by first | (simp;done) | (simp;omega),(zF _ _).alloc (zE _) _⟩
 ·go_enter Tryz.func265,Tryz.ntmps265
  go_wp2
  go_ret;exact⟨by first | (simp;done) | (simp;omega),(zF _ _).alloc (zE _) _⟩
theorem a69 (p t:Int) (ht:may8 t=true) (w:World):Calls Tryz.prog 186 #[.agg #[.int .i64 p,.int .i64 t]] w fun e w'=>e=.returned (.int .i64 (plc p t))/\Bl w w':=by
 obtain⟨ht0,ht1⟩:=bh3 ht;clear ht
 by_cases h1:0<=p
 ·by_cases h2:p<=4096
  ·have e:plc p t=p+t:=by simp[plc,h1,h2]
   have e1:wrap64 (p+t)=p+t:=Go.IntWalk.wrap64_in _ ⟨by omega,by omega⟩;have h1':¬ p<0:=by omega
   have h2':¬ 4096<p:=by omega
   rw[e];clear e ht0 ht1;go_enter Tryz.func186,Tryz.ntmps186
   go_wp2
   go_ret;exact⟨rfl,(zF _ _).alloc (zE _) _⟩
  ·have e:plc p t=-1:=by simp[plc,h2]
   rw[e];clear e ht0 ht1;have h1':¬ p<0:=by omega
   have h2':4096<p:=by omega
   go_enter Tryz.func186,Tryz.ntmps186
   go_wp2
   go_ret;exact⟨rfl,(zF _ _).alloc (zE _) _⟩
 ·have e:plc p t=-1:=by simp[plc,h1]
  rw[e];clear e ht0 ht1;have h1':p<0:=by omega
  go_enter Tryz.func186,Tryz.ntmps186
  go_wp2
  go_ret;exact⟨rfl,(zF _ _).alloc (zE _) _⟩
theorem aY6 (k:Int) (w:World):Calls Tryz.prog 270 #[.int .u64 k] w fun e w'=>e=.returned (.int .u64 (passV k))/\w'=w:=by
 unfold passV;go_enter Tryz.func270,Tryz.ntmps270
 go_wp2
 go_ret;exact⟨rfl,rfl⟩
structure Cs where
 A:Int
 B:Int
 T:Int
 N:Int
 K:Int
 S:Int
def CmAt (w:World) (x:Nat) (c:Cs):Prop:=w.heap[x]?=some (.cells #[.int .i64 c.A,.int .i64 c.B,.int .i64 c.T,.int .i64 c.N,.int .u64 c.K,.int .u64 c.S] 190 (0,0))
section
variable {w w':World} {x:Nat} {c:Cs}
theorem CmAt.lt (h:CmAt w x c):x<w.heap.size:=lt_of_block h
theorem CmAt.keep (h:CmAt w x c) (e:w'.heap[x]?=w.heap[x]?):CmAt w' x c:=e.trans h
theorem CmAt.on (h:CmAt w x c) (k:Bl w w'):CmAt w' x c:=h.keep (k.block x h.lt)
theorem CmAt.cells (h:CmAt w x c):w.cell? ⟨x,0,none⟩=some (.int .i64 c.A)/\w.cell? ⟨x,1,none⟩=some (.int .i64 c.B)/\w.cell? ⟨x,2,none⟩=some (.int .i64 c.T)/\w.cell? ⟨x,3,none⟩=some (.int .i64 c.N)/\w.cell? ⟨x,4,none⟩=some (.int .u64 c.K)/\w.cell? ⟨x,5,none⟩=some (.int .u64 c.S)/\x<w.heap.size/\w.frozen? ⟨x,3,none⟩=false/\w.frozen? ⟨x,4,none⟩=false/\w.frozen? ⟨x,5,none⟩=false :=
 ⟨by rw[zR w x 0 _ _ _ h];rfl,by rw[zR w x 1 _ _ _ h];rfl,by rw[zR w x 2 _ _ _ h];rfl,by rw[zR w x 3 _ _ _ h];rfl,by rw[zR w x 4 _ _ _ h];rfl,by rw[zR w x 5 _ _ _ h];rfl,lt_of_block h,zZ w x 3 _ _ h,zZ w x 4 _ _ h,zZ w x 5 _ _ h⟩
theorem CmAt.setN (h:CmAt w x c) (v:Int):CmAt (w.setCell ⟨x,3,none⟩ (.int .i64 v)) x { c with N:=v }:=(zS w x 3 _ _ _ h).trans rfl
theorem CmAt.setK (h:CmAt w x c) (v:Int):CmAt (w.setCell ⟨x,4,none⟩ (.int .u64 v)) x { c with K:=v }:=(zS w x 4 _ _ _ h).trans rfl
theorem CmAt.setS (h:CmAt w x c) (v:Int):CmAt (w.setCell ⟨x,5,none⟩ (.int .u64 v)) x { c with S:=v }:=(zS w x 5 _ _ _ h).trans rfl
theorem stampC_any (h:CmAt w x c):Calls Tryz.prog 259 #[.pointer (some ⟨x,0,none⟩)] w fun e w'=>e=.returned (.int .u64 c.S)/\w'=w:=by
 obtain⟨h0,h1,h2,h3,h4,h5,h6,_⟩:=h.cells;clear h;go_enter Tryz.func259,Tryz.ntmps259
 go_wp2
 go_ret;exact⟨rfl,rfl⟩
theorem an8 (h:CmAt w x c):Calls Tryz.prog 264 #[.pointer (some ⟨x,0,none⟩)] w fun e w'=>e=.returned (.bool (decide (c.N=3)))/\w'=w:=by
 obtain⟨h0,h1,h2,h3,h4,h5,h6,_⟩:=h.cells;clear h;go_enter Tryz.func264,Tryz.ntmps264
 go_wp2
 go_ret;exact⟨rfl,rfl⟩
theorem come_any (a0 a1 a2 a3 a4 a5 t:Int) (w:World):Calls Tryz.prog 93 #[plnV a0 a1 a2 a3 a4 a5,.int .i64 t] w fun e w'=>∃ x,e=.returned (.pointer (some ⟨x,0,none⟩))/\w.heap.size<=x/\CmAt w' x ⟨a2,a3,t,0,0,0⟩/\Bl w w':=by
 unfold plnV;go_enter Tryz.func93,Tryz.ntmps93
 go_wp2
 go_ret;exact⟨_,rfl,by simp,aa3 (by simp),ae0 (ae0 (zF _ _) _) _⟩
end
theorem ok_facts {ws:List Int} {o:Bool} {i:Int} (h:errA ws o i=0):(∀ v,stored ws o i v=ws.set i.toNat v)/\a53 ws o i=false/\(∀ n,a52 ws o i n=up n)/\toldW ws o i=wordAt ws i/\hasB ws i=true/\o=true:=by
 have hk:hasB ws i=true/\o=true:=by
  unfold errA at h
  cases q:hasB ws i <;> cases o <;> simp[q]at h ⊢
 obtain⟨h1,rfl⟩:=hk;exact⟨fun v=>by simp[stored,h1],by simp[a53,h1],fun n=>by simp[a52,h1],by simp[toldW,h1],h1,rfl⟩
theorem au0 {ws:List Int} {o:Bool} {i:Int} (h:¬ errA ws o i=0):(∀ v,stored ws o i v=ws)/\a53 ws o i=o/\(∀ n,a52 ws o i n=n)/\toldW ws o i=0:=by
 have hk:(hasB ws i && o)=false:=by
  unfold errA at h
  cases q:hasB ws i <;> cases o <;> simp[q]at h ⊢
 refine⟨fun v=>by simp[stored,hk],?_,fun n=>by simp[a52,hk],by simp[toldW,hk]⟩;unfold a53
 cases q:hasB ws i <;> cases o <;> simp_all
def cI (c:Cs):Int:=if c.N=1 then plc c.B c.T else c.A
def aW (c:Cs) (ws:List Int) (o:Bool):List Int:=if c.N=1 then stored ws o (plc c.B c.T) (passV c.K) else ws
def aC (c:Cs) (ws:List Int) (o:Bool):Cs:=⟨c.A,c.B,c.T,c.N,if c.N=0 then toldW ws o c.A else c.K,if c.N=2 then toldW ws o c.A else c.S⟩
section
variable {w:World} {b g x:Nat} {ws:List Int} {o:Bool} {n:Int} {c:Cs}
theorem CmAt.ne (h:CmAt w x c) (m:MemAt 106 w b g ws o n):x≠b/\x≠g:=⟨ne_ty h m.box rfl,ne_ty h m.row rfl⟩
theorem bc9 (h:MemAt 106 w b g ws o n) {A B T K S:Int} (hx:CmAt w x ⟨A,B,T,0,K,S⟩):Calls Tryz.prog 266 #[.pointer (some ⟨x,0,none⟩),.pointer (some ⟨b,0,none⟩)] w fun e w'=>e=.returned (.int .i64 (errA ws o A))/\MemAt 106 w' b g ws (a53 ws o A) (a52 ws o A n)/\CmAt w' x ⟨A,B,T,0,toldW ws o A,S⟩/\Ch3 b g x w w':=by
 have HN:=zH (hx.ne h);have HM:=zH h;have HX:=zH hx;obtain⟨h0,h1,h2,h3,h4,h5,h6,h7,h8,h9⟩:=hx.cells;clear h hx;dsimp only at h0 h1 h2 h3 h4 h5;go_enter Tryz.func266,Tryz.ntmps266
 go_wp2_with (go_at_call 124;refine(aa5 HM.out _).mono ?_;rintro e w1 ⟨rfl,hm,hc⟩;have HM1:=zH hm;have HC1:=zH hc;have HX1:=zH (HX.out.keep (hc.block x h6 HN.out.1 HN.out.2));obtain⟨k0,k1,k2,k3,k4,k5,k6,k7,k8,k9⟩:=HX1.out.cells;clear hm hc)
 go_ret;exact⟨rfl,HM1.out.other HN.out.1.symm HN.out.2.symm _ _,HX1.out.setK _,((Ch3.refl _ _ _ _).chg HC1.out).set _ _⟩
theorem bd1 (h:MemAt 106 w b g ws o n) {A B T K S:Int} (hx:CmAt w x ⟨A,B,T,2,K,S⟩):Calls Tryz.prog 266 #[.pointer (some ⟨x,0,none⟩),.pointer (some ⟨b,0,none⟩)] w fun e w'=>e=.returned (.int .i64 (errA ws o A))/\MemAt 106 w' b g ws (a53 ws o A) (a52 ws o A n)/\CmAt w' x ⟨A,B,T,2,K,toldW ws o A⟩/\Ch3 b g x w w':=by
 have HN:=zH (hx.ne h);have HM:=zH h;have HX:=zH hx;obtain⟨h0,h1,h2,h3,h4,h5,h6,h7,h8,h9⟩:=hx.cells;clear h hx;dsimp only at h0 h1 h2 h3 h4 h5;go_enter Tryz.func266,Tryz.ntmps266
 go_wp2_with (go_at_call 124;refine(aa5 HM.out _).mono ?_;rintro e w1 ⟨rfl,hm,hc⟩;have HM1:=zH hm;have HC1:=zH hc;have HX1:=zH (HX.out.keep (hc.block x h6 HN.out.1 HN.out.2));obtain⟨k0,k1,k2,k3,k4,k5,k6,k7,k8,k9⟩:=HX1.out.cells;clear hm hc)
 go_ret;exact⟨rfl,HM1.out.other HN.out.1.symm HN.out.2.symm _ _,HX1.out.setS _,((Ch3.refl _ _ _ _).chg HC1.out).set _ _⟩
theorem bd0 (h:MemAt 106 w b g ws o n) {A B T K S:Int} (hx:CmAt w x ⟨A,B,T,1,K,S⟩) (hmay:may8 T=true):Calls Tryz.prog 266 #[.pointer (some ⟨x,0,none⟩),.pointer (some ⟨b,0,none⟩)] w fun e w'=>e=.returned (.int .i64 (errA ws o (plc B T)))/\MemAt 106 w' b g (stored ws o (plc B T) (passV K)) (a53 ws o (plc B T)) (a52 ws o (plc B T) n)/\CmAt w' x ⟨A,B,T,1,K,S⟩/\Ch3 b g x w w':=by
 have HN:=zH (hx.ne h);have HM:=zH h;have HX:=zH hx;have HY:=zH hmay;obtain⟨h0,h1,h2,h3,h4,h5,h6,h7,h8,h9⟩:=hx.cells;clear h hx hmay;dsimp only at h0 h1 h2 h3 h4 h5;go_enter Tryz.func266,Tryz.ntmps266
 go_wp2
 refine a06 (fun w'=>w'.cell? ⟨x,1,none⟩=some (.int .i64 B)/\w'.cell? ⟨x,2,none⟩=some (.int .i64 T)/\w'.cell? ⟨x,4,none⟩=some (.int .u64 K)) ((0,true)::(1,true)::(2,true)::(3,true)::(4,true)::(6,true)::(7,true)::(8,true)::(9,true)::(5,false)::(10,false)::(11,false)::(12,true)::[]) follows13 (by kernel_rfl) (fun _ _ _ _ _ h=>h) ⟨h1,h2,h4⟩ ?_
 repeat (refine a02 (v:=?_) rfl (by rfl) (fun wq hSq=>?_) ?_;rotate_left;(focus ((try dsimp only at hSq);go_simp;try with_reducible rfl));simp only[Act.put,zA,zB,zC])
 refine a04 rfl (by rfl) (fun KK hK=>?_)
 go_simp
 refine(a69 B T HY.out _).mono ?_;rintro e w1 ⟨rfl,hb⟩;have HB1:Hid (Bl w w1):=a57 (ay4 (zF _ _)) hb;have HX1:=zH (HX.out.on HB1.out);obtain⟨k0,k1,k2,k3,k4,k5,k6,_⟩:=HX1.out.cells;refine hK.out _ _ ⟨k1,k2,k4⟩ ?_;clear hK KK hb
 try simp only[Act.put,zA,zB,zC]
 refine a04 rfl (by rfl) (fun KK hK=>?_)
 go_simp
 refine(aY6 K _).mono ?_;rintro e w2 ⟨rfl,hw⟩;subst w2;refine hK.out _ _ ⟨k1,k2,k4⟩ ?_;clear hK KK
 try simp only[Act.put,zA,zB,zC]
 refine a04 rfl (by rfl) (fun KK hK=>?_)
 go_simp
 refine(af5 (HM.out.on HB1.out) _ _).mono ?_;rintro e w2 ⟨rfl,hm,hc⟩;have HM2:=zH hm;have HC2:=zH hc;have HX2:=zH (HX1.out.keep (hc.block x k6 HN.out.1 HN.out.2));clear hm hc;obtain⟨j0,j1,j2,j3,j4,j5,j6,_⟩:=HX2.out.cells;refine hK.out _ _ ⟨j1,j2,j4⟩ ?_;clear hK KK
 try simp only[Act.put,zA,zB,zC]
 repeat (refine a02 (v:=?_) rfl (by rfl) (fun wq hSq=>?_) ?_;rotate_left;(focus ((try dsimp only at hSq);go_simp;try with_reducible rfl));simp only[Act.put,zA,zB,zC])
 refine a13 ?_
 go_wp2
 go_ret;exact⟨rfl,HM2.out,HX2.out,((Ch3.refl _ _ _ _).on HB1.out).chg HC2.out⟩
theorem aU0 (h:MemAt 106 w b g ws o n) (hx:CmAt w x c) (hN:c.N=0∨c.N=1∨c.N=2) (hmay:may8 c.T=true):Calls Tryz.prog 266 #[.pointer (some ⟨x,0,none⟩),.pointer (some ⟨b,0,none⟩)] w fun e w'=>e=.returned (.int .i64 (errA ws o (cI c)))/\MemAt 106 w' b g (aW c ws o) (a53 ws o (cI c)) (a52 ws o (cI c) n)/\CmAt w' x (aC c ws o)/\Ch3 b g x w w':=by
 obtain⟨A,B,T,N,K,S⟩:=c;dsimp only at hN hmay
 rcases hN with rfl | rfl | rfl
 ·exact bc9 h hx
 ·exact bd0 h hx hmay
 ·exact bd1 h hx
end
end Go.Proofs.YtipakfjpfjehmaaGreatDoor.Md.Cv
