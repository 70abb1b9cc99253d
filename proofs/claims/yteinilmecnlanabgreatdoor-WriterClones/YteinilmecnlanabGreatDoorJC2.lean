import Derived.Test.YteinilmecnlanabGreatDoorJC1
import Derived.Deep.RegionHeld
import Derived.Test.YteinilmecnlanabGreatDoorTie
import Derived.ProofKit
import Derived.LaidMore
import Derived.OpenShut
import Derived.Handed
import Derived.SizedLaws
import Derived.ChangeSame
import Derived.ChangeVars
import Derived.JoinedOf
import Derived.RowKitTokens
import Derived.LaidLaws
import Derived.LaidHandle
import Derived.MakeChecks
import Derived.Lib.LaidTab
import Derived.Stop.LaidErr
import Derived.Stop.Joined
import Derived.SevenTiedAt
import Derived.ChangeMaps5
import Derived.HandedShaped
import Derived.Deep.Slices
import Derived.Carry
import Derived.Recover
import Derived.Defers
import Derived.Laws.StructEq
import Derived.Test.YteinilmecnlanabGreatDoorWalkB
import Derived.Test.YteinilmecnlanabGreatDoorM2
import Derived.Deep.QuietTactic
import Derived.BigQuiet
import Derived.Laws.CopyRow
import Derived.Deep.RegionWith
import Derived.Deep.WholeRow
import Derived.Test.YteinilmecnlanabGreatDoorSq
import Derived.Test.YteinilmecnlanabGreatDoorS1
import Derived.Deep.AppendLies
import Derived.Deep.LoopGhost
set_option maxRecDepth 100000
set_option maxHeartbeats 8000000
namespace Go.Proofs.YteinilmecnlanabGreatDoor
open Go.ChangeShapes Go.WideShapes Go.ChangeAt Go.RowKit Num
attribute [local go_sem] run_store_float
theorem insInfo:(Tryz.prog.info? 66).map (fun i=>(i.zero,i.size,i.bytes))=some (some (.agg #[.int .i64 0,.int .i64 0,.float .f64 0]),3,24):=by kernel_rfl
theorem cloneF_nil (w:World):Calls Tryz.prog 32 #[.slice none 0 0] w fun e w'=>e=.returned (.slice none 0 0)∧w'=w:=by
 have hq:=fun w=>Lib.run_eql_slice_nil (P:=Tryz.prog) w 27 64 none 0 0 0 0 Tryz.underlying27
 go_enter Tryz.func32,Tryz.ntmps32
 go_wp2
 go_ret
 exact ⟨rfl,rfl⟩
theorem cloneF_some {w:World} {g o c n:Nat} {xs:List Value} (hn:xs.length=n*1) (hx:∀ j u,xs[j]?=some u→w.cell? ((⟨g,o,none⟩:Addr).add j)=some u) (h1:∀ u∈xs,u.oneCell'=true) (hz:n≤1024):Calls Tryz.prog 32 #[.slice (some ⟨g,o,none⟩) n c] w fun e w'=>∃ p' c',e=.returned (.slice p' n c')∧w'.ownsRow w.heap.size 64 1 (.slice p' n c') n xs∧Below w.heap.size w w':=by
 have hq:=fun w c=>Lib.run_eql_slice_nil (P:=Tryz.prog) w 27 64 (some ⟨g,o,none⟩) n c 0 0 Tryz.underlying27
 have HX:Hid (∀ j u,xs[j]?=some u→(w.alloc (.cells #[] 64)).cell? ((⟨g,o,none⟩:Addr).add j)=some u):=fun j u hj=>((below_alloc w _).cell (World.block_lt_of_cell? w _ (hx j u hj))).trans (hx j u hj)
 have H1:=Lib.hid (And.intro h1 (And.intro hn hz))
 have HO:Hid ((w.alloc (.cells #[] 64)).ownsRow w.heap.size 64 1 (.slice (some ⟨w.heap.size,0,none⟩) 0 0) 0 []):=⟨rfl,.inr ⟨w.heap.size,0,#[],rfl,Nat.le_refl _,heap_alloc_new _ _,Nat.le_refl _,Nat.zero_le _,by simp,by simp⟩⟩
 obtain ⟨i0,hi,hz0,hz1,hz2⟩:=info_parts fInfo
 have HZI:=Lib.hid (And.intro hi (And.intro hz0 (And.intro hz1 hz2)))
 clear hi hz0 hz1 hz2 hx h1 hz hn
 go_enter Tryz.func32,Tryz.ntmps32
 go_wp2_with (at_builtin;refine wpList_append_own_at _ rfl _ _ 27 rfl w.heap.size 64 i0 (.float .f64 0) 1 8 Tryz.underlying27 HZI.out.1 HZI.out.2.1 HZI.out.2.2.1 HZI.out.2.2.2 rfl (by decide) _ 0 [] rfl HO.out ⟨g,o,none⟩ n _ xs rfl H1.out.2.1 HX.out H1.out.1 (by have:=H1.out.2.2;unfold maxLen;omega) (by have:=H1.out.2.2;omega) (by simp) ?_;intro v w3 hown hgrow hnil hloc;have HS:=Lib.hid (And.intro hown hgrow);clear hown hgrow hnil hloc)
 have ho3:=HS.out.1
 rw [List.nil_append,Nat.zero_add] at ho3
 obtain ⟨p',c',hv,ha⟩:=owns_slice2 ho3
 subst hv
 have hb3:Below w.heap.size w w3:=(below_alloc w _).grown HS.out.2 (by simp) (fun j hj=>by
  have:=hj
  simp [Act.eval,Value.ownBlock] at this
  omega)
 have HF:=Lib.hid (And.intro ho3 hb3)
 clear ho3 ha hb3 HS H1
 go_wp2
 go_ret
 exact ⟨_,_,rfl,HF.out.1,HF.out.2⟩
theorem cloneT_nil (w:World):Calls Tryz.prog 56 #[.slice none 0 0] w fun e w'=>e=.returned (.slice none 0 0)∧w'=w:=by
 have hq:=fun w=>Lib.run_eql_slice_nil (P:=Tryz.prog) w 55 99 none 0 0 0 0 Tryz.underlying55
 go_enter Tryz.func56,Tryz.ntmps56
 go_wp2
 go_ret
 exact ⟨rfl,rfl⟩
theorem cloneT_some {w:World} {g o c n:Nat} {xs:List Value} (hn:xs.length=n*2) (hx:∀ j u,xs[j]?=some u→w.cell? ((⟨g,o,none⟩:Addr).add j)=some u) (h1:∀ u∈xs,u.oneCell'=true) (hz:n≤1024):Calls Tryz.prog 56 #[.slice (some ⟨g,o,none⟩) n c] w fun e w'=>∃ p' c',e=.returned (.slice p' n c')∧w'.ownsRow w.heap.size 99 2 (.slice p' n c') n xs∧Below w.heap.size w w':=by
 have hq:=fun w c=>Lib.run_eql_slice_nil (P:=Tryz.prog) w 55 99 (some ⟨g,o,none⟩) n c 0 0 Tryz.underlying55
 have HX:Hid (∀ j u,xs[j]?=some u→(w.alloc (.cells #[] 99)).cell? ((⟨g,o,none⟩:Addr).add j)=some u):=fun j u hj=>((below_alloc w _).cell (World.block_lt_of_cell? w _ (hx j u hj))).trans (hx j u hj)
 have H1:=Lib.hid (And.intro h1 (And.intro hn hz))
 have HO:Hid ((w.alloc (.cells #[] 99)).ownsRow w.heap.size 99 2 (.slice (some ⟨w.heap.size,0,none⟩) 0 0) 0 []):=⟨rfl,.inr ⟨w.heap.size,0,#[],rfl,Nat.le_refl _,heap_alloc_new _ _,Nat.le_refl _,Nat.zero_le _,by simp,by simp⟩⟩
 obtain ⟨i0,hi,hz0,hz1,hz2⟩:=info_parts tInfo
 have HZI:=Lib.hid (And.intro hi (And.intro hz0 (And.intro hz1 hz2)))
 clear hi hz0 hz1 hz2 hx h1 hz hn
 go_enter Tryz.func56,Tryz.ntmps56
 go_wp2_with (at_builtin;refine wpList_append_own_at _ rfl _ _ 55 rfl w.heap.size 99 i0 _ 2 16 Tryz.underlying55 HZI.out.1 HZI.out.2.1 HZI.out.2.2.1 HZI.out.2.2.2 rfl (by decide) _ 0 [] rfl HO.out ⟨g,o,none⟩ n _ xs rfl H1.out.2.1 HX.out H1.out.1 (by have:=H1.out.2.2;unfold maxLen;omega) (by have:=H1.out.2.2;omega) (by simp) ?_;intro v w3 hown hgrow hnil hloc;have HS:=Lib.hid (And.intro hown hgrow);clear hown hgrow hnil hloc)
 have ho3:=HS.out.1
 rw [List.nil_append,Nat.zero_add] at ho3
 obtain ⟨p',c',hv,ha⟩:=owns_slice2 ho3
 subst hv
 have hb3:Below w.heap.size w w3:=(below_alloc w _).grown HS.out.2 (by simp) (fun j hj=>by
  have:=hj
  simp [Act.eval,Value.ownBlock] at this
  omega)
 have HF:=Lib.hid (And.intro ho3 hb3)
 clear ho3 ha hb3 HS H1
 go_wp2
 go_ret
 exact ⟨_,_,rfl,HF.out.1,HF.out.2⟩
theorem cloneI_some {w:World} {g o c n:Nat} {xs:List Value} (hn:xs.length=n*3) (hx:∀ j u,xs[j]?=some u→w.cell? ((⟨g,o,none⟩:Addr).add j)=some u) (h1:∀ u∈xs,u.oneCell'=true) (hz:n≤1024):Calls Tryz.prog 66 #[.slice (some ⟨g,o,none⟩) n c] w fun e w'=>∃ p' c',e=.returned (.slice p' n c')∧w'.ownsRow w.heap.size 66 3 (.slice p' n c') n xs∧Below w.heap.size w w':=by
 have hq:=fun w c=>Lib.run_eql_slice_nil (P:=Tryz.prog) w 24 66 (some ⟨g,o,none⟩) n c 0 0 Tryz.underlying24
 have HX:Hid (∀ j u,xs[j]?=some u→(w.alloc (.cells #[] 66)).cell? ((⟨g,o,none⟩:Addr).add j)=some u):=fun j u hj=>((below_alloc w _).cell (World.block_lt_of_cell? w _ (hx j u hj))).trans (hx j u hj)
 have H1:=Lib.hid (And.intro h1 (And.intro hn hz))
 have HO:Hid ((w.alloc (.cells #[] 66)).ownsRow w.heap.size 66 3 (.slice (some ⟨w.heap.size,0,none⟩) 0 0) 0 []):=⟨rfl,.inr ⟨w.heap.size,0,#[],rfl,Nat.le_refl _,heap_alloc_new _ _,Nat.le_refl _,Nat.zero_le _,by simp,by simp⟩⟩
 obtain ⟨i0,hi,hz0,hz1,hz2⟩:=info_parts insInfo
 have HZI:=Lib.hid (And.intro hi (And.intro hz0 (And.intro hz1 hz2)))
 clear hi hz0 hz1 hz2 hx h1 hz hn
 go_enter Tryz.func66,Tryz.ntmps66
 go_wp2_with (at_builtin;refine wpList_append_own_at _ rfl _ _ 24 rfl w.heap.size 66 i0 _ 3 24 Tryz.underlying24 HZI.out.1 HZI.out.2.1 HZI.out.2.2.1 HZI.out.2.2.2 rfl (by decide) _ 0 [] rfl HO.out ⟨g,o,none⟩ n _ xs rfl H1.out.2.1 HX.out H1.out.1 (by have:=H1.out.2.2;unfold maxLen;omega) (by have:=H1.out.2.2;omega) (by simp) ?_;intro v w3 hown hgrow hnil hloc;have HS:=Lib.hid (And.intro hown hgrow);clear hown hgrow hnil hloc)
 have ho3:=HS.out.1
 rw [List.nil_append,Nat.zero_add] at ho3
 obtain ⟨p',c',hv,ha⟩:=owns_slice2 ho3
 subst hv
 have hb3:Below w.heap.size w w3:=(below_alloc w _).grown HS.out.2 (by simp) (fun j hj=>by
  have:=hj
  simp [Act.eval,Value.ownBlock] at this
  omega)
 have HF:=Lib.hid (And.intro ho3 hb3)
 clear ho3 ha hb3 HS H1
 go_wp2
 go_ret
 exact ⟨_,_,rfl,HF.out.1,HF.out.2⟩
theorem fls_one (l:List Nat):∀ u∈fls l,u.oneCell'=true:=fun u hu=>by
 unfold fls at hu
 obtain ⟨x,_,rfl⟩:=List.mem_map.1 hu
 rfl
theorem tch_one (l:Wr):∀ u∈l.flatMap tchC,u.oneCell'=true:=fun u hu=>by
 obtain ⟨x,_,hx⟩:=List.mem_flatMap.1 hu
 simp [tchC] at hx
 rcases hx with rfl | rfl <;> rfl
theorem cloneOut {w:World} {p:Option Addr} {c n:Nat} {l:List Nat} (h:RowAt 64 w p c (fls l)) (hn:l.length=n) (hz:n≤1024):Calls Tryz.prog 32 #[.slice p n c] w fun e w'=>∃ p' c',e=.returned (.slice p' n c')∧RowAt 64 w' p' c' (fls l)∧Abv w.heap.size (fpR p')∧Below w.heap.size w w':=by
 have ho:=h.own
 rw [fls_len,hn] at ho
 rcases ho.2 with ⟨hv,h0⟩ | ⟨g,cap,cur,hv,_⟩
 ·cases hv
  have e:l=[]:=List.eq_nil_of_length_eq_zero hn
  subst e
  exact (cloneF_nil w).mono fun e w' ⟨a1,a2⟩=>⟨none,0,a1,a2 ▸ h,fun k hk=>by simp [fpR] at hk,a2 ▸ Below.refl _ _⟩
 ·cases hv
  refine (cloneF_some (by rw [fls_len,hn,Nat.mul_one]) (fun j u hj=>World.ownsRow.cells ho (g:=g) rfl j u hj) (fls_one l) hz).mono fun e w' ⟨p',c',a1,a2,a3⟩=>⟨p',c',a1,⟨?_⟩,fun k hk=>(a2.lt k (own_fpR.1 hk)).1,a3⟩
  rw [fls_len,hn]
  exact owns_zero a2
theorem cloneReads {w:World} {p:Option Addr} {c n:Nat} {l:Wr} (h:TRow w p c l) (hn:l.length=n) (hz:n≤1024):Calls Tryz.prog 56 #[.slice p n c] w fun e w'=>∃ p' c',e=.returned (.slice p' n c')∧TRow w' p' c' l∧Abv w.heap.size (fpR p')∧Below w.heap.size w w':=by
 have ho:=h.own
 rw [hn] at ho
 rcases ho.2 with ⟨hv,h0⟩ | ⟨g,cap,cur,hv,_⟩
 ·cases hv
  have e:l=[]:=List.eq_nil_of_length_eq_zero hn
  subst e
  exact (cloneT_nil w).mono fun e w' ⟨a1,a2⟩=>⟨none,0,a1,a2 ▸ h,fun k hk=>by simp [fpR] at hk,a2 ▸ Below.refl _ _⟩
 ·cases hv
  refine (cloneT_some (by rw [tch_len,hn]) (fun j u hj=>World.ownsRow.cells ho (g:=g) rfl j u hj) (tch_one l) hz).mono fun e w' ⟨p',c',a1,a2,a3⟩=>⟨p',c',a1,⟨?_⟩,fun k hk=>(a2.lt k (own_fpR.1 hk)).1,a3⟩
  rw [hn]
  exact owns_zero a2
section
variable {W w:World} {b:Nat} {F0 K:List Nat} {m:Mac}
theorem out_any (h:Gm W F0 b K w m) (hz:m.out.length≤1024):Calls Tryz.prog 38 #[.pointer (some ⟨b,0,none⟩)] w fun e w'=>∃ p' c',e=.returned (.slice p' m.out.length c')∧RowAt 64 w' p' c' (fls m.out)∧Abv w.heap.size (fpR p')∧Below w.heap.size w w':=by
 obtain ⟨p,hm,ht,hk⟩:=h
 have h20:w.cell? ⟨b,24,none⟩=some (.slice p.po m.out.length p.co):=(hm.cell 24).trans rfl
 have hb:=hm.ltB
 have HP:=Lib.hid (cloneOut hm.out rfl hz)
 clear hm ht hk hz
 go_enter Tryz.func38,Tryz.ntmps38
 go_wp2_with (go_at_call 32;refine HP.out.mono ?_;rintro e w1 ⟨p',c',rfl,q1,q2,q3⟩;have HQ:=Lib.hid (And.intro q1 (And.intro q2 q3));clear q1 q2 q3 HP)
 go_ret
 exact ⟨_,_,rfl,HQ.out.1,HQ.out.2.1,HQ.out.2.2⟩
theorem reads_any (h:Gm W F0 b K w m) (hz:m.reads.length≤1024):Calls Tryz.prog 36 #[.pointer (some ⟨b,0,none⟩)] w fun e w'=>∃ p' c',e=.returned (.slice p' m.reads.length c')∧TRow w' p' c' m.reads∧Abv w.heap.size (fpR p')∧Below w.heap.size w w':=by
 obtain ⟨p,hm,ht,hk⟩:=h
 have h20:w.cell? ⟨b,25,none⟩=some (.slice p.pr m.reads.length p.cr):=(hm.cell 25).trans rfl
 have hb:=hm.ltB
 have HP:=Lib.hid (cloneReads hm.rds rfl hz)
 clear hm ht hk hz
 go_enter Tryz.func36,Tryz.ntmps36
 go_wp2_with (go_at_call 56;refine HP.out.mono ?_;rintro e w1 ⟨p',c',rfl,q1,q2,q3⟩;have HQ:=Lib.hid (And.intro q1 (And.intro q2 q3));clear q1 q2 q3 HP)
 go_ret
 exact ⟨_,_,rfl,HQ.out.1,HQ.out.2.1,HQ.out.2.2⟩
def eight (f:Nat→Nat):List Nat:=[f 0,f 1,f 2,f 3,f 4,f 5,f 6,f 7]
end
end Go.Proofs.YteinilmecnlanabGreatDoor
namespace Go.Proofs.YteinilmecnlanabGreatDoor
open Go.ChangeShapes Go.WideShapes Go.ChangeAt Go.RowKit Num
attribute [local go_sem] run_store_float
def argF (l:List Nat):Nat→Nat:=fun k=>fixB (l.getD k 0)
def newM (a f e t:Int) (c:List Ins) (l:List Nat):Mac:=⟨a,f,e,(t == 2),if checkB t c then c else [],argF l,fun _=>0,[],[],0,0,[],[],[],-1,0,0,0⟩
theorem argF_nil (k:Nat):argF [] k=0:=by simp [argF];decide
theorem fix0:fixB 0=0:=by decide
theorem argF_take (l:List Nat) {k:Nat} (h:k<l.length):updF (argF (l.take k)) k (fixB (l.getD k 0))=argF (l.take (k+1)):=by
 funext j
 unfold updF argF
 by_cases hj:j=k
 ·subst hj
  rw [if_pos rfl]
  simp [List.getD_eq_getElem?_getD]
 ·rw [if_neg hj]
  simp only [List.getD_eq_getElem?_getD,List.getElem?_take]
  by_cases h2:j<k
  ·rw [if_pos h2,if_pos (by omega)]
  ·rw [if_neg h2,if_neg (by omega)]
section
variable {W w:World} {b:Nat} {F0 K:List Nat} {m:Mac}
theorem mac_made {w0 w1:World} {bn bc bw:Nat} {Fw:List Nat} (a f e:Int) (u:Bool) (hn:NStk w1 bn [bn] []) (hc:CStk w1 bc [bc] []) (hw:Buf w1 bw Fw e []) (h1:bn≠bc) (h2:bn∉Fw) (h3:bc∉Fw) (hB:Below w0.heap.size w0 w1) (a1:w0.heap.size≤bn) (a2:w0.heap.size≤bc) (a3:Abv w0.heap.size Fw) :
  Gm w0 [] w1.heap.size [] (w1.alloc (.cells (boxV ⟨a,f,e,u,[],fun _=>0,fun _=>0,[],[],0,0,[],[],[],-1,0,0,0⟩ ⟨none,0,bn,bc,bw,[bn],[bc],Fw,none,0,none,0,0⟩) 120)) ⟨a,f,e,u,[],fun _=>0,fun _=>0,[],[],0,0,[],[],[],-1,0,0,0⟩:=by
 have hbl:=below_alloc w1 (.cells (boxV ⟨a,f,e,u,[],fun _=>0,fun _=>0,[],[],0,0,[],[],[],-1,0,0,0⟩ ⟨none,0,bn,bc,bw,[bn],[bc],Fw,none,0,none,0,0⟩) 120)
 have l1:bn<w1.heap.size:=hn.blw bn (by simp)
 have l2:bc<w1.heap.size:=hc.blw bc (by simp)
 have l3:=hw.blw
 refine ⟨⟨none,0,bn,bc,bw,[bn],[bc],Fw,none,0,none,0,0⟩,⟨heap_alloc_new _ _,hn.on hbl,hc.on hbl,hw.on hbl,⟨World.ownsRow_nil _ _ _ _⟩,⟨World.ownsRow_nil _ _ _ _⟩,fun k hk=>absurd hk (Nat.not_lt_zero k),fun k hk=>by simp [fpR] at hk,fun h=>absurd h (show ¬ (0:Int)≤-1 by decide),?_⟩,?_,rfl⟩
 ·have d01:Sep [w1.heap.size] [bn]:=fun k hk q=>by simp at hk q;omega
  have d02:Sep [w1.heap.size] [bc]:=fun k hk q=>by simp at hk q;omega
  have d03:Sep [w1.heap.size] Fw:=fun k hk q=>by simp at hk;subst hk;exact absurd (l3 _ q) (Nat.lt_irrefl _)
  have d12:Sep [bn] [bc]:=fun k hk q=>by simp at hk q;omega
  have d13:Sep [bn] Fw:=fun k hk q=>by simp at hk;subst hk;exact h2 q
  have d23:Sep [bc] Fw:=fun k hk q=>by simp at hk;subst hk;exact h3 q
  have e0:∀ F:List Nat,Sep F []:=fun F k _ q=>by simp at q
  intro i j hij
  match i,j with
  | 0,0=>exact absurd rfl hij
  | 0,1=>exact d01
  | 0,2=>exact d02
  | 0,3=>exact d03
  | 1,0=>exact d01.symm
  | 1,1=>exact absurd rfl hij
  | 1,2=>exact d12
  | 1,3=>exact d13
  | 2,0=>exact d02.symm
  | 2,1=>exact d12.symm
  | 2,2=>exact absurd rfl hij
  | 2,3=>exact d23
  | 3,0=>exact d03.symm
  | 3,1=>exact d13.symm
  | 3,2=>exact d23.symm
  | 3,3=>exact absurd rfl hij
  | _,4=>exact e0 _
  | _,5=>exact e0 _
  | _,6=>exact e0 _
  | 4,_=>exact (e0 _).symm
  | 5,_=>exact (e0 _).symm
  | 6,_=>exact (e0 _).symm
  | _,q+7=>simp only [Pt.L,List.getD_eq_getElem?_getD];exact fun k _ z=>by simp at z
  | q+7,_=>exact fun k z=>by simp [Pt.L] at z
 ·have hb2:=hB.trans (hbl.mono hB.size)
  refine ⟨hb2.os,hb2.tape,hb2.output,hb2.size,fun k hk _=>hb2.block k hk,fun k hk=>.inr ?_⟩
  simp only [Pt.F,Pt.own,List.flatten_cons,List.flatten_nil,List.mem_append,List.append_nil,List.mem_singleton,fpR,Option.map_none,Option.toList_none] at hk
  rcases hk with rfl | rfl | rfl | hk
  ·exact hB.size
  ·exact a1
  ·exact a2
  ·exact a3 k hk
theorem MacAt.code {p:Pt} (h1:MacAt w b m p) {pk:Option Addr} {ck:Nat} {c:List Ins} (hc:CodeAt w pk c) (hl:Blw w (fpR pk)) (hsp:Sep (fpR pk) (p.F b)):MacAt (w.setCell ⟨b,3,none⟩ (.slice pk c.length ck)) b { m with code:=c } { p with pk:=pk,ck:=ck }∧Turn (p.F b) ({ p with pk:=pk,ck:=ck }.F b) w (w.setCell ⟨b,3,none⟩ (.slice pk c.length ck)):=by
 have t:=turn_set w b 3 (.slice pk c.length ck)
 have kk:=h1.others (i:=0) t
 have kc:Kept (fpR pk) w (w.setCell ⟨b,3,none⟩ (.slice pk c.length ck)):=t.kept (fun k hk q=>hsp k hk (own_in (j:=0) (by omega) q)) hl
 refine ⟨⟨?_,h1.num.keep (kk 1 (by omega)),h1.cal.keep (kk 2 (by omega)),h1.wri.keep (kk 3 (by omega)),h1.out.keep (kk 4 (by omega)),h1.rds.keep (kk 5 (by omega)),hc.keep kc,fun x hx=>Nat.lt_of_lt_of_le (hl x hx) t.size,h1.wt,?_⟩,Turn.part (L:=p.own b) (i:=0) t⟩
 ·exact (heap_setCell_same w b 3 _ _ _ h1.box).trans rfl
 ·intro i j hij
  by_cases hi:i=6
  ·subst hi
   by_cases hj:j<6
   ·have:({ p with pk:=pk,ck:=ck }.L b).getD j []=(p.L b).getD j []:=by
     match j,hj with
     | 0,_=>rfl
     | 1,_=>rfl
     | 2,_=>rfl
     | 3,_=>rfl
     | 4,_=>rfl
     | 5,_=>rfl
    rw [this]
    exact fun k hk q=>hsp k hk (own_in hj q)
   ·match j,hj,hij with
    | 6,_,hij=>exact absurd rfl hij
    | q+7,_,_=>exact fun k _ z=>by simp [Pt.L] at z
  ·by_cases hj:j=6
   ·subst hj
    by_cases hi6:i<6
    ·have:({ p with pk:=pk,ck:=ck }.L b).getD i []=(p.L b).getD i []:=by
      match i,hi6 with
      | 0,_=>rfl
      | 1,_=>rfl
      | 2,_=>rfl
      | 3,_=>rfl
      | 4,_=>rfl
      | 5,_=>rfl
     rw [this]
     exact fun k hk q=>hsp k q (own_in hi6 hk)
    ·match i,hi6,hi with
     | 6,_,hi=>exact absurd rfl hi
     | q+7,_,_=>exact fun k z=>by simp [Pt.L] at z
   ·have e:∀ q,q≠6→({ p with pk:=pk,ck:=ck }.L b).getD q []=(p.L b).getD q []:=fun q hq=>by
     match q,hq with
     | 0,_=>rfl
     | 1,_=>rfl
     | 2,_=>rfl
     | 3,_=>rfl
     | 4,_=>rfl
     | 5,_=>rfl
     | 6,hq=>exact absurd rfl hq
     | q+7,_=>simp [Pt.L]
    rw [e i hi,e j hj]
    exact h1.apart i j hij
theorem arg_set (h:Gm W F0 b K w m) {k:Nat} (hk:k<8) (y:Nat):Gm W F0 b K (w.setCell ⟨b,4+k,none⟩ (.float .f64 y)) { m with args:=updF m.args k y }:=by
 refine h.set (4+k) _ _ (fun p hp=>⟨p.wt,?_,hp⟩) ⟨rfl,rfl,rfl,rfl,rfl,rfl,rfl⟩
 match k,hk with
 | 0,_=>rfl
 | 1,_=>rfl
 | 2,_=>rfl
 | 3,_=>rfl
 | 4,_=>rfl
 | 5,_=>rfl
 | 6,_=>rfl
 | 7,_=>rfl
end
end Go.Proofs.YteinilmecnlanabGreatDoor
namespace Go.Proofs.YteinilmecnlanabGreatDoor
open Go.ChangeShapes Go.WideShapes Go.ChangeAt Go.RowKit Num
attribute [local go_sem] run_store_float
def FlAt (w:World) (po:Option Addr) (l:List Nat):Prop:=∀ k,k<l.length→∃ g o,po=some ⟨g,o,none⟩∧g<w.heap.size∧w.cell? ⟨g,o+k,none⟩=some (.float .f64 (l.getD k 0))
theorem FlAt.on {w w':World} {po:Option Addr} {l:List Nat} (h:FlAt w po l) (hb:Below w.heap.size w w'):FlAt w' po l:=fun k hk=>by
 obtain ⟨g,o,e,hlt,c⟩:=h k hk
 exact ⟨g,o,e,Nat.lt_of_lt_of_le hlt hb.size,(hb.cell (p:=⟨g,o+k,none⟩) hlt).trans c⟩
abbrev cfgO (a b c e:Int):Obj:=.cells #[.int .i64 a,.int .i64 b,.int .i64 c,.int .i64 e] 23
abbrev prgO (t:Int) (ao:Option Addr) (n cap:Nat):Obj:=.cells #[.int .i64 t,.slice ao n cap] 26
abbrev cfgV (a b c e:Int):Value:=.agg #[.int .i64 a,.int .i64 b,.int .i64 c,.int .i64 e]
abbrev newW (w:World) (a b c e t:Int) (ao:Option Addr) (n cap:Nat):World:=(w.alloc (cfgO a b c e)).alloc (prgO t ao n cap)
theorem newW_below (w:World) (a b c e t:Int) (ao:Option Addr) (n cap:Nat):Below w.heap.size w (newW w a b c e t ao n cap):=(below_alloc w _).trans ((below_alloc _ _).mono (by simp))
theorem newW_boxes {w u:World} {a b c e t:Int} {ao:Option Addr} {n cap:Nat} (h:Below (newW w a b c e t ao n cap).heap.size (newW w a b c e t ao n cap) u) :
  (u.cell? ⟨w.heap.size,0,none⟩=some (.int .i64 a)∧u.cell? ⟨w.heap.size,2,none⟩=some (.int .i64 c)∧u.cell? ⟨w.heap.size,3,none⟩=some (.int .i64 e)∧w.heap.size<u.heap.size)∧(u.cell? ⟨w.heap.size+1,0,none⟩=some (.int .i64 t)∧u.cell? ⟨w.heap.size+1,1,none⟩=some (.slice ao n cap)∧w.heap.size+1<u.heap.size)∧Below w.heap.size w u:=by
 have b1:u.heap[w.heap.size]?=some (cfgO a b c e):=(h.block _ (by simp;omega)).trans ((heap_alloc_old _ _ (by simp)).trans (heap_alloc_new w _))
 have b2:u.heap[w.heap.size+1]?=some (prgO t ao n cap):=(h.block _ (by simp)).trans (heap_new (by simp))
 refine ⟨⟨?_,?_,?_,lt_of_block b1⟩,⟨?_,?_,lt_of_block b2⟩,(newW_below w a b c e t ao n cap).trans (h.mono (by simp;omega))⟩
 ·rw [cell_of_row u _ 0 _ _ _ b1];rfl
 ·rw [cell_of_row u _ 2 _ _ _ b1];rfl
 ·rw [cell_of_row u _ 3 _ _ _ b1];rfl
 ·rw [cell_of_row u _ 0 _ _ _ b2];rfl
 ·rw [cell_of_row u _ 1 _ _ _ b2];rfl
section
variable {w:World}
theorem mnew_cfg (a b c e t:Int) (ao:Option Addr) (n cap:Nat) (po:Option Addr) (k co:Nat) (hc:Md.cfgB a b c e=false):Calls Tryz.prog 43 #[cfgV a b c e,.agg #[.int .i64 t,.slice ao n cap],.slice po k co] w fun r w'=>r=.returned (.pointer none)∧Below w.heap.size w w':=by
 have HP:=Lib.hid (Md.place_any a b c e (newW w a b c e t ao n cap))
 rw [hc] at HP
 clear hc
 go_enter Tryz.func43,Tryz.ntmps43
 go_wp2_with (go_at_call 42;refine HP.out.mono ?_;rw [if_neg Bool.false_ne_true];rintro r u0 ⟨rfl,q⟩;have HQ:=Lib.hid (newW_boxes q).2.2;clear q HP)
 go_ret
 exact ⟨rfl,HQ.out.alloc HQ.out.size _⟩
theorem mnew_args (a b c e t:Int) (ao:Option Addr) (n cap:Nat) (po:Option Addr) (k co:Nat) (hc:Md.cfgB a b c e=true) (hk:8<k):Calls Tryz.prog 43 #[cfgV a b c e,.agg #[.int .i64 t,.slice ao n cap],.slice po k co] w fun r w'=>r=.returned (.pointer none)∧Below w.heap.size w w':=by
 have HP:=Lib.hid (Md.place_any a b c e (newW w a b c e t ao n cap))
 rw [hc] at HP
 have hk':(8:Int)<(k:Int):=by omega
 clear hc
 go_enter Tryz.func43,Tryz.ntmps43
 go_wp2_with (go_at_call 42;refine HP.out.mono ?_;rw [if_pos rfl];rintro r u0 ⟨rfl,q⟩;have HQ:=Lib.hid (newW_boxes q).2.2;clear q HP)
 go_ret
 exact ⟨rfl,HQ.out.alloc HQ.out.size _⟩
end
end Go.Proofs.YteinilmecnlanabGreatDoor
namespace Go.Proofs.YteinilmecnlanabGreatDoor
open Go.ChangeShapes Go.WideShapes Go.ChangeAt Go.RowKit Num
attribute [local go_sem] run_store_float
theorem code_row {w:World} {p:Option Addr} {c B:Nat} {l:List Ins} (h:w.ownsRow B 66 3 (.slice p l.length c) l.length (l.flatMap fun i=>[.int .i64 i.op,.int .i64 i.n,.float .f64 i.x])):CodeAt w p l∧Blw w (fpR p)∧Abv B (fpR p):=by
 refine ⟨fun k hk=>?_,fun k hk=>(h.lt k (own_fpR.1 hk)).2,fun k hk=>(h.lt k (own_fpR.1 hk)).1⟩
 rcases h.2 with ⟨_,q⟩ | ⟨g,cap',cur,hv,hB,hg,_,_,_,ht⟩
 ·omega
 ·cases hv
  have fl:∀ (l:List Ins) k (h:k<l.length),(l.flatMap fun i=>[Value.int .i64 i.op,.int .i64 i.n,.float .f64 i.x])[k*3]?=some (.int .i64 (ci l k).op)∧(l.flatMap fun i=>[Value.int .i64 i.op,.int .i64 i.n,.float .f64 i.x])[k*3+1]?=some (.int .i64 (ci l k).n)∧(l.flatMap fun i=>[Value.int .i64 i.op,.int .i64 i.n,.float .f64 i.x])[k*3+2]?=some (.float .f64 (ci l k).x):=by
   intro l
   induction l with
   | nil=>intro k h;exact absurd h (Nat.not_lt_zero k)
   | cons i l ih =>
    intro k h
    cases k with
    | zero=>simp [ci]
    | succ k =>
     have:=ih k (by simpa using h)
     rw [List.flatMap_cons]
     have e:(k+1)*3=[Value.int .i64 i.op,.int .i64 i.n,.float .f64 i.x].length+k*3:=by simp;omega
     rw [e,List.getElem?_append_right (by omega),Nat.add_assoc,List.getElem?_append_right (by omega),Nat.add_assoc,List.getElem?_append_right (by omega)]
     simpa [ci] using this
  have e:∀ j,j<l.length*3→cur[j]?=(l.flatMap fun i=>[Value.int .i64 i.op,.int .i64 i.n,.float .f64 i.x])[j]?:=fun j hj=>by
   have h1:cur.toList[j]?=(cur.toList.take (l.length*3))[j]?:=by rw [List.getElem?_take,if_pos (by omega)]
   rw [ht] at h1
   simpa using h1
  obtain ⟨f0,f1,f2⟩:=fl l k hk
  refine ⟨g,0,rfl,lt_of_block hg,?_,?_,?_⟩
  ·rw [cell_of_row w g _ _ _ _ hg,Nat.zero_add,e _ (by omega)];exact f0
  ·rw [cell_of_row w g _ _ _ _ hg,Nat.zero_add,e _ (by omega)];exact f1
  ·rw [cell_of_row w g _ _ _ _ hg,Nat.zero_add,e _ (by omega)];exact f2
theorem ins_len (l:List Ins):(l.flatMap fun i=>[Value.int .i64 i.op,.int .i64 i.n,.float .f64 i.x]).length=l.length*3:=by
 induction l with
 | nil=>rfl
 | cons i l ih=>rw [List.flatMap_cons,List.length_append,ih];simp;omega
theorem ins_cells (l:List Ins):∀ j,j<l.length*3→(l.flatMap fun i=>[Value.int .i64 i.op,.int .i64 i.n,.float .f64 i.x])[j]?=some (if j % 3=0 then .int .i64 (ci l (j / 3)).op else if j % 3=1 then .int .i64 (ci l (j / 3)).n else .float .f64 (ci l (j / 3)).x):=by
 induction l with
 | nil=>intro j h;simp at h
 | cons i l ih =>
  intro j h
  rw [List.flatMap_cons]
  by_cases hj:j<3
  ·rw [List.getElem?_append_left (by simpa using hj)]
   match j,hj with
   | 0,_=>rfl
   | 1,_=>rfl
   | 2,_=>rfl
  ·rw [List.getElem?_append_right (by simp;omega)]
   have:=ih (j - 3) (by simp at h;omega)
   have e1:(j - 3) % 3=j % 3:=by omega
   have e2:j / 3=(j - 3) / 3+1:=by omega
   rw [e1] at this
   rw [e2]
   simpa [ci] using this
theorem clone_code {w:World} {ao:Option Addr} {cap n:Nat} {c:List Ins} (h:CodeAt w ao c) (hn:c.length=n) (h1:1≤n) (hz:n≤1024):Calls Tryz.prog 66 #[.slice ao n cap] w fun e w'=>∃ p' c',e=.returned (.slice p' n c')∧CodeAt w' p' c∧Blw w' (fpR p')∧Abv w.heap.size (fpR p')∧Below w.heap.size w w':=by
 obtain ⟨g,o,e,_,_,_,_⟩:=h 0 (by omega)
 subst e
 refine (cloneI_some (xs:=c.flatMap fun i=>[Value.int .i64 i.op,.int .i64 i.n,.float .f64 i.x]) (by rw [ins_len,hn]) (fun j u hj=>?_) (fun u hu=>?_) hz).mono fun e w' ⟨p',c',a1,a2,a3⟩=>?_
 ·have hjl:j<c.length*3:=by
   have:=(List.getElem?_eq_some_iff.1 hj).1
   rwa [ins_len] at this
  rw [ins_cells c j hjl] at hj
  obtain ⟨g',o',e',_,c0,c1,c2⟩:=h (j / 3) (by omega)
  cases e'
  rw [show (⟨g,o,none⟩:Addr).add j=⟨g,o+j,none⟩ by unfold Addr.add;split <;> simp_all,← hj]
  by_cases h0:j % 3=0
  ·rw [if_pos h0,show o+j=o+j / 3*3 by omega]
   exact c0
  ·rw [if_neg h0]
   by_cases h1:j % 3=1
   ·rw [if_pos h1,show o+j=o+j / 3*3+1 by omega]
    exact c1
   ·rw [if_neg h1,show o+j=o+j / 3*3+2 by omega]
    exact c2
 ·obtain ⟨i,_,hx⟩:=List.mem_flatMap.1 hu
  simp at hx
  rcases hx with rfl | rfl | rfl <;> rfl
 ·rw [← hn] at a2
  obtain ⟨b1,b2,b3⟩:=code_row a2
  exact ⟨p',c',a1,b1,b2,b3,a3⟩
section
variable {w:World}
theorem Gm.code' {W:World} {F0 K:List Nat} {b:Nat} {u u':World} {m:Mac} (h:Gm W F0 b K u m) (hb:Below u.heap.size u u') {pk:Option Addr} {ck:Nat} {c:List Ins} (hc:CodeAt u' pk c) (hl:Blw u' (fpR pk)) (hA:Abv u.heap.size (fpR pk)):Gm W F0 b (fpR pk) (u'.setCell ⟨b,3,none⟩ (.slice pk c.length ck)) { m with code:=c }:=by
 obtain ⟨p,h1,h2,_⟩:=h
 obtain ⟨a1,a2⟩:=(h1.on hb).code (ck:=ck) hc hl (fun k hk q=>absurd (hA k hk) (Nat.not_le.2 (h1.blw k q)))
 exact ⟨_,a1,(h2.trans (Below.turn hb _)).trans a2,rfl⟩
structure Parts (w N v:World) (bn bc bw:Nat) (Fw:List Nat) (e:Int):Prop where
 n:NStk v bn [bn] []
 c:CStk v bc [bc] []
 bf:Buf v bw Fw e []
 nc:bn≠bc
 nw:bn∉Fw
 cw:bc∉Fw
 an:w.heap.size≤bn
 ac:w.heap.size≤bc
 aw:Abv w.heap.size Fw
 bl:Below N.heap.size N v
theorem parts_fi {N u u' v v':World} {bn bc bw:Nat} {Fw:List Nat} {e:Int} (hN:w.heap.size≤N.heap.size) (hb:Below N.heap.size N u) (hw:Buf u bw Fw e []) (ha:Abv w.heap.size Fw) (k1:Same u u') (e1:bn=u'.heap.size) (s1:Stk 152 64 v bn [bn] [] (roomV 64)) (d1:Below u'.heap.size u' v) (k2:Same v v') {x:World} (e2:bc=v'.heap.size) (s2:Stk 155 3 x bc [bc] [] (roomV 16)) (d2:Below v'.heap.size v' x):Parts w N x bn bc bw Fw e:=by
 have z1:u'.heap.size=u.heap.size:=by rw [k1.heap]
 have z2:v'.heap.size=v.heap.size:=by rw [k2.heap]
 have g1:Below u.heap.size u v:=(k1.below _).trans (d1.mono (by omega))
 have g2:Below v.heap.size v x:=(k2.below _).trans (d2.mono (by omega))
 have l1:bn<v.heap.size:=s1.blw bn (by simp)
 have hsz:=hb.size
 exact ⟨Stk.on s1 g2,s2,(hw.on g1).on g2,by omega,fun q=>absurd (hw.blw _ q) (by omega),fun q=>absurd (hw.blw _ q) (by have:=g1.size;omega),by omega,by have:=g1.size;omega,ha,(hb.trans (g1.mono hsz)).trans (g2.mono (Nat.le_trans hsz g1.size))⟩
theorem Parts.mac {N v:World} {bn bc bw:Nat} {Fw:List Nat} {e:Int} (h:Parts w N v bn bc bw Fw e) (hB:Below w.heap.size w v) (a f:Int) (u:Bool):Gm w [] v.heap.size [] (v.alloc (.cells (boxV ⟨a,f,e,u,[],fun _=>0,fun _=>0,[],[],0,0,[],[],[],-1,0,0,0⟩ ⟨none,0,bn,bc,bw,[bn],[bc],Fw,none,0,none,0,0⟩) 120)) ⟨a,f,e,u,[],fun _=>0,fun _=>0,[],[],0,0,[],[],[],-1,0,0,0⟩ :=
 mac_made a f e u h.n h.c h.bf h.nc h.nw h.cw hB h.an h.ac h.aw
theorem Gm.cod3 {W:World} {F0 K:List Nat} {b:Nat} {u:World} {m:Mac} (h:Gm W F0 b K u m):∃ v,u.cell? ⟨b,3,none⟩=some v:=by
 obtain ⟨p,hm,_,_⟩:=h
 exact ⟨_,(hm.cell 3).trans rfl⟩
theorem Gm.arg4 {W:World} {F0 K:List Nat} {b:Nat} {u:World} {m:Mac} (h:Gm W F0 b K u m) {j:Nat} (hj:j<8):u.cell? ⟨b,4+j,none⟩=some (.float .f64 (m.args j))∧u.frozen? ⟨b,4+j,none⟩=false∧b<u.heap.size:=⟨args_at h hj,h.free _,h.ltB⟩
theorem Gm.fresh {K:List Nat} {b:Nat} {u:World} {m:Mac} (h:Gm w [] b K u m):Below w.heap.size w u:=by
 obtain ⟨p,_,h2,_⟩:=h
 exact h2.below (fun k hk=>by simp at hk) (Nat.le_refl _)
theorem mnew_yes {a b c e t:Int} {ao:Option Addr} {cs:List Ins} {n cap:Nat} {po:Option Addr} {l:List Nat} {k co:Nat} (hc:Md.cfgB a b c e=true) (hn:cs.length=n) (hk:l.length=k) (hk8:k≤8) (hT:Shaped5 w) (hC:CodeAt w ao cs) (hL:FlAt w po l) (hnl:n≤9223372036854775807) (hq:checkB t cs=true):Calls Tryz.prog 43 #[cfgV a b c e,.agg #[.int .i64 t,.slice ao n cap],.slice po k co] w fun r w'=>∃ bm K,r=.returned (.pointer (some ⟨bm,0,none⟩))∧Gm w [] bm K w' (newM a c e t cs l)∧Abv w.heap.size K:=by
 have HP:=Lib.hid (Md.place_any a b c e (newW w a b c e t ao n cap))
 rw [hc] at HP
 have hcf:=Md.cfgB_iff.1 hc
 have hk':¬ (8:Int)<(k:Int):=by omega
 have HBF:Hid (∀ u,Calls Tryz.prog 62 #[.int .i64 e] u fun r w'=>∃ b F,r=.returned (.tuple #[.pointer (some ⟨b,0,none⟩),.int .i64 0])∧Buf w' b F e []∧Abv u.heap.size F∧Below u.heap.size u w'):=fun u=>new_some (by unfold mayM;simp;omega) u
 have HCK:Hid (∀ u,Below w.heap.size w u→Calls Tryz.prog 65 #[.agg #[.int .i64 t,.slice ao n cap]] u fun r w'=>r=.returned (.int .i64 (checkE t cs))∧Below u.heap.size u w'):=fun u hb=>by
  have:=check_any t cap (hT.on hb) (hC.on hb) (by omega)
  rw [hn] at this
  exact this
 rw [checkE_yes hq] at HCK
 have HL:=Lib.hid (And.intro hL (And.intro hk hk8))
 have HNW:Hid (w.heap.size≤(newW w a b c e t ao n cap).heap.size):=by show _≤_;simp;omega
 have hcp:=check_parts.1 hq
 have HC:Hid ((∀ u,Below w.heap.size w u→CodeAt u ao cs)∧cs.length=n∧1≤n∧n≤1024):=⟨fun u hb=>hC.on hb,hn,by omega,by omega⟩
 clear hcp
 clear hc hT hC hL hnl hcf
 go_enter Tryz.func43,Tryz.ntmps43
 go_wp2_with (first
  | (go_at_call 62;refine (HBF.out _).mono ?_;rintro r u1 ⟨bw,Fw,rfl,q1,q2,q3⟩;have B1:=B0.out.alloc B0.out.size (.cells #[.int .i64 0,.int .i64 1,.int .i64 2,.int .i64 3,.int .i64 (3+b),.int .i64 (3+b+3*a)] 43);have B2:=Lib.hid (B1.trans (q3.mono B1.size));obtain ⟨⟨x0,x1,x2,x3⟩,⟨y0,y1,y2⟩,z0⟩:=newW_boxes B2.out;have HW1:=Lib.hid (And.intro q1 (Abv.mono q2 (B':=w.heap.size) (Nat.le_trans HNW.out B1.size)));clear q1 q2 q3 B1 z0)
  | (go_at_call 42;refine HP.out.mono ?_;rw [if_pos rfl];rintro r u0 ⟨rfl,q⟩;obtain ⟨⟨x0,x1,x2,x3⟩,⟨y0,y1,y2⟩,z0⟩:=newW_boxes q;have B0:=Lib.hid q;clear q HP z0))
 go_region_held (fun w'=>w'.cell? ⟨w.heap.size,0,none⟩=some (.int .i64 a)∧w'.cell? ⟨w.heap.size,2,none⟩=some (.int .i64 c)∧w'.cell? ⟨w.heap.size+1,0,none⟩=some (.int .i64 t)) (go_keep) (first
  | (go_at_call 63;refine (fNew_any 64 _).mono ?_;rintro r v2 ⟨bn,rfl,e2,s2,d2⟩;have P2:=parts_if (w:=w) HNW.out B2.out HW1.out.1 HW1.out.2 (Same.drew _) I1.out.1 I1.out.2.1 I1.out.2.2 (Same.refl _) e2 s2 d2;obtain ⟨⟨x0,x1,x2,x3⟩,⟨y0,y1,y2⟩,z0⟩:=newW_boxes P2.bl;have HZ:=Lib.hid z0;have HPT:=Lib.hid P2;clear e2 s2 d2 P2 z0)
  | (go_at_call 64;refine (iNew_any 16 _).mono ?_;rintro r v2 ⟨bc,rfl,e2,s2,d2⟩;have P2:=parts_fi (w:=w) HNW.out B2.out HW1.out.1 HW1.out.2 (Same.drew _) J1.out.1 J1.out.2.1 J1.out.2.2 (Same.refl _) e2 s2 d2;obtain ⟨⟨x0,x1,x2,x3⟩,⟨y0,y1,y2⟩,z0⟩:=newW_boxes P2.bl;have HZ:=Lib.hid z0;have HPT:=Lib.hid P2;clear e2 s2 d2 P2 z0)
  | (go_at_call 63;refine (fNew_any 64 _).mono ?_;rintro r v1 ⟨bn,rfl,e1,s1,d1⟩;have J1:=Lib.hid (And.intro e1 (And.intro s1 d1));obtain ⟨⟨x0,x1,x2,x3⟩,⟨y0,y1,y2⟩,z0⟩:=newW_boxes (B2.out.trans (((Same.drew _).below _).trans (d1.mono B2.out.size)));clear e1 s1 d1 z0)
  | (go_at_call 64;refine (iNew_any 16 _).mono ?_;rintro r v1 ⟨bc,rfl,e1,s1,d1⟩;have I1:=Lib.hid (And.intro e1 (And.intro s1 d1));obtain ⟨⟨x0,x1,x2,x3⟩,⟨y0,y1,y2⟩,z0⟩:=newW_boxes (B2.out.trans (((Same.drew _).below _).trans (d1.mono B2.out.size)));clear e1 s1 d1 z0))
 all_goals go_wp2_with (first
  | (go_at_call 66;refine (clone_code (HC.out.1 _ G1.out.fresh) HC.out.2.1 HC.out.2.2.1 HC.out.2.2.2).mono ?_;rintro r v4 ⟨pk,ck,rfl,q1,q2,q3,q4⟩;have g4:=G1.out.on q4;obtain ⟨cv,c3⟩:=g4.cod3;have f3:=g4.free 3;have l3:=g4.ltB;have g5:=G1.out.code' q4 (ck:=ck) q1 q2 q3;rw [HC.out.2.1] at g5;have G2:=Lib.hid (And.intro g5 (Abv.mono q3 (B':=w.heap.size) G1.out.fresh.size));clear g4 g5 q1 q2 q3 q4)
  | (go_at_call 65;refine (HCK.out _ (HZ.out.alloc HZ.out.size _)).mono ?_;rintro r v3 ⟨rfl,d3⟩;have g3:=(HPT.out.mac HZ.out a c (t == 2)).on d3;obtain ⟨⟨x0,x1,x2,x3⟩,⟨y0,y1,y2⟩,z0⟩:=newW_boxes ((HPT.out.bl.alloc HPT.out.bl.size _).trans (d3.mono (Nat.le_trans HPT.out.bl.size (by simp))));have G1:=Lib.hid g3;clear d3 g3 z0))
 all_goals go_loopw [55] (fun vi wr=>∃ j:Nat,vi=.int .i64 j∧j≤k∧Hid (Gm w [] v2.heap.size (fpR pk) wr { newM a c e t cs [] with args:=argF (l.take j) })) (fun vi _=>k - (intOf vi).toNat)
 case atStart =>
  refine ⟨0,rfl,Nat.zero_le _,?_⟩
  have e1:argF (l.take 0)=fun _=>0:=by funext q;exact argF_nil q
  rw [e1]
  unfold newM
  rw [hq]
  exact G2.out.1
 case round =>
  obtain ⟨j,rfl,hj,HG⟩:=hrel
  by_cases hlt:j<k
  ·have hlt':(j:Int)<(k:Int):=by omega
   have hj8:(j:Int)<8:=by omega
   obtain ⟨g,o,hpo,hg,hcell⟩:=(HL.out.1.on HG.out.fresh) j (by omega)
   subst hpo
   have HTK:=Lib.hid (argF_take l (k:=j) (by omega))
   generalize l.getD j 0=y at hcell HTK
   obtain ⟨d0,d1,d2⟩:=HG.out.arg4 (j:=j) (by omega)
   clear HCK HBF HPT HZ G1 G2
   go_wp2
   refine region_tail 7 (by kernel_rfl) ?_
   simp only [List.take_succ_cons,List.take_zero,List.drop_succ_cons,List.drop_zero]
   repeat (first | still_step | still_call (fix_any y _))
   refine wpStill_nil ?_
   go_wp2
   refine ⟨⟨j+1,by first | rfl | (congr 1),by omega,?_⟩,by simp [intOf];omega⟩
   have g6:=(arg_set HG.out (k:=j) (by omega) (fixB y)).same (Same.drew _)
   rw [← HTK.out]
   exact g6
  ·have hlt':¬ (j:Int)<(k:Int):=by omega
   have e:j=k:=by omega
   subst e
   have HF:Hid (Gm w [] v2.heap.size (fpR pk) wr (newM a c e t cs l)):=by
    have:=HG.out
    rw [show l.take j=l by rw [← hk];exact List.take_length] at this
    exact this
   clear HCK HBF HPT HZ G1
   go_wp2
   go_ret
   exact ⟨_,rfl,(fpR pk),HF.out,G2.out.2⟩
theorem mnew_no {a b c e t:Int} {ao:Option Addr} {cs:List Ins} {n cap:Nat} {po:Option Addr} {l:List Nat} {k co:Nat} (hc:Md.cfgB a b c e=true) (hn:cs.length=n) (hk:l.length=k) (hk8:k≤8) (hT:Shaped5 w) (hC:CodeAt w ao cs) (hL:FlAt w po l) (hnl:n≤9223372036854775807) (hq:checkB t cs=false):Calls Tryz.prog 43 #[cfgV a b c e,.agg #[.int .i64 t,.slice ao n cap],.slice po k co] w fun r w'=>∃ bm K,r=.returned (.pointer (some ⟨bm,0,none⟩))∧Gm w [] bm K w' (newM a c e t cs l)∧Abv w.heap.size K:=by
 have HP:=Lib.hid (Md.place_any a b c e (newW w a b c e t ao n cap))
 rw [hc] at HP
 have hcf:=Md.cfgB_iff.1 hc
 have hk':¬ (8:Int)<(k:Int):=by omega
 have HBF:Hid (∀ u,Calls Tryz.prog 62 #[.int .i64 e] u fun r w'=>∃ b F,r=.returned (.tuple #[.pointer (some ⟨b,0,none⟩),.int .i64 0])∧Buf w' b F e []∧Abv u.heap.size F∧Below u.heap.size u w'):=fun u=>new_some (by unfold mayM;simp;omega) u
 have HCK:Hid (∀ u,Below w.heap.size w u→Calls Tryz.prog 65 #[.agg #[.int .i64 t,.slice ao n cap]] u fun r w'=>r=.returned (.int .i64 (checkE t cs))∧Below u.heap.size u w'):=fun u hb=>by
  have:=check_any t cap (hT.on hb) (hC.on hb) (by omega)
  rw [hn] at this
  exact this
 rw [checkE_no hq] at HCK
 have HL:=Lib.hid (And.intro hL (And.intro hk hk8))
 have HNW:Hid (w.heap.size≤(newW w a b c e t ao n cap).heap.size):=by show _≤_;simp;omega
 clear hc hT hC hL hnl hcf
 go_enter Tryz.func43,Tryz.ntmps43
 go_wp2_with (first
  | (go_at_call 62;refine (HBF.out _).mono ?_;rintro r u1 ⟨bw,Fw,rfl,q1,q2,q3⟩;have B1:=B0.out.alloc B0.out.size (.cells #[.int .i64 0,.int .i64 1,.int .i64 2,.int .i64 3,.int .i64 (3+b),.int .i64 (3+b+3*a)] 43);have B2:=Lib.hid (B1.trans (q3.mono B1.size));obtain ⟨⟨x0,x1,x2,x3⟩,⟨y0,y1,y2⟩,z0⟩:=newW_boxes B2.out;have HW1:=Lib.hid (And.intro q1 (Abv.mono q2 (B':=w.heap.size) (Nat.le_trans HNW.out B1.size)));clear q1 q2 q3 B1 z0)
  | (go_at_call 42;refine HP.out.mono ?_;rw [if_pos rfl];rintro r u0 ⟨rfl,q⟩;obtain ⟨⟨x0,x1,x2,x3⟩,⟨y0,y1,y2⟩,z0⟩:=newW_boxes q;have B0:=Lib.hid q;clear q HP z0))
 go_region_held (fun w'=>w'.cell? ⟨w.heap.size,0,none⟩=some (.int .i64 a)∧w'.cell? ⟨w.heap.size,2,none⟩=some (.int .i64 c)∧w'.cell? ⟨w.heap.size+1,0,none⟩=some (.int .i64 t)) (go_keep) (first
  | (go_at_call 63;refine (fNew_any 64 _).mono ?_;rintro r v2 ⟨bn,rfl,e2,s2,d2⟩;have P2:=parts_if (w:=w) HNW.out B2.out HW1.out.1 HW1.out.2 (Same.drew _) I1.out.1 I1.out.2.1 I1.out.2.2 (Same.refl _) e2 s2 d2;obtain ⟨⟨x0,x1,x2,x3⟩,⟨y0,y1,y2⟩,z0⟩:=newW_boxes P2.bl;have HZ:=Lib.hid z0;have HPT:=Lib.hid P2;clear e2 s2 d2 P2 z0)
  | (go_at_call 64;refine (iNew_any 16 _).mono ?_;rintro r v2 ⟨bc,rfl,e2,s2,d2⟩;have P2:=parts_fi (w:=w) HNW.out B2.out HW1.out.1 HW1.out.2 (Same.drew _) J1.out.1 J1.out.2.1 J1.out.2.2 (Same.refl _) e2 s2 d2;obtain ⟨⟨x0,x1,x2,x3⟩,⟨y0,y1,y2⟩,z0⟩:=newW_boxes P2.bl;have HZ:=Lib.hid z0;have HPT:=Lib.hid P2;clear e2 s2 d2 P2 z0)
  | (go_at_call 63;refine (fNew_any 64 _).mono ?_;rintro r v1 ⟨bn,rfl,e1,s1,d1⟩;have J1:=Lib.hid (And.intro e1 (And.intro s1 d1));obtain ⟨⟨x0,x1,x2,x3⟩,⟨y0,y1,y2⟩,z0⟩:=newW_boxes (B2.out.trans (((Same.drew _).below _).trans (d1.mono B2.out.size)));clear e1 s1 d1 z0)
  | (go_at_call 64;refine (iNew_any 16 _).mono ?_;rintro r v1 ⟨bc,rfl,e1,s1,d1⟩;have I1:=Lib.hid (And.intro e1 (And.intro s1 d1));obtain ⟨⟨x0,x1,x2,x3⟩,⟨y0,y1,y2⟩,z0⟩:=newW_boxes (B2.out.trans (((Same.drew _).below _).trans (d1.mono B2.out.size)));clear e1 s1 d1 z0))
 all_goals go_wp2_with (go_at_call 65;refine (HCK.out _ (HZ.out.alloc HZ.out.size _)).mono ?_;rintro r v3 ⟨rfl,d3⟩;have g3:=(HPT.out.mac HZ.out a c (t == 2)).on d3;obtain ⟨⟨x0,x1,x2,x3⟩,⟨y0,y1,y2⟩,z0⟩:=newW_boxes ((HPT.out.bl.alloc HPT.out.bl.size _).trans (d3.mono (Nat.le_trans HPT.out.bl.size (by simp))));have G1:=Lib.hid g3;clear d3 g3 z0)
 all_goals go_loopw [55] (fun vi wr=>∃ j:Nat,vi=.int .i64 j∧j≤k∧Hid (Gm w [] v2.heap.size [] wr { newM a c e t cs [] with args:=argF (l.take j) })) (fun vi _=>k - (intOf vi).toNat)
 case atStart =>
  refine ⟨0,rfl,Nat.zero_le _,?_⟩
  have e1:argF (l.take 0)=fun _=>0:=by funext q;exact argF_nil q
  rw [e1]
  unfold newM
  rw [hq]
  exact G1.out
 case round =>
  obtain ⟨j,rfl,hj,HG⟩:=hrel
  by_cases hlt:j<k
  ·have hlt':(j:Int)<(k:Int):=by omega
   have hj8:(j:Int)<8:=by omega
   obtain ⟨g,o,hpo,hg,hcell⟩:=(HL.out.1.on HG.out.fresh) j (by omega)
   subst hpo
   have HTK:=Lib.hid (argF_take l (k:=j) (by omega))
   generalize l.getD j 0=y at hcell HTK
   obtain ⟨d0,d1,d2⟩:=HG.out.arg4 (j:=j) (by omega)
   clear HCK HBF HPT HZ G1
   go_wp2
   refine region_tail 7 (by kernel_rfl) ?_
   simp only [List.take_succ_cons,List.take_zero,List.drop_succ_cons,List.drop_zero]
   repeat (first | still_step | still_call (fix_any y _))
   refine wpStill_nil ?_
   go_wp2
   refine ⟨⟨j+1,by first | rfl | (congr 1),by omega,?_⟩,by simp [intOf];omega⟩
   have g6:=(arg_set HG.out (k:=j) (by omega) (fixB y)).same (Same.drew _)
   rw [← HTK.out]
   exact g6
  ·have hlt':¬ (j:Int)<(k:Int):=by omega
   have e:j=k:=by omega
   subst e
   have HF:Hid (Gm w [] v2.heap.size [] wr (newM a c e t cs l)):=by
    have:=HG.out
    rw [show l.take j=l by rw [← hk];exact List.take_length] at this
    exact this
   clear HCK HBF HPT HZ G1
   go_wp2
   go_ret
   exact ⟨_,rfl,[],HF.out,fun k hk=>by simp at hk⟩
end
end Go.Proofs.YteinilmecnlanabGreatDoor
namespace Go.Proofs.YteinilmecnlanabGreatDoor
open Go.ChangeShapes Go.WideShapes Go.ChangeAt Go.RowKit Go.Deep
open Go.ChangeMaps (open_string shut_string)
theorem ownK:ownKnob Tryz.prog.godebug=none:=by kernel_rfl
abbrev laid8:List (String × DataW Unit):=Rows.writerClonesRow.laid
section
variable {H:Type} {enc:TypeId × Value→H} {w:World} {base:Nat} {sp:Nat→Bool} {held:Bool}
theorem shps_of {fuel:Nat} {cs:List Value} {p:List MemPlace}
  (h:DataW.trod enc Tryz.prog w base sp held fuel 195 cs=some (.agg (shpT.map fun s=>.agg [.lit (.string s.word),.lit (.int .i64 s.kind),.lit (.int .i64 s.lo),.lit (.int .i64 s.hi),.lit (.int .i64 s.takes),.lit (.int .i64 s.lays)]),p)) :
  ∀ i,i<21→cs[i*6]?=some (strB (shp i).word)∧cs[i*6+1]?=some (.int .i64 (shp i).kind)∧cs[i*6+2]?=some (.int .i64 (shp i).lo)∧cs[i*6+3]?=some (.int .i64 (shp i).hi)∧cs[i*6+4]?=some (.int .i64 (shp i).takes)∧cs[i*6+5]?=some (.int .i64 (shp i).lays):=by
 have hce:Tryz.prog.cellsOf 194=6:=by kernel_rfl
 have hct:Tryz.prog.cellsOf 195=126:=by kernel_rfl
 have hcs:Tryz.prog.cellsOf 9=1:=by kernel_rfl
 have hci:Tryz.prog.cellsOf 3=1:=by kernel_rfl
 cases fuel with
 | zero=>simp [DataW.trod] at h
 | succ fuel =>
  simp only [DataW.trod,Tryz.underlying195,hce,hct] at h
  split at h
  ·obtain ⟨xs,hm,hx⟩:=Option.map_eq_some_iff.1 h
   have hxs:=congrArg Prod.fst hx
   intro i hi
   obtain ⟨b,hb,hf⟩:=Lib.mapM_at hm i i (by simp [hi])
   have h2:(xs.map (·.1))[i]?=some b.1:=by simp [hb]
   have hxs':xs.map (·.1)=shpT.map fun s=>(DataW.agg [.lit (.string s.word),.lit (.int .i64 s.kind),.lit (.int .i64 s.lo),.lit (.int .i64 s.hi),.lit (.int .i64 s.takes),.lit (.int .i64 s.lays)]:DataW H):=by simpa using hxs
   rw [hxs'] at h2
   have hi':i<shpT.length:=hi
   have hsi:shpT[i]?=some (shp i):=by
    unfold shp
    rw [List.getD_eq_getElem?_getD,List.getElem?_eq_getElem hi']
    rfl
   rw [List.getElem?_map,hsi] at h2
   simp only [Option.map_some,Option.some.injEq] at h2
   obtain ⟨ys,n,_,hy,_,hyl,hg⟩:=DataW.trod_struct Tryz.underlying194 hf
   match ys,hyl with
   | [y0,y1,y2,y3,y4,y5],_ =>
    have g0:=hg 0 _ rfl
    have g1:=hg 1 _ rfl
    have g2:=hg 2 _ rfl
    have g3:=hg 3 _ rfl
    have g4:=hg 4 _ rfl
    have g5:=hg 5 _ rfl
    change DataW.trod enc Tryz.prog w base sp held n 9 ((((cs.drop (i*6)).take 6).drop 0).take (Tryz.prog.cellsOf 9))=_ at g0
    rw [hcs] at g0
    change DataW.trod enc Tryz.prog w base sp held n 3 ((((cs.drop (i*6)).take 6).drop 1).take (Tryz.prog.cellsOf 3))=_ at g1
    rw [hci] at g1
    change DataW.trod enc Tryz.prog w base sp held n 3 ((((cs.drop (i*6)).take 6).drop 2).take (Tryz.prog.cellsOf 3))=_ at g2
    rw [hci] at g2
    change DataW.trod enc Tryz.prog w base sp held n 3 ((((cs.drop (i*6)).take 6).drop 3).take (Tryz.prog.cellsOf 3))=_ at g3
    rw [hci] at g3
    change DataW.trod enc Tryz.prog w base sp held n 3 ((((cs.drop (i*6)).take 6).drop 4).take (Tryz.prog.cellsOf 3))=_ at g4
    rw [hci] at g4
    change DataW.trod enc Tryz.prog w base sp held n 3 ((((cs.drop (i*6)).take 6).drop 5).take (Tryz.prog.cellsOf 3))=_ at g5
    rw [hci] at g5
    obtain ⟨s0,a0,b0,_⟩:=DataW.trod_string Tryz.underlying9 g0
    obtain ⟨s1,a1,b1,_⟩:=DataW.trod_int Tryz.underlying3 g1
    obtain ⟨s2,a2,b2,_⟩:=DataW.trod_int Tryz.underlying3 g2
    obtain ⟨s3,a3,b3,_⟩:=DataW.trod_int Tryz.underlying3 g3
    obtain ⟨s4,a4,b4,_⟩:=DataW.trod_int Tryz.underlying3 g4
    obtain ⟨s5,a5,b5,_⟩:=DataW.trod_int Tryz.underlying3 g5
    subst b0 b1 b2 b3 b4 b5
    rw [hy] at h2
    simp only [List.map_cons,List.map_nil,DataW.agg.injEq,List.cons.injEq,DataW.lit.injEq,Lit.string.injEq,Lit.int.injEq,true_and,and_true] at h2
    obtain ⟨e0,e1,e2,e3,e4,e5⟩:=h2
    have get:∀ (o:Nat) (v:Value),(((cs.drop (i*6)).take 6).drop o).take 1=[v]→o<6→cs[i*6+o]?=some v:=fun o v hv ho=>by
     have:=congrArg (·[0]?) hv
     simpa [List.getElem?_take,List.getElem?_drop,ho] using this
    refine ⟨?_,?_,?_,?_,?_,?_⟩
    ·have:=get 0 _ a0 (by decide)
     rw [Nat.add_zero] at this
     rw [this,e0]
     rfl
    ·rw [get 1 _ a1 (by decide),e1]
    ·rw [get 2 _ a2 (by decide),e2]
    ·rw [get 3 _ a3 (by decide),e3]
    ·rw [get 4 _ a4 (by decide),e4]
    ·rw [get 5 _ a5 (by decide),e5]
  ·cases h
end
theorem shp_data:Rows.laid_beadle_code_shapes (H:=Unit)=.agg (shpT.map fun s=>.agg [.lit (.string s.word),.lit (.int .i64 s.kind),.lit (.int .i64 s.lo),.lit (.int .i64 s.hi),.lit (.int .i64 s.takes),.lit (.int .i64 s.lays)]):=by kernel_rfl
theorem of_laid8 {W:World} (h:laidMetH Tryz.prog laid8 W):Shaped5 W:=by
 rw [MakeChecks.laidMetH_plain _ _ _ (by kernel_rfl)] at h
 have hshp:laidMet Tryz.prog laid8 W:=h
 unfold laid8 at hshp
 rw [show Rows.writerClonesRow.laid=[((Rows.writerClonesRow.laid.map (·.1)).getD 0 default,Rows.laid_beadle_code_shapes)] from rfl,shp_data] at hshp
 refine ⟨?_⟩
 ·obtain ⟨ps,⟨g',t',cs,fuel,p,q,hg',ht',hvar,hd,_,_⟩,_⟩:=hshp
  obtain rfl:t'=195:=(Option.some.inj ((show (Tryz.prog.globals[g']?).map (·.type)=some 195 by rw [← Option.some.inj ((show Tryz.prog.globalNamed ((Rows.writerClonesRow.laid.map (·.1)).getD 0 default)=some 1 by kernel_rfl).symm.trans hg')];kernel_rfl).symm.trans ht')).symm
  intro k hk
  obtain ⟨a0,a1,a2,a3,a4,a5⟩:=shps_of hd k hk
  have cell:=fun i=>World.var?_cell (show Tryz.prog.globalNamed ((Rows.writerClonesRow.laid.map (·.1)).getD 0 default)=some 1 by kernel_rfl) hvar i
  exact ⟨by rw [cell];simpa using a0,by rw [cell];simpa using a1,by rw [cell];simpa using a2,by rw [cell];simpa using a3,by rw [cell];simpa using a4,by rw [cell];simpa using a5⟩
theorem door_met (os:Os) (args:Array Value):laidMetH Tryz.prog laid8 ((World.doorLaid Tryz.prog 400 os).forCall (fun _ _=>0) ⟨#[],args,[]⟩).memory :=
 laidMetH_of_parts3 (fuel:=8) (laidMet_of_run' 8 (by kernel_rfl) (by kernel_rfl)) (by kernel_rfl) (by kernel_rfl)
theorem laidOut:laidOutB Tryz.prog=true:=by kernel_rfl
section
variable {H:Type} {enc:TypeId × Value→H}
theorem wrap5 {a:Assume} {C:Checked} {os:Os} {f:FuncId} {fn:Func} {s:ChangeSpec} {conds:List PathCond} {apart fresh handsOn again:Bool} {X:World→Array Value→Prop}
  (hX:∀ (w w':World) (args:Array Value),w.heap=w'.heap→X w args→X w' args)
  (own:ownKnob C.prog.godebug=none) (started:os.Started) (noInit:C.prog.inits.idxOf? f=none) (hfn:C.prog.funcs[f]?=some fn)
  (witness:∃ (w:World) (tape:Tape) (i:Input),w.os=os∧(w.forCall tape i).Shaped C.prog∧i.vars=[]∧Input.okWide C.prog (w.forCall tape i) .any w.heap.size f i ∧
   ((s.pre enc C.prog fn conds apart (w.forCall tape i).memory i.args∧X (w.forCall tape i).memory i.args)∧sizedMet enc C.prog fn (OpenSpec.ofChange s) apart (w.forCall tape i).memory i.args)∧a.holds C.prog (lone (Frame.enter C.prog f i.args .normal) [] (w.forCall tape i)))
  (contract:∀ (W:World) (base:Nat) (args:Array Value) (ds gs:List (DataW H)) (before:List MemPlace),
   (∀ (j:Nat) t v,fn.params[j]?=some t→args[j]?=some v→Value.okWide C.prog W .any base t v) →
   DataW.Whole enc C.prog fn.params.toList s.vars apart W args.toList ds gs before →
   (DataW.weightsEach C.prog (fn.params.toList ++ s.plain.varTypes C.prog) (ds ++ gs)).all (·≤reachBytes)=true→X W args→W.ShapedOpen C.prog →
   Calls C.prog f args W fun e W'=>∃ v,e=.returned v∧s.post enc C.prog fn apart fresh handsOn again W args v W') :
  ReturnsInHanded a C os f .any (fun w args=>(s.pre enc C.prog fn conds apart w args∧X w args)∧sizedMet enc C.prog fn (OpenSpec.ofChange s) apart w args) (s.post enc C.prog fn apart fresh handsOn again):=by
 refine returnsInHanded_of_calls own started noInit witness fun w tape i _ hsh _ hok hpre _=>?_
 obtain ⟨_,_,_,fn',hfn',_,_,_,_,hval⟩:=hok
 obtain rfl:fn'=fn:=Option.some.inj (hfn'.symm.trans hfn)
 obtain ⟨⟨⟨ds,gs,before,hw,_⟩,hx⟩,hz⟩:=hpre
 exact (contract (w.forCall tape i) w.heap.size i.args ds gs before hval (DataW.Whole.of_heap (w':=w.forCall tape i) (by rfl) hw) (hz.weights hw) (hX _ _ _ (by rfl) hx) hsh).mono fun e W' ⟨v,he,hp⟩=>by
  subst he
  exact ChangeSpec.post_blind hp
theorem wf_f64 {b:Nat} (h:(Lit.float .f64 b).wf=true):b<18446744073709551616:=by simpa [Lit.wf] using h
theorem trod_f64w {P:Program} {t:TypeId} {w:World} {base:Nat} {sp:Nat→Bool} {held:Bool} {fuel:Nat} {cs:List Value} {x:DataW H × List MemPlace} (ht:P.underlying t=some (.float .f64)) (h:DataW.trod enc P w base sp held fuel t cs=some x):∃ b:Nat,cs=[.float .f64 b]∧(Lit.float .f64 b).wf=true:=by
 cases fuel with
 | zero=>simp [DataW.trod] at h
 | succ n =>
  unfold DataW.trod at h
  rw [ht] at h
  split at h <;> simp_all
theorem trod_f64 {w:World} {base:Nat} {sp:Nat→Bool} {held:Bool} {fuel:Nat} {cs:List Value} {x:DataW H × List MemPlace} (h:DataW.trod enc Tryz.prog w base sp held fuel 64 cs=some x):∃ b:Nat,cs=[.float .f64 b]∧b<18446744073709551616:=by
 obtain ⟨b,h1,h2⟩:=trod_f64w Tryz.underlying64 h
 exact ⟨b,h1,wf_f64 h2⟩
theorem cellsF:Tryz.prog.cellsOf 64=1:=by kernel_rfl
theorem bytesF:Tryz.prog.bytesOf 64=8:=by kernel_rfl
end
end Go.Proofs.YteinilmecnlanabGreatDoor
namespace Go.Proofs.YteinilmecnlanabGreatDoor
open Go.ChangeShapes Go.WideShapes Go.ChangeAt Go.RowKit Num
attribute [local go_sem] run_store_float
section
variable {W w:World} {b:Nat} {F0 K:List Nat} {m:Mac}
theorem Gm.both (h:Gm W F0 b K w m) (i:Ins):∃ F,Gm ((w.alloc (insO i)).alloc (askO ask0)) F b K ((w.alloc (insO i)).alloc (askO ask0)) m∧∀ w' m',Gm ((w.alloc (insO i)).alloc (askO ask0)) F b K w' m'→w'.heap[w.heap.size]?=some (insO i)∧w'.heap[w.heap.size+1]?=some (askO ask0)∧∀ w'',Turn [w.heap.size+1] [w.heap.size+1] w' w''→Gm W F0 b K w'' m':=by
 obtain ⟨F1,hM1,hT1⟩:=h.mc
 have hb1:Blw w F1:=hM1.blw
 have hM3:=hM1.on ((below_alloc w (insO i)).trans ((below_alloc _ (askO ask0)).mono (by simp)))
 refine ⟨F1,hM3.gm,fun w' m' hg=>?_⟩
 have a1:w'.heap[w.heap.size]?=some (insO i):=(hg.far (by simp;omega) (fun q=>absurd (hb1 _ q) (Nat.lt_irrefl _))).trans ((heap_alloc_old _ _ (by simp)).trans (heap_alloc_new w _))
 have a2:w'.heap[w.heap.size+1]?=some (askO ask0):=(hg.far (by simp) (fun q=>absurd (hb1 _ q) (by omega))).trans (heap_new (by simp))
 refine ⟨a1,a2,fun w'' t=>?_⟩
 obtain ⟨p,q1,q2,q3⟩:=hg
 have n1:w.heap.size+1∉p.F b:=fun q=>(q2.own _ q).elim (fun z=>absurd (hb1 _ z) (by omega)) (fun z=>by simp at z;omega)
 have n2:w.heap.size+1∉fpR p.pk:=fun q=>by rw [← q3] at q;exact absurd (hM1.blwK _ q) (by omega)
 have s1:Sep (p.F b) [w.heap.size+1]:=fun k hk q=>n1 (by simp at q;rw [← q];exact hk)
 have s2:Sep (fpR p.pk) [w.heap.size+1]:=fun k hk q=>n2 (by simp at q;rw [← q];exact hk)
 have hs:w.heap.size≤w'.heap.size:=Nat.le_trans (by simp;omega) q2.size
 refine ⟨p,q1.keep (t.kept s1 q1.blw) (t.kept s2 q1.ltk),hT1.trans ⟨t.os.trans q2.os,t.tape.trans q2.tape,t.output.trans q2.output,Nat.le_trans hs t.size,fun k hk hf=>?_,fun k hk=>?_⟩,q3⟩
 ·exact (t.block k (Nat.lt_of_lt_of_le hk hs) (by simp;omega)).trans ((q2.block k (by simp;omega) hf).trans ((heap_alloc_old _ _ (by simp;omega)).trans (heap_alloc_old w _ hk)))
 ·exact (q2.own k hk).imp id (fun z=>by simp at z;omega)
theorem both_shaped (hT:Shaped5 w) (i:Ins):Shaped5 ((w.alloc (insO i)).alloc (askO ask0)):=hT.on ((below_alloc w (insO i)).trans ((below_alloc _ (askO ask0)).mono (by simp)))
theorem do_A (h:Gm W F0 b K w m) (hT:Shaped5 w) {k:Nat} {n:Int} {x:Nat} {m':Mac} (x16:¬ (k:Int)=16) (x17:¬ (k:Int)=17) (x19:¬ (k:Int)=19) (x20:¬ (k:Int)=20) (x15:¬ (k:Int)=15) (x11:¬ (k:Int)=11) (x12:¬ (k:Int)=12) (x13:¬ (k:Int)=13) (x14:¬ (k:Int)=14) (hR:∀ W F0 w,Gm W F0 b K w m→Calls Tryz.prog 151 #[.pointer (some ⟨b,0,none⟩),.agg #[.int .i64 (k:Int),.int .i64 n,.float .f64 x]] w fun r w'=>r=.returned (.tuple #[])∧Gm W F0 b K w' m') (hF:∀ W F0 w,Gm W F0 b K w m→Shaped5 w→Calls Tryz.prog 146 #[.pointer (some ⟨b,0,none⟩),.agg #[.int .i64 (k:Int),.int .i64 n,.float .f64 x]] w fun r w'=>r=.returned (.tuple #[])∧Below w.heap.size w w'):Calls Tryz.prog 137 #[.pointer (some ⟨b,0,none⟩),.agg #[.int .i64 (k:Int),.int .i64 n,.float .f64 x]] w fun r w'=>r=.returned (askV ask0)∧Gm W F0 b K w' m':=by
 obtain ⟨F,h1,hX⟩:=h.both ⟨(k:Int),n,x⟩
 have HF:=Lib.hid (hF _ _ _ h1 (both_shaped hT _))
 have HG:=Lib.hid h1
 have HX:=Lib.hid hX
 have HR:=Lib.hid hR
 clear h h1 hX hT hF hR
 go_enter Tryz.func137,Tryz.ntmps137
 go_wp2_with (first
  | (go_at_call 151;refine (HR.out _ _ _ G0.out).mono ?_;rintro e u1 ⟨rfl,q⟩;obtain ⟨r1,r2,r3⟩:=HX.out _ _ q;obtain ⟨⟨d0,d1,d2,d3,d4⟩,d5,d6,d7,d8⟩:=askO_cells r2;have G1:=Lib.hid (And.intro r2 r3);clear q r1 r2 r3)
  | (go_at_call 146;refine HF.out.mono ?_;rintro e u0 ⟨rfl,q⟩;have q0:=HG.out.on q;obtain ⟨r1,r2,r3⟩:=HX.out _ _ q0;obtain ⟨c0,c1,c2,c3⟩:=insO_cells r1;obtain ⟨⟨k0,k1,k2,k3,k4⟩,k5,k6,k7,k8⟩:=askO_cells r2;have G0:=Lib.hid q0;clear q q0 r1 r2 r3))
 exact ask_back rfl (w.heap.size+1) ask0 rfl (askO_set (k':=ask0) G1.out.1) rfl ⟨rfl,G1.out.2 _ (turn4 _ _ (.int .i64 0) (.int .i64 0) (.float .f64 0) (.bool false))⟩
theorem do_B11 (h:Gm W F0 b K w m) (hT:Shaped5 w) {n:Int} {x:Nat} {m':Mac} (hR:∀ W F0 w,Gm W F0 b K w m→Calls Tryz.prog 150 #[.pointer (some ⟨b,0,none⟩),.agg #[.int .i64 11,.int .i64 n,.float .f64 x]] w fun r w'=>r=.returned (.tuple #[])∧Gm W F0 b K w' m') (hF:∀ W F0 w,Gm W F0 b K w m→Shaped5 w→Calls Tryz.prog 146 #[.pointer (some ⟨b,0,none⟩),.agg #[.int .i64 11,.int .i64 n,.float .f64 x]] w fun r w'=>r=.returned (.tuple #[])∧Below w.heap.size w w'):Calls Tryz.prog 137 #[.pointer (some ⟨b,0,none⟩),.agg #[.int .i64 11,.int .i64 n,.float .f64 x]] w fun r w'=>r=.returned (askV ask0)∧Gm W F0 b K w' m':=by
 obtain ⟨F,h1,hX⟩:=h.both ⟨11,n,x⟩
 have HF:=Lib.hid (hF _ _ _ h1 (both_shaped hT _))
 have HG:=Lib.hid h1
 have HX:=Lib.hid hX
 have HR:=Lib.hid hR
 clear h h1 hX hT hF hR
 go_enter Tryz.func137,Tryz.ntmps137
 go_wp2_with (first
  | (go_at_call 150;refine (HR.out _ _ _ G0.out).mono ?_;rintro e u1 ⟨rfl,q⟩;obtain ⟨r1,r2,r3⟩:=HX.out _ _ q;obtain ⟨⟨d0,d1,d2,d3,d4⟩,d5,d6,d7,d8⟩:=askO_cells r2;have G1:=Lib.hid (And.intro r2 r3);clear q r1 r2 r3)
  | (go_at_call 146;refine HF.out.mono ?_;rintro e u0 ⟨rfl,q⟩;have q0:=HG.out.on q;obtain ⟨r1,r2,r3⟩:=HX.out _ _ q0;obtain ⟨c0,c1,c2,c3⟩:=insO_cells r1;obtain ⟨⟨k0,k1,k2,k3,k4⟩,k5,k6,k7,k8⟩:=askO_cells r2;have G0:=Lib.hid q0;clear q q0 r1 r2 r3))
 exact ask_back rfl (w.heap.size+1) ask0 rfl (askO_set (k':=ask0) G1.out.1) rfl ⟨rfl,G1.out.2 _ (turn4 _ _ (.int .i64 0) (.int .i64 0) (.float .f64 0) (.bool false))⟩
theorem do_B12 (h:Gm W F0 b K w m) (hT:Shaped5 w) {n:Int} {x:Nat} {m':Mac} (hR:∀ W F0 w,Gm W F0 b K w m→Calls Tryz.prog 150 #[.pointer (some ⟨b,0,none⟩),.agg #[.int .i64 12,.int .i64 n,.float .f64 x]] w fun r w'=>r=.returned (.tuple #[])∧Gm W F0 b K w' m') (hF:∀ W F0 w,Gm W F0 b K w m→Shaped5 w→Calls Tryz.prog 146 #[.pointer (some ⟨b,0,none⟩),.agg #[.int .i64 12,.int .i64 n,.float .f64 x]] w fun r w'=>r=.returned (.tuple #[])∧Below w.heap.size w w'):Calls Tryz.prog 137 #[.pointer (some ⟨b,0,none⟩),.agg #[.int .i64 12,.int .i64 n,.float .f64 x]] w fun r w'=>r=.returned (askV ask0)∧Gm W F0 b K w' m':=by
 obtain ⟨F,h1,hX⟩:=h.both ⟨12,n,x⟩
 have HF:=Lib.hid (hF _ _ _ h1 (both_shaped hT _))
 have HG:=Lib.hid h1
 have HX:=Lib.hid hX
 have HR:=Lib.hid hR
 clear h h1 hX hT hF hR
 go_enter Tryz.func137,Tryz.ntmps137
 go_wp2_with (first
  | (go_at_call 150;refine (HR.out _ _ _ G0.out).mono ?_;rintro e u1 ⟨rfl,q⟩;obtain ⟨r1,r2,r3⟩:=HX.out _ _ q;obtain ⟨⟨d0,d1,d2,d3,d4⟩,d5,d6,d7,d8⟩:=askO_cells r2;have G1:=Lib.hid (And.intro r2 r3);clear q r1 r2 r3)
  | (go_at_call 146;refine HF.out.mono ?_;rintro e u0 ⟨rfl,q⟩;have q0:=HG.out.on q;obtain ⟨r1,r2,r3⟩:=HX.out _ _ q0;obtain ⟨c0,c1,c2,c3⟩:=insO_cells r1;obtain ⟨⟨k0,k1,k2,k3,k4⟩,k5,k6,k7,k8⟩:=askO_cells r2;have G0:=Lib.hid q0;clear q q0 r1 r2 r3))
 exact ask_back rfl (w.heap.size+1) ask0 rfl (askO_set (k':=ask0) G1.out.1) rfl ⟨rfl,G1.out.2 _ (turn4 _ _ (.int .i64 0) (.int .i64 0) (.float .f64 0) (.bool false))⟩
theorem do_B13 (h:Gm W F0 b K w m) (hT:Shaped5 w) {n:Int} {x:Nat} {m':Mac} (hR:∀ W F0 w,Gm W F0 b K w m→Calls Tryz.prog 150 #[.pointer (some ⟨b,0,none⟩),.agg #[.int .i64 13,.int .i64 n,.float .f64 x]] w fun r w'=>r=.returned (.tuple #[])∧Gm W F0 b K w' m') (hF:∀ W F0 w,Gm W F0 b K w m→Shaped5 w→Calls Tryz.prog 146 #[.pointer (some ⟨b,0,none⟩),.agg #[.int .i64 13,.int .i64 n,.float .f64 x]] w fun r w'=>r=.returned (.tuple #[])∧Below w.heap.size w w'):Calls Tryz.prog 137 #[.pointer (some ⟨b,0,none⟩),.agg #[.int .i64 13,.int .i64 n,.float .f64 x]] w fun r w'=>r=.returned (askV ask0)∧Gm W F0 b K w' m':=by
 obtain ⟨F,h1,hX⟩:=h.both ⟨13,n,x⟩
 have HF:=Lib.hid (hF _ _ _ h1 (both_shaped hT _))
 have HG:=Lib.hid h1
 have HX:=Lib.hid hX
 have HR:=Lib.hid hR
 clear h h1 hX hT hF hR
 go_enter Tryz.func137,Tryz.ntmps137
 go_wp2_with (first
  | (go_at_call 150;refine (HR.out _ _ _ G0.out).mono ?_;rintro e u1 ⟨rfl,q⟩;obtain ⟨r1,r2,r3⟩:=HX.out _ _ q;obtain ⟨⟨d0,d1,d2,d3,d4⟩,d5,d6,d7,d8⟩:=askO_cells r2;have G1:=Lib.hid (And.intro r2 r3);clear q r1 r2 r3)
  | (go_at_call 146;refine HF.out.mono ?_;rintro e u0 ⟨rfl,q⟩;have q0:=HG.out.on q;obtain ⟨r1,r2,r3⟩:=HX.out _ _ q0;obtain ⟨c0,c1,c2,c3⟩:=insO_cells r1;obtain ⟨⟨k0,k1,k2,k3,k4⟩,k5,k6,k7,k8⟩:=askO_cells r2;have G0:=Lib.hid q0;clear q q0 r1 r2 r3))
 exact ask_back rfl (w.heap.size+1) ask0 rfl (askO_set (k':=ask0) G1.out.1) rfl ⟨rfl,G1.out.2 _ (turn4 _ _ (.int .i64 0) (.int .i64 0) (.float .f64 0) (.bool false))⟩
theorem do_B14 (h:Gm W F0 b K w m) (hT:Shaped5 w) {n:Int} {x:Nat} {m':Mac} (hR:∀ W F0 w,Gm W F0 b K w m→Calls Tryz.prog 150 #[.pointer (some ⟨b,0,none⟩),.agg #[.int .i64 14,.int .i64 n,.float .f64 x]] w fun r w'=>r=.returned (.tuple #[])∧Gm W F0 b K w' m') (hF:∀ W F0 w,Gm W F0 b K w m→Shaped5 w→Calls Tryz.prog 146 #[.pointer (some ⟨b,0,none⟩),.agg #[.int .i64 14,.int .i64 n,.float .f64 x]] w fun r w'=>r=.returned (.tuple #[])∧Below w.heap.size w w'):Calls Tryz.prog 137 #[.pointer (some ⟨b,0,none⟩),.agg #[.int .i64 14,.int .i64 n,.float .f64 x]] w fun r w'=>r=.returned (askV ask0)∧Gm W F0 b K w' m':=by
 obtain ⟨F,h1,hX⟩:=h.both ⟨14,n,x⟩
 have HF:=Lib.hid (hF _ _ _ h1 (both_shaped hT _))
 have HG:=Lib.hid h1
 have HX:=Lib.hid hX
 have HR:=Lib.hid hR
 clear h h1 hX hT hF hR
 go_enter Tryz.func137,Tryz.ntmps137
 go_wp2_with (first
  | (go_at_call 150;refine (HR.out _ _ _ G0.out).mono ?_;rintro e u1 ⟨rfl,q⟩;obtain ⟨r1,r2,r3⟩:=HX.out _ _ q;obtain ⟨⟨d0,d1,d2,d3,d4⟩,d5,d6,d7,d8⟩:=askO_cells r2;have G1:=Lib.hid (And.intro r2 r3);clear q r1 r2 r3)
  | (go_at_call 146;refine HF.out.mono ?_;rintro e u0 ⟨rfl,q⟩;have q0:=HG.out.on q;obtain ⟨r1,r2,r3⟩:=HX.out _ _ q0;obtain ⟨c0,c1,c2,c3⟩:=insO_cells r1;obtain ⟨⟨k0,k1,k2,k3,k4⟩,k5,k6,k7,k8⟩:=askO_cells r2;have G0:=Lib.hid q0;clear q q0 r1 r2 r3))
 exact ask_back rfl (w.heap.size+1) ask0 rfl (askO_set (k':=ask0) G1.out.1) rfl ⟨rfl,G1.out.2 _ (turn4 _ _ (.int .i64 0) (.int .i64 0) (.float .f64 0) (.bool false))⟩
theorem do_read (h:Gm W F0 b K w m) (hT:Shaped5 w) {n:Int} {x:Nat} {m':Mac} {a:Ask} (hR:∀ W F0 w,Gm W F0 b K w m→Calls Tryz.prog 147 #[.pointer (some ⟨b,0,none⟩)] w fun r w'=>r=.returned (askV a)∧Gm W F0 b K w' m') (hF:∀ W F0 w,Gm W F0 b K w m→Shaped5 w→Calls Tryz.prog 146 #[.pointer (some ⟨b,0,none⟩),.agg #[.int .i64 16,.int .i64 n,.float .f64 x]] w fun r w'=>r=.returned (.tuple #[])∧Below w.heap.size w w'):Calls Tryz.prog 137 #[.pointer (some ⟨b,0,none⟩),.agg #[.int .i64 16,.int .i64 n,.float .f64 x]] w fun r w'=>r=.returned (askV a)∧Gm W F0 b K w' m':=by
 obtain ⟨F,h1,hX⟩:=h.both ⟨16,n,x⟩
 have HF:=Lib.hid (hF _ _ _ h1 (both_shaped hT _))
 have HG:=Lib.hid h1
 have HX:=Lib.hid hX
 have HR:=Lib.hid hR
 clear h h1 hX hT hF hR
 go_enter Tryz.func137,Tryz.ntmps137
 go_wp2_with (first
  | (go_at_call 147;refine (HR.out _ _ _ G0.out).mono ?_;rintro e u1 ⟨rfl,q⟩;obtain ⟨r1,r2,r3⟩:=HX.out _ _ q;obtain ⟨⟨d0,d1,d2,d3,d4⟩,d5,d6,d7,d8⟩:=askO_cells r2;have G1:=Lib.hid (And.intro r2 r3);clear q r1 r2 r3;unfold askV)
  | (go_at_call 146;refine HF.out.mono ?_;rintro e u0 ⟨rfl,q⟩;have q0:=HG.out.on q;obtain ⟨r1,r2,r3⟩:=HX.out _ _ q0;obtain ⟨c0,c1,c2,c3⟩:=insO_cells r1;obtain ⟨⟨k0,k1,k2,k3,k4⟩,k5,k6,k7,k8⟩:=askO_cells r2;have G0:=Lib.hid q0;clear q q0 r1 r2 r3))
 exact ask_back rfl (w.heap.size+1) a rfl (askO_set (k':=a) G1.out.1) rfl ⟨rfl,G1.out.2 _ (turn4 _ _ (.int .i64 a.kind) (.int .i64 a.cell) (.float .f64 a.x) (.bool a.first))⟩
theorem do_write (h:Gm W F0 b K w m) (hT:Shaped5 w) {n:Int} {x:Nat} {m':Mac} {a:Ask} (hR:∀ W F0 w,Gm W F0 b K w m→Calls Tryz.prog 148 #[.pointer (some ⟨b,0,none⟩)] w fun r w'=>r=.returned (askV a)∧Gm W F0 b K w' m') (hF:∀ W F0 w,Gm W F0 b K w m→Shaped5 w→Calls Tryz.prog 146 #[.pointer (some ⟨b,0,none⟩),.agg #[.int .i64 17,.int .i64 n,.float .f64 x]] w fun r w'=>r=.returned (.tuple #[])∧Below w.heap.size w w'):Calls Tryz.prog 137 #[.pointer (some ⟨b,0,none⟩),.agg #[.int .i64 17,.int .i64 n,.float .f64 x]] w fun r w'=>r=.returned (askV a)∧Gm W F0 b K w' m':=by
 obtain ⟨F,h1,hX⟩:=h.both ⟨17,n,x⟩
 have HF:=Lib.hid (hF _ _ _ h1 (both_shaped hT _))
 have HG:=Lib.hid h1
 have HX:=Lib.hid hX
 have HR:=Lib.hid hR
 clear h h1 hX hT hF hR
 go_enter Tryz.func137,Tryz.ntmps137
 go_wp2_with (first
  | (go_at_call 148;refine (HR.out _ _ _ G0.out).mono ?_;rintro e u1 ⟨rfl,q⟩;obtain ⟨r1,r2,r3⟩:=HX.out _ _ q;obtain ⟨⟨d0,d1,d2,d3,d4⟩,d5,d6,d7,d8⟩:=askO_cells r2;have G1:=Lib.hid (And.intro r2 r3);clear q r1 r2 r3;unfold askV)
  | (go_at_call 146;refine HF.out.mono ?_;rintro e u0 ⟨rfl,q⟩;have q0:=HG.out.on q;obtain ⟨r1,r2,r3⟩:=HX.out _ _ q0;obtain ⟨c0,c1,c2,c3⟩:=insO_cells r1;obtain ⟨⟨k0,k1,k2,k3,k4⟩,k5,k6,k7,k8⟩:=askO_cells r2;have G0:=Lib.hid q0;clear q q0 r1 r2 r3))
 exact ask_back rfl (w.heap.size+1) a rfl (askO_set (k':=a) G1.out.1) rfl ⟨rfl,G1.out.2 _ (turn4 _ _ (.int .i64 a.kind) (.int .i64 a.cell) (.float .f64 a.x) (.bool a.first))⟩
theorem do_ret (h:Gm W F0 b K w m) (hT:Shaped5 w) {n:Int} {x:Nat} {m':Mac} {a:Ask} (hR:∀ W F0 w,Gm W F0 b K w m→Calls Tryz.prog 149 #[.pointer (some ⟨b,0,none⟩)] w fun r w'=>r=.returned (askV a)∧Gm W F0 b K w' m') (hF:∀ W F0 w,Gm W F0 b K w m→Shaped5 w→Calls Tryz.prog 146 #[.pointer (some ⟨b,0,none⟩),.agg #[.int .i64 15,.int .i64 n,.float .f64 x]] w fun r w'=>r=.returned (.tuple #[])∧Below w.heap.size w w'):Calls Tryz.prog 137 #[.pointer (some ⟨b,0,none⟩),.agg #[.int .i64 15,.int .i64 n,.float .f64 x]] w fun r w'=>r=.returned (askV a)∧Gm W F0 b K w' m':=by
 obtain ⟨F,h1,hX⟩:=h.both ⟨15,n,x⟩
 have HF:=Lib.hid (hF _ _ _ h1 (both_shaped hT _))
 have HG:=Lib.hid h1
 have HX:=Lib.hid hX
 have HR:=Lib.hid hR
 clear h h1 hX hT hF hR
 go_enter Tryz.func137,Tryz.ntmps137
 go_wp2_with (first
  | (go_at_call 149;refine (HR.out _ _ _ G0.out).mono ?_;rintro e u1 ⟨rfl,q⟩;obtain ⟨r1,r2,r3⟩:=HX.out _ _ q;obtain ⟨⟨d0,d1,d2,d3,d4⟩,d5,d6,d7,d8⟩:=askO_cells r2;have G1:=Lib.hid (And.intro r2 r3);clear q r1 r2 r3;unfold askV)
  | (go_at_call 146;refine HF.out.mono ?_;rintro e u0 ⟨rfl,q⟩;have q0:=HG.out.on q;obtain ⟨r1,r2,r3⟩:=HX.out _ _ q0;obtain ⟨c0,c1,c2,c3⟩:=insO_cells r1;obtain ⟨⟨k0,k1,k2,k3,k4⟩,k5,k6,k7,k8⟩:=askO_cells r2;have G0:=Lib.hid q0;clear q q0 r1 r2 r3))
 exact ask_back rfl (w.heap.size+1) a rfl (askO_set (k':=a) G1.out.1) rfl ⟨rfl,G1.out.2 _ (turn4 _ _ (.int .i64 a.kind) (.int .i64 a.cell) (.float .f64 a.x) (.bool a.first))⟩
theorem do_read_no (h:Gm W F0 b K w m) (hT:Shaped5 w) {n:Int} {x:Nat} {e0:Int} (hR:∀ W F0 w,Gm W F0 b K w m→Calls Tryz.prog 147 #[.pointer (some ⟨b,0,none⟩)] w fun r w'=>r=gaveM e0∧Gm W F0 b K w' m) (hF:∀ W F0 w,Gm W F0 b K w m→Shaped5 w→Calls Tryz.prog 146 #[.pointer (some ⟨b,0,none⟩),.agg #[.int .i64 16,.int .i64 n,.float .f64 x]] w fun r w'=>r=.returned (.tuple #[])∧Below w.heap.size w w'):Calls Tryz.prog 137 #[.pointer (some ⟨b,0,none⟩),.agg #[.int .i64 16,.int .i64 n,.float .f64 x]] w fun r w'=>r=gaveM e0∧Gm W F0 b K w' m:=by
 obtain ⟨F,h1,hX⟩:=h.both ⟨16,n,x⟩
 have HF:=Lib.hid (hF _ _ _ h1 (both_shaped hT _))
 have HG:=Lib.hid h1
 have HX:=Lib.hid hX
 have HR:=Lib.hid hR
 clear h h1 hX hT hF hR
 go_enter Tryz.func137,Tryz.ntmps137
 go_wp2_with (first
  | (go_at_call 147;refine (HR.out _ _ _ G0.out).mono ?_;rintro e u1 ⟨rfl,q⟩;have G1:=Lib.hid ((HX.out _ _ q).2.2 _ (Turn.refl _ _));clear q)
  | (go_at_call 146;refine HF.out.mono ?_;rintro e u0 ⟨rfl,q⟩;have q0:=HG.out.on q;obtain ⟨r1,r2,r3⟩:=HX.out _ _ q0;obtain ⟨c0,c1,c2,c3⟩:=insO_cells r1;obtain ⟨⟨k0,k1,k2,k3,k4⟩,k5,k6,k7,k8⟩:=askO_cells r2;have G0:=Lib.hid q0;clear q q0 r1 r2 r3))
 exact ⟨rfl,rfl,G1.out⟩
theorem do_write_no (h:Gm W F0 b K w m) (hT:Shaped5 w) {n:Int} {x:Nat} {e0:Int} (hR:∀ W F0 w,Gm W F0 b K w m→Calls Tryz.prog 148 #[.pointer (some ⟨b,0,none⟩)] w fun r w'=>r=gaveM e0∧Gm W F0 b K w' m) (hF:∀ W F0 w,Gm W F0 b K w m→Shaped5 w→Calls Tryz.prog 146 #[.pointer (some ⟨b,0,none⟩),.agg #[.int .i64 17,.int .i64 n,.float .f64 x]] w fun r w'=>r=.returned (.tuple #[])∧Below w.heap.size w w'):Calls Tryz.prog 137 #[.pointer (some ⟨b,0,none⟩),.agg #[.int .i64 17,.int .i64 n,.float .f64 x]] w fun r w'=>r=gaveM e0∧Gm W F0 b K w' m:=by
 obtain ⟨F,h1,hX⟩:=h.both ⟨17,n,x⟩
 have HF:=Lib.hid (hF _ _ _ h1 (both_shaped hT _))
 have HG:=Lib.hid h1
 have HX:=Lib.hid hX
 have HR:=Lib.hid hR
 clear h h1 hX hT hF hR
 go_enter Tryz.func137,Tryz.ntmps137
 go_wp2_with (first
  | (go_at_call 148;refine (HR.out _ _ _ G0.out).mono ?_;rintro e u1 ⟨rfl,q⟩;have G1:=Lib.hid ((HX.out _ _ q).2.2 _ (Turn.refl _ _));clear q)
  | (go_at_call 146;refine HF.out.mono ?_;rintro e u0 ⟨rfl,q⟩;have q0:=HG.out.on q;obtain ⟨r1,r2,r3⟩:=HX.out _ _ q0;obtain ⟨c0,c1,c2,c3⟩:=insO_cells r1;obtain ⟨⟨k0,k1,k2,k3,k4⟩,k5,k6,k7,k8⟩:=askO_cells r2;have G0:=Lib.hid q0;clear q q0 r1 r2 r3))
 exact ⟨rfl,rfl,G1.out⟩
theorem do_19 (h:Gm W F0 b K w m) (hT:Shaped5 w) {n:Int} {x:Nat} (hF:∀ W F0 w,Gm W F0 b K w m→Shaped5 w→Calls Tryz.prog 146 #[.pointer (some ⟨b,0,none⟩),.agg #[.int .i64 19,.int .i64 n,.float .f64 x]] w fun r w'=>r=.returned (.tuple #[])∧Below w.heap.size w w'):Calls Tryz.prog 137 #[.pointer (some ⟨b,0,none⟩),.agg #[.int .i64 19,.int .i64 n,.float .f64 x]] w fun r w'=>r=.returned (askV askEnd)∧Gm W F0 b K w' { m with how:=2,cod:=n,err:=0 }:=by
 obtain ⟨F,h1,hX⟩:=h.both ⟨19,n,x⟩
 have HF:=Lib.hid (hF _ _ _ h1 (both_shaped hT _))
 have HG:=Lib.hid h1
 have HX:=Lib.hid hX
 clear h h1 hX hT hF
 go_enter Tryz.func137,Tryz.ntmps137
 go_wp2_with (first
  | (go_at_call 136;refine (ends_any G0.out 2 n 0).mono ?_;rintro e u1 ⟨rfl,q⟩;obtain ⟨r1,r2,r3⟩:=HX.out _ _ q;obtain ⟨⟨d0,d1,d2,d3,d4⟩,d5,d6,d7,d8⟩:=askO_cells r2;have G1:=Lib.hid (And.intro r2 r3);clear q r1 r2 r3;unfold askV)
  | (go_at_call 146;refine HF.out.mono ?_;rintro e u0 ⟨rfl,q⟩;have q0:=HG.out.on q;obtain ⟨r1,r2,r3⟩:=HX.out _ _ q0;obtain ⟨c0,c1,c2,c3⟩:=insO_cells r1;obtain ⟨⟨k0,k1,k2,k3,k4⟩,k5,k6,k7,k8⟩:=askO_cells r2;have G0:=Lib.hid q0;clear q q0 r1 r2 r3))
 exact ask_back rfl (w.heap.size+1) askEnd rfl (askO_set (k':=askEnd) G1.out.1) rfl ⟨rfl,G1.out.2 _ (turn4 _ _ (.int .i64 4) (.int .i64 0) (.float .f64 0) (.bool false))⟩
theorem do_20 (h:Gm W F0 b K w m) (hT:Shaped5 w) {n:Int} {x:Nat} (hF:∀ W F0 w,Gm W F0 b K w m→Shaped5 w→Calls Tryz.prog 146 #[.pointer (some ⟨b,0,none⟩),.agg #[.int .i64 20,.int .i64 n,.float .f64 x]] w fun r w'=>r=.returned (.tuple #[])∧Below w.heap.size w w'):Calls Tryz.prog 137 #[.pointer (some ⟨b,0,none⟩),.agg #[.int .i64 20,.int .i64 n,.float .f64 x]] w fun r w'=>r=.returned (askV askEnd)∧Gm W F0 b K w' { m with how:=1,cod:=0,err:=0 }:=by
 obtain ⟨F,h1,hX⟩:=h.both ⟨20,n,x⟩
 have HF:=Lib.hid (hF _ _ _ h1 (both_shaped hT _))
 have HG:=Lib.hid h1
 have HX:=Lib.hid hX
 clear h h1 hX hT hF
 go_enter Tryz.func137,Tryz.ntmps137
 go_wp2_with (first
  | (go_at_call 136;refine (ends_any G0.out 1 0 0).mono ?_;rintro e u1 ⟨rfl,q⟩;obtain ⟨r1,r2,r3⟩:=HX.out _ _ q;obtain ⟨⟨d0,d1,d2,d3,d4⟩,d5,d6,d7,d8⟩:=askO_cells r2;have G1:=Lib.hid (And.intro r2 r3);clear q r1 r2 r3;unfold askV)
  | (go_at_call 146;refine HF.out.mono ?_;rintro e u0 ⟨rfl,q⟩;have q0:=HG.out.on q;obtain ⟨r1,r2,r3⟩:=HX.out _ _ q0;obtain ⟨c0,c1,c2,c3⟩:=insO_cells r1;obtain ⟨⟨k0,k1,k2,k3,k4⟩,k5,k6,k7,k8⟩:=askO_cells r2;have G0:=Lib.hid q0;clear q q0 r1 r2 r3))
 exact ask_back rfl (w.heap.size+1) askEnd rfl (askO_set (k':=askEnd) G1.out.1) rfl ⟨rfl,G1.out.2 _ (turn4 _ _ (.int .i64 4) (.int .i64 0) (.float .f64 0) (.bool false))⟩
theorem do_unfit {k:Nat} {n:Int} {x:Nat} (h:Gm W F0 b K w m) (hT:Shaped5 w) (hF:∀ W F0 w,Gm W F0 b K w m→Shaped5 w→Calls Tryz.prog 146 #[.pointer (some ⟨b,0,none⟩),.agg #[.int .i64 (k:Int),.int .i64 n,.float .f64 x]] w fun r w'=>r=gaveM 82∧Below w.heap.size w w'):Calls Tryz.prog 137 #[.pointer (some ⟨b,0,none⟩),.agg #[.int .i64 (k:Int),.int .i64 n,.float .f64 x]] w fun r w'=>r=gaveM 82∧Gm W F0 b K w' m:=by
 obtain ⟨F,h1,hX⟩:=h.both ⟨(k:Int),n,x⟩
 have HF:=Lib.hid (hF _ _ _ h1 (both_shaped hT _))
 have HG:=Lib.hid h1
 have HX:=Lib.hid hX
 clear h h1 hX hT hF
 go_enter Tryz.func137,Tryz.ntmps137
 go_wp2_with (go_at_call 146;refine HF.out.mono ?_;rintro e u0 ⟨rfl,q⟩;have G1:=Lib.hid ((HX.out _ _ (HG.out.on q)).2.2 _ (Turn.refl _ _));clear q)
 exact ⟨rfl,rfl,G1.out⟩
end
end Go.Proofs.YteinilmecnlanabGreatDoor
namespace Go.Proofs.YteinilmecnlanabGreatDoor
open Go.ChangeShapes Go.WideShapes Go.ChangeAt Go.RowKit Num
def doF (m:Mac) (i:Ins):Mac × Ask:=if roomB m i then doM m i else failM m 82
theorem st1 {l:List Nat} (h:1≤l.length):∃ y s,l=y::s:=by
 match l,h with
 | y::s,_=>exact ⟨y,s,rfl⟩
theorem st2 {l:List Nat} (h:2≤l.length):∃ y z s,l=y::z::s:=by
 match l,h with
 | y::z::s,_=>exact ⟨y,z,s,rfl⟩
 | [y],h=>exact absurd h (by simp)
theorem room_parts {m:Mac} {k:Nat} {n:Int} {x:Nat} (h:roomB m ⟨k,n,x⟩=true):(k≠5→(shp k).takes≤(m.st.length:Int))∧(k=5→n+1≤(m.st.length:Int))∧(m.st.length:Int) - (shp k).takes+(shp k).lays≤64∧(k=14→m.calls.length<16):=by
 unfold roomB leastI takesI laysI at h
 simp only [Int.toNat_natCast,Bool.and_eq_true,decide_eq_true_eq,Bool.not_eq_true',Bool.and_eq_false_iff,decide_eq_false_iff_not] at h
 obtain ⟨⟨h1,h2⟩,h3⟩:=h
 refine ⟨fun hk=>?_,fun hk=>?_,h2,fun hk=>?_⟩
 ·rw [if_neg (by omega)] at h1
  exact h1
 ·rw [if_pos (by omega)] at h1
  exact h1
 ·rcases h3 with h3 | h3
  ·exact absurd (by omega) h3
  ·omega
theorem fits_parts {k:Nat} {n:Int} {x many:Nat} (h:mayB ⟨k,n,x⟩ many=true):(1≤k∧k<21)∧(shp k).lo≤n∧n≤(shp k).hi:=by
 unfold mayB knownB fitsB at h
 simp only [Bool.and_eq_true,decide_eq_true_eq,Int.toNat_natCast] at h
 omega
theorem retM_nil {m:Mac} (h:m.calls=[]):retM m=({ m with how:=1,cod:=0,err:=0 },askEnd):=by
 unfold retM
 split
 ·rfl
 ·rename_i q;rw [h] at q;cases q
theorem retM_cons {m:Mac} {c:Int} {r:List Int} (h:m.calls=c::r):retM m=({ m with calls:=r,place:=c },ask0):=by
 unfold retM
 split
 ·rename_i q;rw [h] at q;cases q
 ·rename_i q;rw [h] at q;cases q;rfl
section
variable {W w:World} {b:Nat} {F0 K:List Nat} {m:Mac}
theorem do_k1 (h:Gm W F0 b K w m) (hT:Shaped5 w) {n:Int} {x:Nat} (_hlo:(shp 1).lo≤n) (_hhi:n≤(shp 1).hi) (_hst:∀ x∈m.st,okN x) (_hcl:m.cells≤256) (_hre:m.reads.length≤1024) (_hou:m.out.length≤1024)
  (hF:∀ W F0 w,Gm W F0 b K w m→Shaped5 w→Calls Tryz.prog 146 #[.pointer (some ⟨b,0,none⟩),.agg #[.int .i64 ((1:Nat):Int),.int .i64 n,.float .f64 x]] w fun r w'=>r=.returned (.tuple #[])∧Below w.heap.size w w')
  (_r1:1≠5→(shp 1).takes≤(m.st.length:Int)) (_r2:1=5→n+1≤(m.st.length:Int)) (r3:(m.st.length:Int) - (shp 1).takes+(shp 1).lays≤64) (_r4:1=14→m.calls.length<16) :
  Calls Tryz.prog 137 #[.pointer (some ⟨b,0,none⟩),.agg #[.int .i64 ((1:Nat):Int),.int .i64 n,.float .f64 x]] w fun r w'=>Done W F0 b K m (doM m ⟨((1:Nat):Int),n,x⟩) r w':=by
 change (m.st.length:Int) - 0+1≤64 at r3
 exact (do_A h hT (k:=1) (by omega) (by omega) (by omega) (by omega) (by omega) (by omega) (by omega) (by omega) (by omega) (fun W F0 w h=>reckon_1 h n x (by omega)) hF).mono fun r w' ⟨a1,a2⟩=>.inr ⟨a1,by rw [show (doM m ⟨(1:Nat),n,x⟩).1={ m with st:=fixB x::m.st } from rfl];exact a2⟩
theorem do_k2 (h:Gm W F0 b K w m) (hT:Shaped5 w) {n:Int} {x:Nat} (_hlo:(shp 2).lo≤n) (_hhi:n≤(shp 2).hi) (_hst:∀ x∈m.st,okN x) (_hcl:m.cells≤256) (_hre:m.reads.length≤1024) (_hou:m.out.length≤1024)
  (hF:∀ W F0 w,Gm W F0 b K w m→Shaped5 w→Calls Tryz.prog 146 #[.pointer (some ⟨b,0,none⟩),.agg #[.int .i64 ((2:Nat):Int),.int .i64 n,.float .f64 x]] w fun r w'=>r=.returned (.tuple #[])∧Below w.heap.size w w')
  (r1:2≠5→(shp 2).takes≤(m.st.length:Int)) (_r2:2=5→n+1≤(m.st.length:Int)) (_r3:(m.st.length:Int) - (shp 2).takes+(shp 2).lays≤64) (_r4:2=14→m.calls.length<16) :
  Calls Tryz.prog 137 #[.pointer (some ⟨b,0,none⟩),.agg #[.int .i64 ((2:Nat):Int),.int .i64 n,.float .f64 x]] w fun r w'=>Done W F0 b K m (doM m ⟨((2:Nat):Int),n,x⟩) r w':=by
 obtain ⟨y,s,hs⟩:=st1 (l:=m.st) (by have:=r1 (by omega);change (1:Int)≤_ at this;omega)
 exact (do_A h hT (k:=2) (by omega) (by omega) (by omega) (by omega) (by omega) (by omega) (by omega) (by omega) (by omega) (fun W F0 w h=>reckon_2 h n x hs) hF).mono fun r w' ⟨a1,a2⟩=>.inr ⟨a1,by rw [show (doM m ⟨(2:Nat),n,x⟩).1={ m with st:=s } from by show ({ m with st:=m.st.drop 1 }:Mac)=_;rw [hs];rfl];exact a2⟩
theorem do_k3 (h:Gm W F0 b K w m) (hT:Shaped5 w) {n:Int} {x:Nat} (_hlo:(shp 3).lo≤n) (_hhi:n≤(shp 3).hi) (_hst:∀ x∈m.st,okN x) (_hcl:m.cells≤256) (_hre:m.reads.length≤1024) (_hou:m.out.length≤1024)
  (hF:∀ W F0 w,Gm W F0 b K w m→Shaped5 w→Calls Tryz.prog 146 #[.pointer (some ⟨b,0,none⟩),.agg #[.int .i64 ((3:Nat):Int),.int .i64 n,.float .f64 x]] w fun r w'=>r=.returned (.tuple #[])∧Below w.heap.size w w')
  (r1:3≠5→(shp 3).takes≤(m.st.length:Int)) (_r2:3=5→n+1≤(m.st.length:Int)) (r3:(m.st.length:Int) - (shp 3).takes+(shp 3).lays≤64) (_r4:3=14→m.calls.length<16) :
  Calls Tryz.prog 137 #[.pointer (some ⟨b,0,none⟩),.agg #[.int .i64 ((3:Nat):Int),.int .i64 n,.float .f64 x]] w fun r w'=>Done W F0 b K m (doM m ⟨((3:Nat):Int),n,x⟩) r w':=by
 change (m.st.length:Int) - 1+2≤64 at r3
 have r0:=r1 (by omega)
 change (1:Int)≤_ at r0
 exact (do_A h hT (k:=3) (by omega) (by omega) (by omega) (by omega) (by omega) (by omega) (by omega) (by omega) (by omega) (fun W F0 w h=>reckon_3 h n x (by omega) (by omega)) hF).mono fun r w' ⟨a1,a2⟩=>.inr ⟨a1,by rw [show (doM m ⟨(3:Nat),n,x⟩).1={ m with st:=m.st.getD 0 0::m.st } from rfl];exact a2⟩
theorem do_k4 (h:Gm W F0 b K w m) (hT:Shaped5 w) {n:Int} {x:Nat} (_hlo:(shp 4).lo≤n) (_hhi:n≤(shp 4).hi) (_hst:∀ x∈m.st,okN x) (_hcl:m.cells≤256) (_hre:m.reads.length≤1024) (_hou:m.out.length≤1024)
  (hF:∀ W F0 w,Gm W F0 b K w m→Shaped5 w→Calls Tryz.prog 146 #[.pointer (some ⟨b,0,none⟩),.agg #[.int .i64 ((4:Nat):Int),.int .i64 n,.float .f64 x]] w fun r w'=>r=.returned (.tuple #[])∧Below w.heap.size w w')
  (r1:4≠5→(shp 4).takes≤(m.st.length:Int)) (_r2:4=5→n+1≤(m.st.length:Int)) (r3:(m.st.length:Int) - (shp 4).takes+(shp 4).lays≤64) (_r4:4=14→m.calls.length<16) :
  Calls Tryz.prog 137 #[.pointer (some ⟨b,0,none⟩),.agg #[.int .i64 ((4:Nat):Int),.int .i64 n,.float .f64 x]] w fun r w'=>Done W F0 b K m (doM m ⟨((4:Nat):Int),n,x⟩) r w':=by
 obtain ⟨y,z,s,hs⟩:=st2 (l:=m.st) (by have:=r1 (by omega);change (2:Int)≤_ at this;omega)
 change (m.st.length:Int) - 2+2≤64 at r3
 exact (do_A h hT (k:=4) (by omega) (by omega) (by omega) (by omega) (by omega) (by omega) (by omega) (by omega) (by omega) (fun W F0 w h=>reckon_4 h n x hs (by rw [hs] at r3;simp at r3;omega)) hF).mono fun r w' ⟨a1,a2⟩=>.inr ⟨a1,by rw [show (doM m ⟨(4:Nat),n,x⟩).1={ m with st:=z::y::s } from by show ({ m with st:=m.st.getD 1 0::m.st.getD 0 0::m.st.drop 2 }:Mac)=_;rw [hs];rfl];exact a2⟩
theorem do_k5 (h:Gm W F0 b K w m) (hT:Shaped5 w) {n:Int} {x:Nat} (hlo:(shp 5).lo≤n) (_hhi:n≤(shp 5).hi) (_hst:∀ x∈m.st,okN x) (_hcl:m.cells≤256) (_hre:m.reads.length≤1024) (_hou:m.out.length≤1024)
  (hF:∀ W F0 w,Gm W F0 b K w m→Shaped5 w→Calls Tryz.prog 146 #[.pointer (some ⟨b,0,none⟩),.agg #[.int .i64 ((5:Nat):Int),.int .i64 n,.float .f64 x]] w fun r w'=>r=.returned (.tuple #[])∧Below w.heap.size w w')
  (_r1:5≠5→(shp 5).takes≤(m.st.length:Int)) (r2:5=5→n+1≤(m.st.length:Int)) (r3:(m.st.length:Int) - (shp 5).takes+(shp 5).lays≤64) (_r4:5=14→m.calls.length<16) :
  Calls Tryz.prog 137 #[.pointer (some ⟨b,0,none⟩),.agg #[.int .i64 ((5:Nat):Int),.int .i64 n,.float .f64 x]] w fun r w'=>Done W F0 b K m (doM m ⟨((5:Nat):Int),n,x⟩) r w':=by
 obtain ⟨q,rfl⟩:∃ q:Nat,n=q:=⟨n.toNat,by change (0:Int)≤n at hlo;omega⟩
 change (m.st.length:Int) - 0+1≤64 at r3
 have r0:=r2 rfl
 exact (do_A h hT (k:=5) (by omega) (by omega) (by omega) (by omega) (by omega) (by omega) (by omega) (by omega) (by omega) (fun W F0 w h=>reckon_5 h _ x rfl (by omega) (by omega)) hF).mono fun r w' ⟨a1,a2⟩=>.inr ⟨a1,by rw [show (doM m ⟨(5:Nat),(q:Int),x⟩).1={ m with st:=m.st.getD q 0::m.st } from rfl];exact a2⟩
theorem do_k6 (h:Gm W F0 b K w m) (hT:Shaped5 w) {n:Int} {x:Nat} (hlo:(shp 6).lo≤n) (hhi:n≤(shp 6).hi) (_hst:∀ x∈m.st,okN x) (_hcl:m.cells≤256) (_hre:m.reads.length≤1024) (_hou:m.out.length≤1024)
  (hF:∀ W F0 w,Gm W F0 b K w m→Shaped5 w→Calls Tryz.prog 146 #[.pointer (some ⟨b,0,none⟩),.agg #[.int .i64 ((6:Nat):Int),.int .i64 n,.float .f64 x]] w fun r w'=>r=.returned (.tuple #[])∧Below w.heap.size w w')
  (_r1:6≠5→(shp 6).takes≤(m.st.length:Int)) (_r2:6=5→n+1≤(m.st.length:Int)) (r3:(m.st.length:Int) - (shp 6).takes+(shp 6).lays≤64) (_r4:6=14→m.calls.length<16) :
  Calls Tryz.prog 137 #[.pointer (some ⟨b,0,none⟩),.agg #[.int .i64 ((6:Nat):Int),.int .i64 n,.float .f64 x]] w fun r w'=>Done W F0 b K m (doM m ⟨((6:Nat):Int),n,x⟩) r w':=by
 obtain ⟨q,rfl⟩:∃ q:Nat,n=q:=⟨n.toNat,by change (0:Int)≤n at hlo;omega⟩
 change _≤(7:Int) at hhi
 change (m.st.length:Int) - 0+1≤64 at r3
 exact (do_A h hT (k:=6) (by omega) (by omega) (by omega) (by omega) (by omega) (by omega) (by omega) (by omega) (by omega) (fun W F0 w h=>reckon_6 h _ x rfl (by omega) (by omega)) hF).mono fun r w' ⟨a1,a2⟩=>.inr ⟨a1,by rw [show (doM m ⟨(6:Nat),(q:Int),x⟩).1={ m with st:=m.args q::m.st } from rfl];exact a2⟩
theorem do_k7 (h:Gm W F0 b K w m) (hT:Shaped5 w) {n:Int} {x:Nat} (hlo:(shp 7).lo≤n) (hhi:n≤(shp 7).hi) (_hst:∀ x∈m.st,okN x) (_hcl:m.cells≤256) (_hre:m.reads.length≤1024) (_hou:m.out.length≤1024)
  (hF:∀ W F0 w,Gm W F0 b K w m→Shaped5 w→Calls Tryz.prog 146 #[.pointer (some ⟨b,0,none⟩),.agg #[.int .i64 ((7:Nat):Int),.int .i64 n,.float .f64 x]] w fun r w'=>r=.returned (.tuple #[])∧Below w.heap.size w w')
  (_r1:7≠5→(shp 7).takes≤(m.st.length:Int)) (_r2:7=5→n+1≤(m.st.length:Int)) (r3:(m.st.length:Int) - (shp 7).takes+(shp 7).lays≤64) (_r4:7=14→m.calls.length<16) :
  Calls Tryz.prog 137 #[.pointer (some ⟨b,0,none⟩),.agg #[.int .i64 ((7:Nat):Int),.int .i64 n,.float .f64 x]] w fun r w'=>Done W F0 b K m (doM m ⟨((7:Nat):Int),n,x⟩) r w':=by
 obtain ⟨q,rfl⟩:∃ q:Nat,n=q:=⟨n.toNat,by change (0:Int)≤n at hlo;omega⟩
 change _≤(7:Int) at hhi
 change (m.st.length:Int) - 0+1≤64 at r3
 exact (do_A h hT (k:=7) (by omega) (by omega) (by omega) (by omega) (by omega) (by omega) (by omega) (by omega) (by omega) (fun W F0 w h=>reckon_7 h _ x rfl (by omega) (by omega)) hF).mono fun r w' ⟨a1,a2⟩=>.inr ⟨a1,by rw [show (doM m ⟨(7:Nat),(q:Int),x⟩).1={ m with st:=m.loc q::m.st } from rfl];exact a2⟩
theorem do_k8 (h:Gm W F0 b K w m) (hT:Shaped5 w) {n:Int} {x:Nat} (hlo:(shp 8).lo≤n) (hhi:n≤(shp 8).hi) (_hst:∀ x∈m.st,okN x) (_hcl:m.cells≤256) (_hre:m.reads.length≤1024) (_hou:m.out.length≤1024)
  (hF:∀ W F0 w,Gm W F0 b K w m→Shaped5 w→Calls Tryz.prog 146 #[.pointer (some ⟨b,0,none⟩),.agg #[.int .i64 ((8:Nat):Int),.int .i64 n,.float .f64 x]] w fun r w'=>r=.returned (.tuple #[])∧Below w.heap.size w w')
  (r1:8≠5→(shp 8).takes≤(m.st.length:Int)) (_r2:8=5→n+1≤(m.st.length:Int)) (_r3:(m.st.length:Int) - (shp 8).takes+(shp 8).lays≤64) (_r4:8=14→m.calls.length<16) :
  Calls Tryz.prog 137 #[.pointer (some ⟨b,0,none⟩),.agg #[.int .i64 ((8:Nat):Int),.int .i64 n,.float .f64 x]] w fun r w'=>Done W F0 b K m (doM m ⟨((8:Nat):Int),n,x⟩) r w':=by
 obtain ⟨q,rfl⟩:∃ q:Nat,n=q:=⟨n.toNat,by change (0:Int)≤n at hlo;omega⟩
 change _≤(7:Int) at hhi
 obtain ⟨y,s,hs⟩:=st1 (l:=m.st) (by have:=r1 (by omega);change (1:Int)≤_ at this;omega)
 exact (do_A h hT (k:=8) (by omega) (by omega) (by omega) (by omega) (by omega) (by omega) (by omega) (by omega) (by omega) (fun W F0 w h=>reckon_8 h _ x rfl (by omega) hs) hF).mono fun r w' ⟨a1,a2⟩=>.inr ⟨a1,by rw [show (doM m ⟨(8:Nat),(q:Int),x⟩).1={ m with loc:=updF m.loc q y,st:=s } from by show ({ m with loc:=updF m.loc q (m.st.getD 0 0),st:=m.st.drop 1 }:Mac)=_;rw [hs];rfl];exact a2⟩
theorem do_k9 (h:Gm W F0 b K w m) (hT:Shaped5 w) {n:Int} {x:Nat} (hlo:(shp 9).lo≤n) (hhi:n≤(shp 9).hi) (hst:∀ x∈m.st,okN x) (_hcl:m.cells≤256) (_hre:m.reads.length≤1024) (_hou:m.out.length≤1024)
  (hF:∀ W F0 w,Gm W F0 b K w m→Shaped5 w→Calls Tryz.prog 146 #[.pointer (some ⟨b,0,none⟩),.agg #[.int .i64 ((9:Nat):Int),.int .i64 n,.float .f64 x]] w fun r w'=>r=.returned (.tuple #[])∧Below w.heap.size w w')
  (r1:9≠5→(shp 9).takes≤(m.st.length:Int)) (_r2:9=5→n+1≤(m.st.length:Int)) (r3:(m.st.length:Int) - (shp 9).takes+(shp 9).lays≤64) (_r4:9=14→m.calls.length<16) :
  Calls Tryz.prog 137 #[.pointer (some ⟨b,0,none⟩),.agg #[.int .i64 ((9:Nat):Int),.int .i64 n,.float .f64 x]] w fun r w'=>Done W F0 b K m (doM m ⟨((9:Nat):Int),n,x⟩) r w':=by
 change _≤(8:Int) at hhi
 change (1:Int)≤_ at hlo
 obtain ⟨y,s,hs⟩:=st1 (l:=m.st) (by have:=r1 (by omega);change (1:Int)≤_ at this;omega)
 change (m.st.length:Int) - 1+1≤64 at r3
 exact (do_A h hT (k:=9) (by omega) (by omega) (by omega) (by omega) (by omega) (by omega) (by omega) (by omega) (by omega) (fun W F0 w h=>reckon_9 h n x ⟨hlo,hhi⟩ (hst y (by rw [hs];simp)) hs (by rw [hs] at r3;simp at r3;omega)) hF).mono fun r w' ⟨a1,a2⟩=>.inr ⟨a1,by rw [show (doM m ⟨(9:Nat),n,x⟩).1={ m with st:=oneV n y::s } from by show ({ m with st:=oneV n (m.st.getD 0 0)::m.st.drop 1 }:Mac)=_;rw [hs];rfl];exact a2⟩
theorem do_k10 (h:Gm W F0 b K w m) (hT:Shaped5 w) {n:Int} {x:Nat} (hlo:(shp 10).lo≤n) (hhi:n≤(shp 10).hi) (hst:∀ x∈m.st,okN x) (_hcl:m.cells≤256) (_hre:m.reads.length≤1024) (_hou:m.out.length≤1024)
  (hF:∀ W F0 w,Gm W F0 b K w m→Shaped5 w→Calls Tryz.prog 146 #[.pointer (some ⟨b,0,none⟩),.agg #[.int .i64 ((10:Nat):Int),.int .i64 n,.float .f64 x]] w fun r w'=>r=.returned (.tuple #[])∧Below w.heap.size w w')
  (r1:10≠5→(shp 10).takes≤(m.st.length:Int)) (_r2:10=5→n+1≤(m.st.length:Int)) (r3:(m.st.length:Int) - (shp 10).takes+(shp 10).lays≤64) (_r4:10=14→m.calls.length<16) :
  Calls Tryz.prog 137 #[.pointer (some ⟨b,0,none⟩),.agg #[.int .i64 ((10:Nat):Int),.int .i64 n,.float .f64 x]] w fun r w'=>Done W F0 b K m (doM m ⟨((10:Nat):Int),n,x⟩) r w':=by
 change _≤(12:Int) at hhi
 change (1:Int)≤_ at hlo
 obtain ⟨y,z,s,hs⟩:=st2 (l:=m.st) (by have:=r1 (by omega);change (2:Int)≤_ at this;omega)
 change (m.st.length:Int) - 2+1≤64 at r3
 exact (do_A h hT (k:=10) (by omega) (by omega) (by omega) (by omega) (by omega) (by omega) (by omega) (by omega) (by omega) (fun W F0 w h=>reckon_10 h n x ⟨hlo,hhi⟩ (hst y (by rw [hs];simp)) (hst z (by rw [hs];simp)) hs (by rw [hs] at r3;simp at r3;omega)) hF).mono fun r w' ⟨a1,a2⟩=>.inr ⟨a1,by rw [show (doM m ⟨(10:Nat),n,x⟩).1={ m with st:=twoV n z y::s } from by show ({ m with st:=twoV n (m.st.getD 1 0) (m.st.getD 0 0)::m.st.drop 2 }:Mac)=_;rw [hs];rfl];exact a2⟩
theorem do_k11 (h:Gm W F0 b K w m) (hT:Shaped5 w) {n:Int} {x:Nat} (_hlo:(shp 11).lo≤n) (_hhi:n≤(shp 11).hi) (_hst:∀ x∈m.st,okN x) (_hcl:m.cells≤256) (_hre:m.reads.length≤1024) (_hou:m.out.length≤1024)
  (hF:∀ W F0 w,Gm W F0 b K w m→Shaped5 w→Calls Tryz.prog 146 #[.pointer (some ⟨b,0,none⟩),.agg #[.int .i64 ((11:Nat):Int),.int .i64 n,.float .f64 x]] w fun r w'=>r=.returned (.tuple #[])∧Below w.heap.size w w')
  (_r1:11≠5→(shp 11).takes≤(m.st.length:Int)) (_r2:11=5→n+1≤(m.st.length:Int)) (_r3:(m.st.length:Int) - (shp 11).takes+(shp 11).lays≤64) (_r4:11=14→m.calls.length<16) :
  Calls Tryz.prog 137 #[.pointer (some ⟨b,0,none⟩),.agg #[.int .i64 ((11:Nat):Int),.int .i64 n,.float .f64 x]] w fun r w'=>Done W F0 b K m (doM m ⟨((11:Nat):Int),n,x⟩) r w':=by
 exact (do_B11 h hT (fun W F0 w h=>move_11 h n x) hF).mono fun r w' ⟨a1,a2⟩=>.inr ⟨a1,by rw [show (doM m ⟨(11:Nat),n,x⟩).1={ m with place:=n } from rfl];exact a2⟩
theorem do_k12 (h:Gm W F0 b K w m) (hT:Shaped5 w) {n:Int} {x:Nat} (_hlo:(shp 12).lo≤n) (_hhi:n≤(shp 12).hi) (_hst:∀ x∈m.st,okN x) (_hcl:m.cells≤256) (_hre:m.reads.length≤1024) (_hou:m.out.length≤1024)
  (hF:∀ W F0 w,Gm W F0 b K w m→Shaped5 w→Calls Tryz.prog 146 #[.pointer (some ⟨b,0,none⟩),.agg #[.int .i64 ((12:Nat):Int),.int .i64 n,.float .f64 x]] w fun r w'=>r=.returned (.tuple #[])∧Below w.heap.size w w')
  (r1:12≠5→(shp 12).takes≤(m.st.length:Int)) (_r2:12=5→n+1≤(m.st.length:Int)) (_r3:(m.st.length:Int) - (shp 12).takes+(shp 12).lays≤64) (_r4:12=14→m.calls.length<16) :
  Calls Tryz.prog 137 #[.pointer (some ⟨b,0,none⟩),.agg #[.int .i64 ((12:Nat):Int),.int .i64 n,.float .f64 x]] w fun r w'=>Done W F0 b K m (doM m ⟨((12:Nat):Int),n,x⟩) r w':=by
 obtain ⟨y,s,hs⟩:=st1 (l:=m.st) (by have:=r1 (by omega);change (1:Int)≤_ at this;omega)
 cases ht:trueB y with
 | true=>exact (do_B12 h hT (fun W F0 w h=>move_12y h n x hs ht) hF).mono fun r w' ⟨a1,a2⟩=>.inr ⟨a1,by rw [show (doM m ⟨(12:Nat),n,x⟩).1={ m with place:=n,st:=s } from by show ({ m with place:=if trueB (m.st.getD 0 0) then n else m.place,st:=m.st.drop 1 }:Mac)=_;rw [hs];simp [ht]];exact a2⟩
 | false=>exact (do_B12 h hT (fun W F0 w h=>move_12n h n x hs ht) hF).mono fun r w' ⟨a1,a2⟩=>.inr ⟨a1,by rw [show (doM m ⟨(12:Nat),n,x⟩).1={ m with st:=s } from by show ({ m with place:=if trueB (m.st.getD 0 0) then n else m.place,st:=m.st.drop 1 }:Mac)=_;rw [hs];simp [ht]];exact a2⟩
theorem do_k13 (h:Gm W F0 b K w m) (hT:Shaped5 w) {n:Int} {x:Nat} (_hlo:(shp 13).lo≤n) (_hhi:n≤(shp 13).hi) (_hst:∀ x∈m.st,okN x) (_hcl:m.cells≤256) (_hre:m.reads.length≤1024) (_hou:m.out.length≤1024)
  (hF:∀ W F0 w,Gm W F0 b K w m→Shaped5 w→Calls Tryz.prog 146 #[.pointer (some ⟨b,0,none⟩),.agg #[.int .i64 ((13:Nat):Int),.int .i64 n,.float .f64 x]] w fun r w'=>r=.returned (.tuple #[])∧Below w.heap.size w w')
  (r1:13≠5→(shp 13).takes≤(m.st.length:Int)) (_r2:13=5→n+1≤(m.st.length:Int)) (_r3:(m.st.length:Int) - (shp 13).takes+(shp 13).lays≤64) (_r4:13=14→m.calls.length<16) :
  Calls Tryz.prog 137 #[.pointer (some ⟨b,0,none⟩),.agg #[.int .i64 ((13:Nat):Int),.int .i64 n,.float .f64 x]] w fun r w'=>Done W F0 b K m (doM m ⟨((13:Nat):Int),n,x⟩) r w':=by
 obtain ⟨y,s,hs⟩:=st1 (l:=m.st) (by have:=r1 (by omega);change (1:Int)≤_ at this;omega)
 cases ht:trueB y with
 | true=>exact (do_B13 h hT (fun W F0 w h=>move_13y h n x hs ht) hF).mono fun r w' ⟨a1,a2⟩=>.inr ⟨a1,by rw [show (doM m ⟨(13:Nat),n,x⟩).1={ m with st:=s } from by show ({ m with place:=if trueB (m.st.getD 0 0) then m.place else n,st:=m.st.drop 1 }:Mac)=_;rw [hs];simp [ht]];exact a2⟩
 | false=>exact (do_B13 h hT (fun W F0 w h=>move_13n h n x hs ht) hF).mono fun r w' ⟨a1,a2⟩=>.inr ⟨a1,by rw [show (doM m ⟨(13:Nat),n,x⟩).1={ m with place:=n,st:=s } from by show ({ m with place:=if trueB (m.st.getD 0 0) then m.place else n,st:=m.st.drop 1 }:Mac)=_;rw [hs];simp [ht]];exact a2⟩
theorem do_k14 (h:Gm W F0 b K w m) (hT:Shaped5 w) {n:Int} {x:Nat} (_hlo:(shp 14).lo≤n) (_hhi:n≤(shp 14).hi) (_hst:∀ x∈m.st,okN x) (_hcl:m.cells≤256) (_hre:m.reads.length≤1024) (_hou:m.out.length≤1024)
  (hF:∀ W F0 w,Gm W F0 b K w m→Shaped5 w→Calls Tryz.prog 146 #[.pointer (some ⟨b,0,none⟩),.agg #[.int .i64 ((14:Nat):Int),.int .i64 n,.float .f64 x]] w fun r w'=>r=.returned (.tuple #[])∧Below w.heap.size w w')
  (_r1:14≠5→(shp 14).takes≤(m.st.length:Int)) (_r2:14=5→n+1≤(m.st.length:Int)) (_r3:(m.st.length:Int) - (shp 14).takes+(shp 14).lays≤64) (r4:14=14→m.calls.length<16) :
  Calls Tryz.prog 137 #[.pointer (some ⟨b,0,none⟩),.agg #[.int .i64 ((14:Nat):Int),.int .i64 n,.float .f64 x]] w fun r w'=>Done W F0 b K m (doM m ⟨((14:Nat):Int),n,x⟩) r w':=by
 exact (do_B14 h hT (fun W F0 w h=>move_14 h n x (r4 rfl)) hF).mono fun r w' ⟨a1,a2⟩=>.inr ⟨a1,by rw [show (doM m ⟨(14:Nat),n,x⟩).1={ m with calls:=m.place::m.calls,place:=n } from rfl];exact a2⟩
theorem do_k15 (h:Gm W F0 b K w m) (hT:Shaped5 w) {n:Int} {x:Nat} (_hlo:(shp 15).lo≤n) (_hhi:n≤(shp 15).hi) (_hst:∀ x∈m.st,okN x) (_hcl:m.cells≤256) (_hre:m.reads.length≤1024) (_hou:m.out.length≤1024)
  (hF:∀ W F0 w,Gm W F0 b K w m→Shaped5 w→Calls Tryz.prog 146 #[.pointer (some ⟨b,0,none⟩),.agg #[.int .i64 ((15:Nat):Int),.int .i64 n,.float .f64 x]] w fun r w'=>r=.returned (.tuple #[])∧Below w.heap.size w w')
  (_r1:15≠5→(shp 15).takes≤(m.st.length:Int)) (_r2:15=5→n+1≤(m.st.length:Int)) (_r3:(m.st.length:Int) - (shp 15).takes+(shp 15).lays≤64) (_r4:15=14→m.calls.length<16) :
  Calls Tryz.prog 137 #[.pointer (some ⟨b,0,none⟩),.agg #[.int .i64 ((15:Nat):Int),.int .i64 n,.float .f64 x]] w fun r w'=>Done W F0 b K m (doM m ⟨((15:Nat):Int),n,x⟩) r w':=by
 refine (do_ret h hT (m':=(retM m).1) (a:=(retM m).2) (fun W F0 w h=>?_) hF).mono fun r w' ⟨a1,a2⟩=>.inr ⟨a1,a2⟩
 cases hc:m.calls with
 | nil=>exact (ret_end h hc).mono fun r w' ⟨a1,a2⟩=>⟨by rw [a1,retM_nil hc],by rw [retM_nil hc];exact a2⟩
 | cons c q=>exact (ret_back h hc).mono fun r w' ⟨a1,a2⟩=>⟨by rw [a1,retM_cons hc],by rw [retM_cons hc];exact a2⟩
theorem do_k16 (h:Gm W F0 b K w m) (hT:Shaped5 w) {n:Int} {x:Nat} (_hlo:(shp 16).lo≤n) (_hhi:n≤(shp 16).hi) (_hst:∀ x∈m.st,okN x) (hcl:m.cells≤256) (hre:m.reads.length≤1024) (_hou:m.out.length≤1024)
  (hF:∀ W F0 w,Gm W F0 b K w m→Shaped5 w→Calls Tryz.prog 146 #[.pointer (some ⟨b,0,none⟩),.agg #[.int .i64 ((16:Nat):Int),.int .i64 n,.float .f64 x]] w fun r w'=>r=.returned (.tuple #[])∧Below w.heap.size w w')
  (r1:16≠5→(shp 16).takes≤(m.st.length:Int)) (_r2:16=5→n+1≤(m.st.length:Int)) (r3:(m.st.length:Int) - (shp 16).takes+(shp 16).lays≤64) (_r4:16=14→m.calls.length<16) :
  Calls Tryz.prog 137 #[.pointer (some ⟨b,0,none⟩),.agg #[.int .i64 ((16:Nat):Int),.int .i64 n,.float .f64 x]] w fun r w'=>Done W F0 b K m (doM m ⟨((16:Nat):Int),n,x⟩) r w':=by
 obtain ⟨y,s,hs⟩:=st1 (l:=m.st) (by have:=r1 (by omega);change (1:Int)≤_ at this;omega)
 change (m.st.length:Int) - 1+1≤64 at r3
 have hl:s.length<64:=by rw [hs] at r3;simp at r3;omega
 cases ha:addrB m with
 | false=>exact (do_read_no h hT (e0:=50) (fun W F0 w h=>read_no h (by rw [hs];simp) ha) hF).mono fun r w' ⟨a1,a2⟩=>.inl ⟨50,by show readM m=_;unfold readM;rw [ha];rfl,a1,a2⟩
 | true =>
  cases hh:hasC m.buf (addrV m) with
  | false=>exact (do_read h hT (fun W F0 w h=>read_wait h hs hcl ha hh) hF).mono fun r w' ⟨a1,a2⟩=>.inr ⟨a1,a2⟩
  | true=>exact (do_read h hT (fun W F0 w h=>read_own h hs hl hre hcl ha hh) hF).mono fun r w' ⟨a1,a2⟩=>.inr ⟨a1,a2⟩
theorem do_k17 (h:Gm W F0 b K w m) (hT:Shaped5 w) {n:Int} {x:Nat} (_hlo:(shp 17).lo≤n) (_hhi:n≤(shp 17).hi) (hst:∀ x∈m.st,okN x) (hcl:m.cells≤256) (_hre:m.reads.length≤1024) (_hou:m.out.length≤1024)
  (hF:∀ W F0 w,Gm W F0 b K w m→Shaped5 w→Calls Tryz.prog 146 #[.pointer (some ⟨b,0,none⟩),.agg #[.int .i64 ((17:Nat):Int),.int .i64 n,.float .f64 x]] w fun r w'=>r=.returned (.tuple #[])∧Below w.heap.size w w')
  (r1:17≠5→(shp 17).takes≤(m.st.length:Int)) (_r2:17=5→n+1≤(m.st.length:Int)) (_r3:(m.st.length:Int) - (shp 17).takes+(shp 17).lays≤64) (_r4:17=14→m.calls.length<16) :
  Calls Tryz.prog 137 #[.pointer (some ⟨b,0,none⟩),.agg #[.int .i64 ((17:Nat):Int),.int .i64 n,.float .f64 x]] w fun r w'=>Done W F0 b K m (doM m ⟨((17:Nat):Int),n,x⟩) r w':=by
 obtain ⟨y,z,s,hs⟩:=st2 (l:=m.st) (by have:=r1 (by omega);change (2:Int)≤_ at this;omega)
 have hz:=hst z (by rw [hs];simp)
 cases hu:m.upd with
 | false=>exact (do_write_no h hT (e0:=81) (fun W F0 w h=>write_ro h hu) hF).mono fun r w' ⟨a1,a2⟩=>.inl ⟨81,by show writeM m=_;unfold writeM;rw [hu];rfl,a1,a2⟩
 | true =>
  cases ha:addrB m with
  | false=>exact (do_write_no h hT (e0:=50) (fun W F0 w h=>write_no h (by rw [hs];simp) hu ha) hF).mono fun r w' ⟨a1,a2⟩=>.inl ⟨50,by show writeM m=_;unfold writeM;rw [hu,ha];rfl,a1,a2⟩
  | true =>
   cases hp:mayP m.wmax m.buf (addrV m) with
   | false=>exact (do_write_no h hT (e0:=70) (fun W F0 w h=>write_full h hs hz hcl hu ha hp) hF).mono fun r w' ⟨a1,a2⟩=>.inl ⟨70,by show writeM m=_;unfold writeM;rw [hu,ha,hp];rfl,a1,a2⟩
   | true=>exact (do_write h hT (fun W F0 w h=>write_ok h hs hz hcl hu ha hp) hF).mono fun r w' ⟨a1,a2⟩=>.inr ⟨a1,a2⟩
theorem do_k18 (h:Gm W F0 b K w m) (hT:Shaped5 w) {n:Int} {x:Nat} (_hlo:(shp 18).lo≤n) (_hhi:n≤(shp 18).hi) (_hst:∀ x∈m.st,okN x) (_hcl:m.cells≤256) (_hre:m.reads.length≤1024) (hou:m.out.length≤1024)
  (hF:∀ W F0 w,Gm W F0 b K w m→Shaped5 w→Calls Tryz.prog 146 #[.pointer (some ⟨b,0,none⟩),.agg #[.int .i64 ((18:Nat):Int),.int .i64 n,.float .f64 x]] w fun r w'=>r=.returned (.tuple #[])∧Below w.heap.size w w')
  (r1:18≠5→(shp 18).takes≤(m.st.length:Int)) (_r2:18=5→n+1≤(m.st.length:Int)) (_r3:(m.st.length:Int) - (shp 18).takes+(shp 18).lays≤64) (_r4:18=14→m.calls.length<16) :
  Calls Tryz.prog 137 #[.pointer (some ⟨b,0,none⟩),.agg #[.int .i64 ((18:Nat):Int),.int .i64 n,.float .f64 x]] w fun r w'=>Done W F0 b K m (doM m ⟨((18:Nat):Int),n,x⟩) r w':=by
 obtain ⟨y,s,hs⟩:=st1 (l:=m.st) (by have:=r1 (by omega);change (1:Int)≤_ at this;omega)
 exact (do_A h hT (k:=18) (by omega) (by omega) (by omega) (by omega) (by omega) (by omega) (by omega) (by omega) (by omega) (fun W F0 w h=>reckon_18 h n x hs hou) hF).mono fun r w' ⟨a1,a2⟩=>.inr ⟨a1,by rw [show (doM m ⟨(18:Nat),n,x⟩).1={ m with out:=m.out ++ [y],st:=s } from by show ({ m with out:=m.out ++ [m.st.getD 0 0],st:=m.st.drop 1 }:Mac)=_;rw [hs];rfl];exact a2⟩
theorem do_k19 (h:Gm W F0 b K w m) (hT:Shaped5 w) {n:Int} {x:Nat} (_hlo:(shp 19).lo≤n) (_hhi:n≤(shp 19).hi) (_hst:∀ x∈m.st,okN x) (_hcl:m.cells≤256) (_hre:m.reads.length≤1024) (_hou:m.out.length≤1024)
  (hF:∀ W F0 w,Gm W F0 b K w m→Shaped5 w→Calls Tryz.prog 146 #[.pointer (some ⟨b,0,none⟩),.agg #[.int .i64 ((19:Nat):Int),.int .i64 n,.float .f64 x]] w fun r w'=>r=.returned (.tuple #[])∧Below w.heap.size w w')
  (_r1:19≠5→(shp 19).takes≤(m.st.length:Int)) (_r2:19=5→n+1≤(m.st.length:Int)) (_r3:(m.st.length:Int) - (shp 19).takes+(shp 19).lays≤64) (_r4:19=14→m.calls.length<16) :
  Calls Tryz.prog 137 #[.pointer (some ⟨b,0,none⟩),.agg #[.int .i64 ((19:Nat):Int),.int .i64 n,.float .f64 x]] w fun r w'=>Done W F0 b K m (doM m ⟨((19:Nat):Int),n,x⟩) r w':=by
 exact (do_19 h hT hF).mono fun r w' ⟨a1,a2⟩=>.inr ⟨a1,a2⟩
theorem do_k20 (h:Gm W F0 b K w m) (hT:Shaped5 w) {n:Int} {x:Nat} (_hlo:(shp 20).lo≤n) (_hhi:n≤(shp 20).hi) (_hst:∀ x∈m.st,okN x) (_hcl:m.cells≤256) (_hre:m.reads.length≤1024) (_hou:m.out.length≤1024)
  (hF:∀ W F0 w,Gm W F0 b K w m→Shaped5 w→Calls Tryz.prog 146 #[.pointer (some ⟨b,0,none⟩),.agg #[.int .i64 ((20:Nat):Int),.int .i64 n,.float .f64 x]] w fun r w'=>r=.returned (.tuple #[])∧Below w.heap.size w w')
  (_r1:20≠5→(shp 20).takes≤(m.st.length:Int)) (_r2:20=5→n+1≤(m.st.length:Int)) (_r3:(m.st.length:Int) - (shp 20).takes+(shp 20).lays≤64) (_r4:20=14→m.calls.length<16) :
  Calls Tryz.prog 137 #[.pointer (some ⟨b,0,none⟩),.agg #[.int .i64 ((20:Nat):Int),.int .i64 n,.float .f64 x]] w fun r w'=>Done W F0 b K m (doM m ⟨((20:Nat):Int),n,x⟩) r w':=by
 exact (do_20 h hT hF).mono fun r w' ⟨a1,a2⟩=>.inr ⟨a1,a2⟩
theorem do_any (h:Gm W F0 b K w m) (hT:Shaped5 w) {k many:Nat} {n:Int} {x:Nat} (hi:mayB ⟨k,n,x⟩ many=true) (hst:∀ x∈m.st,okN x) (hcl:m.cells≤256) (hre:m.reads.length≤1024) (hou:m.out.length≤1024):Calls Tryz.prog 137 #[.pointer (some ⟨b,0,none⟩),.agg #[.int .i64 (k:Int),.int .i64 n,.float .f64 x]] w fun r w'=>Done W F0 b K m (doF m ⟨k,n,x⟩) r w':=by
 obtain ⟨hk,hlo,hhi⟩:=fits_parts hi
 clear hi
 have h5:k=5→0≤n∧n≤63:=fun e=>by subst e;exact ⟨hlo,hhi⟩
 cases hro:roomB m ⟨k,n,x⟩ with
 | false =>
  have e:doF m ⟨k,n,x⟩=failM m 82:=by unfold doF;rw [hro];rfl
  rw [e]
  exact (do_unfit h hT (fun W F0 w h hT=>(fit_any h hT hk h5).mono fun r w' ⟨a1,a2⟩=>⟨by rw [a1,hro];rfl,a2⟩)).mono fun r w' ⟨a1,a2⟩=>.inl ⟨82,rfl,a1,a2⟩
 | true =>
  have hF:∀ W F0 w,Gm W F0 b K w m→Shaped5 w→Calls Tryz.prog 146 #[.pointer (some ⟨b,0,none⟩),.agg #[.int .i64 (k:Int),.int .i64 n,.float .f64 x]] w fun r w'=>r=.returned (.tuple #[])∧Below w.heap.size w w':=fun W F0 w h hT=>(fit_any h hT hk h5).mono fun r w' ⟨a1,a2⟩=>⟨by rw [a1,hro];rfl,a2⟩
  have e0:doF m ⟨k,n,x⟩=doM m ⟨k,n,x⟩:=by unfold doF;rw [hro];rfl
  obtain ⟨r1,r2,r3,r4⟩:=room_parts hro
  rw [e0]
  clear e0 hro h5
  have hkk:k=1∨k=2∨k=3∨k=4∨k=5∨k=6∨k=7∨k=8∨k=9∨k=10∨k=11∨k=12∨k=13∨k=14∨k=15∨k=16∨k=17∨k=18∨k=19∨k=20:=by omega
  rcases hkk with rfl | rfl | rfl | rfl | rfl | rfl | rfl | rfl | rfl | rfl | rfl | rfl | rfl | rfl | rfl | rfl | rfl | rfl | rfl | rfl
  ·exact do_k1 h hT hlo hhi hst hcl hre hou hF r1 r2 r3 r4
  ·exact do_k2 h hT hlo hhi hst hcl hre hou hF r1 r2 r3 r4
  ·exact do_k3 h hT hlo hhi hst hcl hre hou hF r1 r2 r3 r4
  ·exact do_k4 h hT hlo hhi hst hcl hre hou hF r1 r2 r3 r4
  ·exact do_k5 h hT hlo hhi hst hcl hre hou hF r1 r2 r3 r4
  ·exact do_k6 h hT hlo hhi hst hcl hre hou hF r1 r2 r3 r4
  ·exact do_k7 h hT hlo hhi hst hcl hre hou hF r1 r2 r3 r4
  ·exact do_k8 h hT hlo hhi hst hcl hre hou hF r1 r2 r3 r4
  ·exact do_k9 h hT hlo hhi hst hcl hre hou hF r1 r2 r3 r4
  ·exact do_k10 h hT hlo hhi hst hcl hre hou hF r1 r2 r3 r4
  ·exact do_k11 h hT hlo hhi hst hcl hre hou hF r1 r2 r3 r4
  ·exact do_k12 h hT hlo hhi hst hcl hre hou hF r1 r2 r3 r4
  ·exact do_k13 h hT hlo hhi hst hcl hre hou hF r1 r2 r3 r4
  ·exact do_k14 h hT hlo hhi hst hcl hre hou hF r1 r2 r3 r4
  ·exact do_k15 h hT hlo hhi hst hcl hre hou hF r1 r2 r3 r4
  ·exact do_k16 h hT hlo hhi hst hcl hre hou hF r1 r2 r3 r4
  ·exact do_k17 h hT hlo hhi hst hcl hre hou hF r1 r2 r3 r4
  ·exact do_k18 h hT hlo hhi hst hcl hre hou hF r1 r2 r3 r4
  ·exact do_k19 h hT hlo hhi hst hcl hre hou hF r1 r2 r3 r4
  ·exact do_k20 h hT hlo hhi hst hcl hre hou hF r1 r2 r3 r4
end
end Go.Proofs.YteinilmecnlanabGreatDoor
namespace Go.Proofs.YteinilmecnlanabGreatDoor
open Go.ChangeShapes Go.WideShapes Go.ChangeAt Go.RowKit Num
attribute [local go_sem] run_store_float
section
variable {W w:World} {b:Nat} {F0 K:List Nat} {m:Mac}
theorem Gm.two (h:Gm W F0 b K w m) (o1 o2:Obj):∃ F,Gm ((w.alloc o1).alloc o2) F b K ((w.alloc o1).alloc o2) m∧∀ w' m',Gm ((w.alloc o1).alloc o2) F b K w' m'→w'.heap[w.heap.size]?=some o1∧w'.heap[w.heap.size+1]?=some o2∧∀ w'',Turn [w.heap.size+1] [w.heap.size+1] w' w''→Gm W F0 b K w'' m':=by
 obtain ⟨F1,hM1,hT1⟩:=h.mc
 have hb1:Blw w F1:=hM1.blw
 have hM3:=hM1.on ((below_alloc w o1).trans ((below_alloc _ o2).mono (by simp)))
 refine ⟨F1,hM3.gm,fun w' m' hg=>?_⟩
 have a1:w'.heap[w.heap.size]?=some o1:=(hg.far (by simp;omega) (fun q=>absurd (hb1 _ q) (Nat.lt_irrefl _))).trans ((heap_alloc_old _ _ (by simp)).trans (heap_alloc_new w _))
 have a2:w'.heap[w.heap.size+1]?=some o2:=(hg.far (by simp) (fun q=>absurd (hb1 _ q) (by omega))).trans (heap_new (by simp))
 refine ⟨a1,a2,fun w'' t=>?_⟩
 obtain ⟨p,q1,q2,q3⟩:=hg
 have n1:w.heap.size+1∉p.F b:=fun q=>(q2.own _ q).elim (fun z=>absurd (hb1 _ z) (by omega)) (fun z=>by simp at z;omega)
 have n2:w.heap.size+1∉fpR p.pk:=fun q=>by rw [← q3] at q;exact absurd (hM1.blwK _ q) (by omega)
 have s1:Sep (p.F b) [w.heap.size+1]:=fun k hk q=>n1 (by simp at q;rw [← q];exact hk)
 have s2:Sep (fpR p.pk) [w.heap.size+1]:=fun k hk q=>n2 (by simp at q;rw [← q];exact hk)
 have hs:w.heap.size≤w'.heap.size:=Nat.le_trans (by simp;omega) q2.size
 refine ⟨p,q1.keep (t.kept s1 q1.blw) (t.kept s2 q1.ltk),hT1.trans ⟨t.os.trans q2.os,t.tape.trans q2.tape,t.output.trans q2.output,Nat.le_trans hs t.size,fun k hk hf=>?_,fun k hk=>?_⟩,q3⟩
 ·exact (t.block k (Nat.lt_of_lt_of_le hk hs) (by simp;omega)).trans ((q2.block k (by simp;omega) hf).trans ((heap_alloc_old _ _ (by simp;omega)).trans (heap_alloc_old w _ hk)))
 ·exact (q2.own k hk).imp id (fun z=>by simp at z;omega)
abbrev ptrO (b:Nat):Obj:=.cells #[.pointer (some ⟨b,0,none⟩)] 78
theorem ptrO_cell {w:World} {g b:Nat} (h:w.heap[g]?=some (ptrO b)):w.cell? ⟨g,0,none⟩=some (.pointer (some ⟨b,0,none⟩))∧g<w.heap.size:=⟨by rw [cell_of_row w g 0 _ _ _ h];rfl,lt_of_block h⟩
theorem catch_gave {B:World} {F:List Nat} {g1 g2:Nat} (e:Int) (h:Gm B F b K w m) (hX:∀ w' m',Gm B F b K w' m'→w'.heap[g1]?=some (ptrO b)∧w'.heap[g2]?=some (askO ask0)∧∀ w'',Turn [g2] [g2] w' w''→Gm W F0 b K w'' m') :
  CallsD Tryz.prog 135 #[.pointer (some ⟨g1,0,none⟩),.pointer (some ⟨g2,0,none⟩)] (.panicking [{ v:=.iface 48 (.int .i64 e),recovered:=false }]) w fun r u' w' =>
   r=.returned (.tuple #[])∧u'=.panicking [{ v:=.iface 48 (.int .i64 e),recovered:=true }]∧w'.heap[g2]?=some (askO askEnd)∧Gm W F0 b K w' (failM m e).1:=by
 refine callsD_of_wpS Tryz.func135 rfl fun c₀ cs hu=>?_
 obtain ⟨r1,r2,r3⟩:=hX _ _ h
 obtain ⟨q0,q1⟩:=ptrO_cell r1
 have HX:=Lib.hid hX
 have HG:=Lib.hid h
 clear r1 r2 r3 h hX
 apply wpS_seq
 apply wpS_region
 simp [wpOpsS,go_sem,recoverD,hu,Tryz.ntmps135,Exit.thenS]
 refine wpS_of_wp ?_
 have hta:∀ u:World,(Instr.typeAssert (.iface 48 (.int .i64 e)) 20 48 false).run Tryz.prog u=.ok (.int .i64 e) u:=fun u=>by kernel_rfl
 generalize hF:(Value.iface 48 (.int .i64 e))=Fv at hta ⊢
 rw [show (#[Value.pointer (some ⟨g1,0,none⟩),Value.pointer (some ⟨g2,0,none⟩)] ++ ((Array.replicate 9 undef).setIfInBounds 1 Fv).setIfInBounds 0 Fv)=#[Value.pointer (some ⟨g1,0,none⟩),Value.pointer (some ⟨g2,0,none⟩),Fv,Fv,undef,undef,undef,undef,undef,undef,undef] from rfl]
 subst hF
 go_wp2
 refine region_tail 4 (by kernel_rfl) ?_
 simp only [List.take_succ_cons,List.take_zero,List.drop_succ_cons,List.drop_zero]
 repeat still_step
 refine wpStill_nil ?_
 go_wp2_with (go_at_call 136;refine (ends_any (HG.out.drewN 1) 3 0 e).mono ?_;rintro r u1 ⟨rfl,q⟩;obtain ⟨r1,r2,r3⟩:=HX.out _ _ q;obtain ⟨⟨d0,d1,d2,d3,d4⟩,d5,d6,d7,d8⟩:=askO_cells r2;have G1:=Lib.hid (And.intro r2 r3);clear q r1 r2 r3;unfold askV)
 refine ⟨rfl,_,rfl,_,results_none rfl _ _ _,rfl,rfl,?_,?_⟩
 ·exact askO_set (k':=askEnd) G1.out.1
 ·exact G1.out.2 _ (turn4 _ _ (.int .i64 4) (.int .i64 0) (.float .f64 0) (.bool false))
theorem catch_idle {g1 g2:Nat} :
  CallsD Tryz.prog 135 #[.pointer (some ⟨g1,0,none⟩),.pointer (some ⟨g2,0,none⟩)] .returning w fun r u' w'=>r=.returned (.tuple #[])∧u'=.returning∧w'=w:=by
 refine callsD_of_wpS Tryz.func135 rfl fun c₀ cs hu=>?_
 apply wpS_seq
 apply wpS_region
 simp [wpOpsS,go_sem,recoverD,hu,Tryz.ntmps135,Exit.thenS]
 refine wpS_of_wp ?_
 rw [show (#[Value.pointer (some ⟨g1,0,none⟩),Value.pointer (some ⟨g2,0,none⟩)] ++ ((Array.replicate 9 undef).setIfInBounds 1 .nilIface).setIfInBounds 0 .nilIface)=#[Value.pointer (some ⟨g1,0,none⟩),Value.pointer (some ⟨g2,0,none⟩),.nilIface,.nilIface,undef,undef,undef,undef,undef,undef,undef] from rfl]
 go_wp2
 cases c₀
 simp_all [bodyPostS,results,Tryz.results135]
end
end Go.Proofs.YteinilmecnlanabGreatDoor
namespace Go.Proofs.YteinilmecnlanabGreatDoor
open Go.ChangeShapes Go.WideShapes Go.ChangeAt Go.RowKit Num
attribute [local go_sem] run_store_float
theorem ask_left {fn:Func} {p:Tmp} (h:fn.results=#[.cell p 111]) {R:Ending→World→Prop} {tmps:Array Value} {w:World} (g:Nat) (k:Ask) (hp:tmps.getD p undef=.pointer (some ⟨g,0,none⟩)) (hg:w.heap[g]?=some (askO k)) (hR:R (.returned (askV k)) w):Leaves Tryz.prog fn tmps R [] .returning w :=
 ⟨_,results_cell_row h _ _ g _ _ _ _ hp hg Tryz.underlying111 rfl (by kernel_rfl),hR⟩
section
variable {W w:World} {b:Nat} {F0 K:List Nat} {m:Mac}
theorem Gm.shaped (h:Gm W F0 b K w m) (hT:TabAt W F0):Shaped5 w:=by
 obtain ⟨p,_,h2,_⟩:=h
 exact (hT.turn h2).1
theorem how_at (h:Gm W F0 b K w m):w.cell? ⟨b,29,none⟩=some (.int .i64 m.how):=by
 obtain ⟨p,hm,_,_⟩:=h
 exact (hm.cell 29).trans rfl
theorem step_waits (h:Gm W F0 b K w m) (hw:0≤m.wait):Calls Tryz.prog 125 #[.pointer (some ⟨b,0,none⟩)] w fun e w'=>e=.returned (askV (askRead m.wait))∧Gm W F0 b K w' m:=by
 obtain ⟨F,h1,hX⟩:=h.two (ptrO b) (askO ask0)
 have hb:=h.ltB
 have h27:=(wait_at h).1
 rw [decide_eq_true hw] at h27
 have HW:=Lib.hid (wants_any h1 hw)
 have HX:=Lib.hid hX
 have HG:=Lib.hid h1
 clear h h1 hX hw
 go_enter_defers Tryz.func125,Tryz.ntmps125
 go_wp2_with (go_at_call 134;refine HW.out.mono ?_;rintro e u0 ⟨rfl,q⟩;obtain ⟨r1,r2,r3⟩:=HX.out _ _ (HG.out.on q);obtain ⟨⟨d0,d1,d2,d3,d4⟩,d5,d6,d7,d8⟩:=askO_cells r2;have G1:=Lib.hid (And.intro r2 r3);clear q r1 r2 r3;unfold askV askRead)
 simp only [bodyPostD]
 exact ask_left rfl (w.heap.size+1) (askRead m.wait) rfl (askO_set (k':=askRead m.wait) G1.out.1) ⟨rfl,G1.out.2 _ (turn4 _ _ (.int .i64 1) (.int .i64 m.wait) (.float .f64 0) (.bool false))⟩
theorem step_ended (h:Gm W F0 b K w m) (hw:¬ 0≤m.wait) (h0:¬ m.how=0):Calls Tryz.prog 125 #[.pointer (some ⟨b,0,none⟩)] w fun e w'=>e=.returned (askV askEnd)∧Gm W F0 b K w' m:=by
 obtain ⟨F,h1,hX⟩:=h.two (ptrO b) (askO ask0)
 have hb:=h.ltB
 have h27:=(wait_at h).1
 rw [decide_eq_false hw] at h27
 have h29:=how_at h
 have HG:=Lib.hid ((h.alloc (ptrO b)).alloc (askO askEnd))
 clear h h1 hX hw
 go_enter_defers Tryz.func125,Tryz.ntmps125
 go_wp2
 simp only [bodyPostD]
 exact ask_left rfl (w.heap.size+1) askEnd rfl (heap_new (by simp)) ⟨rfl,HG.out⟩
theorem step_gave1 (h:Gm W F0 b K w m) (hw:¬ 0≤m.wait) (h0:m.how=0) {e0:Int} (hB:∀ W F0 w,Gm W F0 b K w m→Calls Tryz.prog 138 #[.pointer (some ⟨b,0,none⟩)] w fun r w'=>r=gaveM e0∧Gm W F0 b K w' m):Calls Tryz.prog 125 #[.pointer (some ⟨b,0,none⟩)] w fun e w'=>e=.returned (askV askEnd)∧Gm W F0 b K w' (failM m e0).1:=by
 obtain ⟨F,h1,hX⟩:=h.two (ptrO b) (askO ask0)
 have hb:=h.ltB
 have h27:=(wait_at h).1
 rw [decide_eq_false hw] at h27
 have h29:=how_at h
 rw [h0] at h29
 have HX:=Lib.hid hX
 have HG:Hid (Gm ((w.alloc (ptrO b)).alloc (askO ask0)) F b K ((w.alloc (ptrO b)).alloc (askO ask0)).drew m):=h1.same (Same.drew _)
 have HBG:=Lib.hid hB
 clear h h1 hX hw h0 hB
 have hmf:∀ (fn:Fn) (first cap:Array Value) (w:World),(Instr.makeFunc fn first cap).run Tryz.prog w=.ok (.func fn first cap) w:=fun _ _ _ _=>rfl
 go_enter_defers Tryz.func125,Tryz.ntmps125
 go_wp2
 refine wp_region_any (by kernel_rfl) ?_
 change wpAny _ _ _ _ _ _ _ (World.drew _)
 refine wpAny_ready (rs:=[0,1]) (by kernel_rfl) (by simp) ?_
 refine AllReady.cons rfl (fun K hK=>?_) (AllReady.cons rfl (fun K hK=>?_) (AllReady.nil))
 ·go_simp
  refine hK _ _ ?_
  clear hK K
  refine wpAny_ready (rs:=[1]) (by kernel_rfl) (by simp) ?_
  refine AllReady.cons rfl (fun K hK=>?_) (AllReady.nil)
  go_simp
  refine hK _ _ ?_
  clear hK K
  refine wpAny_ready (rs:=[2]) (by kernel_rfl) (by simp) ?_
  refine AllReady.cons rfl (fun K hK=>?_) (AllReady.nil)
  go_simp
  refine (HBG.out _ _ _ HG.out).mono ?_
  rintro e u1 ⟨rfl,q⟩
  refine leaves_cons (f:=135) (args:=#[.pointer (some ⟨w.heap.size,0,none⟩),.pointer (some ⟨w.heap.size+1,0,none⟩)]) (by simp) (by simp [go_sem]) ?_
  refine (catch_gave (W:=W) (F0:=F0) e0 q HX.out).mono ?_
  rintro e u' w5 ⟨rfl,rfl,c1,c2⟩
  exact ask_left rfl (w.heap.size+1) askEnd rfl c1 ⟨rfl,c2⟩
 ·go_simp
  refine hK _ _ ?_
  clear hK K
  refine wpAny_ready (rs:=[0,2]) (by kernel_rfl) (by simp) ?_
  refine AllReady.cons rfl (fun K hK=>?_) (AllReady.cons rfl (fun K hK=>?_) (AllReady.nil))
  ·go_simp
   refine hK _ _ ?_
   clear hK K
   refine wpAny_ready (rs:=[2]) (by kernel_rfl) (by simp) ?_
   refine AllReady.cons rfl (fun K hK=>?_) (AllReady.nil)
   go_simp
   refine (HBG.out _ _ _ HG.out).mono ?_
   rintro e u1 ⟨rfl,q⟩
   refine leaves_cons (f:=135) (args:=#[.pointer (some ⟨w.heap.size,0,none⟩),.pointer (some ⟨w.heap.size+1,0,none⟩)]) (by simp) (by simp [go_sem]) ?_
   refine (catch_gave (W:=W) (F0:=F0) e0 q HX.out).mono ?_
   rintro e u' w5 ⟨rfl,rfl,c1,c2⟩
   exact ask_left rfl (w.heap.size+1) askEnd rfl c1 ⟨rfl,c2⟩
  ·go_simp
   refine (HBG.out _ _ _ HG.out).mono ?_
   rintro e u1 ⟨rfl,q⟩
   refine leaves_cons (f:=135) (args:=#[.pointer (some ⟨w.heap.size,0,none⟩),.pointer (some ⟨w.heap.size+1,0,none⟩)]) (by simp) (by simp [go_sem]) ?_
   refine (catch_gave (W:=W) (F0:=F0) e0 q HX.out).mono ?_
   rintro e u' w5 ⟨rfl,rfl,c1,c2⟩
   exact ask_left rfl (w.heap.size+1) askEnd rfl c1 ⟨rfl,c2⟩
theorem step_do (h:Gm W F0 b K w m) (hw:¬ 0≤m.wait) (h0:m.how=0) {o n:Int} {x:Nat} {m1:Mac} {res:Mac × Ask} (hT:TabAt W F0) (hB:∀ W F0 w,Gm W F0 b K w m→Calls Tryz.prog 138 #[.pointer (some ⟨b,0,none⟩)] w fun r w'=>r=.returned (.agg #[.int .i64 o,.int .i64 n,.float .f64 x])∧Gm W F0 b K w' m1) (hD:∀ W F0 w,Gm W F0 b K w m1→Shaped5 w→Calls Tryz.prog 137 #[.pointer (some ⟨b,0,none⟩),.agg #[.int .i64 o,.int .i64 n,.float .f64 x]] w fun r w'=>Done W F0 b K m1 res r w'):Calls Tryz.prog 125 #[.pointer (some ⟨b,0,none⟩)] w fun e w'=>e=.returned (askV res.2)∧Gm W F0 b K w' res.1:=by
 obtain ⟨F,h1,hX⟩:=h.two (ptrO b) (askO ask0)
 have hb:=h.ltB
 have h27:=(wait_at h).1
 rw [decide_eq_false hw] at h27
 have h29:=how_at h
 rw [h0] at h29
 have HX:=Lib.hid hX
 have HG:Hid (Gm ((w.alloc (ptrO b)).alloc (askO ask0)) F b K ((w.alloc (ptrO b)).alloc (askO ask0)).drew m):=h1.same (Same.drew _)
 have HBG:=Lib.hid hB
 have HDO:=Lib.hid hD
 have HT:=Lib.hid hT
 clear h h1 hX hw h0 hB hD hT
 have hmf:∀ (fn:Fn) (first cap:Array Value) (w:World),(Instr.makeFunc fn first cap).run Tryz.prog w=.ok (.func fn first cap) w:=fun _ _ _ _=>rfl
 go_enter_defers Tryz.func125,Tryz.ntmps125
 go_wp2
 refine wp_region_any (by kernel_rfl) ?_
 change wpAny _ _ _ _ _ _ _ (World.drew _)
 refine wpAny_ready (rs:=[0,1]) (by kernel_rfl) (by simp) ?_
 refine AllReady.cons rfl (fun K hK=>?_) (AllReady.cons rfl (fun K hK=>?_) (AllReady.nil))
 ·go_simp
  refine hK _ _ ?_
  clear hK K
  refine wpAny_ready (rs:=[1]) (by kernel_rfl) (by simp) ?_
  refine AllReady.cons rfl (fun K hK=>?_) (AllReady.nil)
  go_simp
  refine hK _ _ ?_
  clear hK K
  refine wpAny_ready (rs:=[2]) (by kernel_rfl) (by simp) ?_
  refine AllReady.cons rfl (fun K hK=>?_) (AllReady.nil)
  go_simp
  refine (HBG.out _ _ _ HG.out).mono ?_
  rintro e u1 ⟨rfl,q⟩
  obtain ⟨r1,r2,r3⟩:=HX.out _ _ q
  obtain ⟨k0,k1⟩:=ptrO_cell r1
  have HSH:=Lib.hid ((r3 _ (Turn.refl _ _)).shaped HT.out)
  clear r1 r2 r3
  have G1:=Lib.hid q
  clear q
  refine hK _ _ ?_
  clear hK K
  refine wpAny_ready (rs:=[3]) (by kernel_rfl) (by simp) ?_
  refine AllReady.cons rfl (fun K hK=>?_) (AllReady.nil)
  go_simp
  refine (HDO.out _ _ _ G1.out HSH.out).mono ?_
  rintro e u2 (⟨e0,he0,rfl,q⟩ | ⟨rfl,q⟩)
  ·subst he0
   refine leaves_cons (f:=135) (args:=#[.pointer (some ⟨w.heap.size,0,none⟩),.pointer (some ⟨w.heap.size+1,0,none⟩)]) (by simp) (by simp [go_sem]) ?_
   refine (catch_gave (W:=W) (F0:=F0) e0 q HX.out).mono ?_
   rintro e u' w5 ⟨rfl,rfl,c1,c2⟩
   exact ask_left rfl (w.heap.size+1) askEnd rfl c1 ⟨rfl,c2⟩
  ·obtain ⟨r1,r2,r3⟩:=HX.out _ _ q
   obtain ⟨⟨d0,d1,d2,d3,d4⟩,d5,d6,d7,d8⟩:=askO_cells r2
   have G2:=Lib.hid (And.intro r2 r3)
   clear q r1 r2 r3
   unfold askV
   refine hK _ _ ?_
   clear hK K
   refine wpAny_ready (rs:=[4]) (by kernel_rfl) (by simp) ?_
   refine AllReady.cons rfl (fun K hK=>?_) (AllReady.nil)
   go_simp
   refine hK _ _ ?_
   clear hK K
   refine wpAny_done (by kernel_rfl) ?_ _
   go_wp2
   refine leaves_cons (f:=135) (args:=#[.pointer (some ⟨w.heap.size,0,none⟩),.pointer (some ⟨w.heap.size+1,0,none⟩)]) (by simp) (by simp [go_sem]) ?_
   refine catch_idle.mono ?_
   rintro e u' w5 ⟨rfl,rfl,rfl⟩
   exact ask_left rfl (w.heap.size+1) res.2 rfl (askO_set (k':=res.2) G2.out.1) ⟨rfl,G2.out.2 _ (turn4 _ _ (.int .i64 res.2.kind) (.int .i64 res.2.cell) (.float .f64 res.2.x) (.bool res.2.first))⟩
 ·go_simp
  refine hK _ _ ?_
  clear hK K
  refine wpAny_ready (rs:=[0,2]) (by kernel_rfl) (by simp) ?_
  refine AllReady.cons rfl (fun K hK=>?_) (AllReady.cons rfl (fun K hK=>?_) (AllReady.nil))
  ·go_simp
   refine hK _ _ ?_
   clear hK K
   refine wpAny_ready (rs:=[2]) (by kernel_rfl) (by simp) ?_
   refine AllReady.cons rfl (fun K hK=>?_) (AllReady.nil)
   go_simp
   refine (HBG.out _ _ _ HG.out).mono ?_
   rintro e u1 ⟨rfl,q⟩
   obtain ⟨r1,r2,r3⟩:=HX.out _ _ q
   obtain ⟨k0,k1⟩:=ptrO_cell r1
   have HSH:=Lib.hid ((r3 _ (Turn.refl _ _)).shaped HT.out)
   clear r1 r2 r3
   have G1:=Lib.hid q
   clear q
   refine hK _ _ ?_
   clear hK K
   refine wpAny_ready (rs:=[3]) (by kernel_rfl) (by simp) ?_
   refine AllReady.cons rfl (fun K hK=>?_) (AllReady.nil)
   go_simp
   refine (HDO.out _ _ _ G1.out HSH.out).mono ?_
   rintro e u2 (⟨e0,he0,rfl,q⟩ | ⟨rfl,q⟩)
   ·subst he0
    refine leaves_cons (f:=135) (args:=#[.pointer (some ⟨w.heap.size,0,none⟩),.pointer (some ⟨w.heap.size+1,0,none⟩)]) (by simp) (by simp [go_sem]) ?_
    refine (catch_gave (W:=W) (F0:=F0) e0 q HX.out).mono ?_
    rintro e u' w5 ⟨rfl,rfl,c1,c2⟩
    exact ask_left rfl (w.heap.size+1) askEnd rfl c1 ⟨rfl,c2⟩
   ·obtain ⟨r1,r2,r3⟩:=HX.out _ _ q
    obtain ⟨⟨d0,d1,d2,d3,d4⟩,d5,d6,d7,d8⟩:=askO_cells r2
    have G2:=Lib.hid (And.intro r2 r3)
    clear q r1 r2 r3
    unfold askV
    refine hK _ _ ?_
    clear hK K
    refine wpAny_ready (rs:=[4]) (by kernel_rfl) (by simp) ?_
    refine AllReady.cons rfl (fun K hK=>?_) (AllReady.nil)
    go_simp
    refine hK _ _ ?_
    clear hK K
    refine wpAny_done (by kernel_rfl) ?_ _
    go_wp2
    refine leaves_cons (f:=135) (args:=#[.pointer (some ⟨w.heap.size,0,none⟩),.pointer (some ⟨w.heap.size+1,0,none⟩)]) (by simp) (by simp [go_sem]) ?_
    refine catch_idle.mono ?_
    rintro e u' w5 ⟨rfl,rfl,rfl⟩
    exact ask_left rfl (w.heap.size+1) res.2 rfl (askO_set (k':=res.2) G2.out.1) ⟨rfl,G2.out.2 _ (turn4 _ _ (.int .i64 res.2.kind) (.int .i64 res.2.cell) (.float .f64 res.2.x) (.bool res.2.first))⟩
  ·go_simp
   refine (HBG.out _ _ _ HG.out).mono ?_
   rintro e u1 ⟨rfl,q⟩
   obtain ⟨r1,r2,r3⟩:=HX.out _ _ q
   obtain ⟨k0,k1⟩:=ptrO_cell r1
   have HSH:=Lib.hid ((r3 _ (Turn.refl _ _)).shaped HT.out)
   clear r1 r2 r3
   have G1:=Lib.hid q
   clear q
   refine hK _ _ ?_
   clear hK K
   refine wpAny_ready (rs:=[0]) (by kernel_rfl) (by simp) ?_
   refine AllReady.cons rfl (fun K hK=>?_) (AllReady.nil)
   go_simp
   refine hK _ _ ?_
   clear hK K
   refine wpAny_ready (rs:=[3]) (by kernel_rfl) (by simp) ?_
   refine AllReady.cons rfl (fun K hK=>?_) (AllReady.nil)
   go_simp
   refine (HDO.out _ _ _ G1.out HSH.out).mono ?_
   rintro e u2 (⟨e0,he0,rfl,q⟩ | ⟨rfl,q⟩)
   ·subst he0
    refine leaves_cons (f:=135) (args:=#[.pointer (some ⟨w.heap.size,0,none⟩),.pointer (some ⟨w.heap.size+1,0,none⟩)]) (by simp) (by simp [go_sem]) ?_
    refine (catch_gave (W:=W) (F0:=F0) e0 q HX.out).mono ?_
    rintro e u' w5 ⟨rfl,rfl,c1,c2⟩
    exact ask_left rfl (w.heap.size+1) askEnd rfl c1 ⟨rfl,c2⟩
   ·obtain ⟨r1,r2,r3⟩:=HX.out _ _ q
    obtain ⟨⟨d0,d1,d2,d3,d4⟩,d5,d6,d7,d8⟩:=askO_cells r2
    have G2:=Lib.hid (And.intro r2 r3)
    clear q r1 r2 r3
    unfold askV
    refine hK _ _ ?_
    clear hK K
    refine wpAny_ready (rs:=[4]) (by kernel_rfl) (by simp) ?_
    refine AllReady.cons rfl (fun K hK=>?_) (AllReady.nil)
    go_simp
    refine hK _ _ ?_
    clear hK K
    refine wpAny_done (by kernel_rfl) ?_ _
    go_wp2
    refine leaves_cons (f:=135) (args:=#[.pointer (some ⟨w.heap.size,0,none⟩),.pointer (some ⟨w.heap.size+1,0,none⟩)]) (by simp) (by simp [go_sem]) ?_
    refine catch_idle.mono ?_
    rintro e u' w5 ⟨rfl,rfl,rfl⟩
    exact ask_left rfl (w.heap.size+1) res.2 rfl (askO_set (k':=res.2) G2.out.1) ⟨rfl,G2.out.2 _ (turn4 _ _ (.int .i64 res.2.kind) (.int .i64 res.2.cell) (.float .f64 res.2.x) (.bool res.2.first))⟩
end
end Go.Proofs.YteinilmecnlanabGreatDoor
namespace Go.Proofs.YteinilmecnlanabGreatDoor
open Go.ChangeShapes Go.WideShapes Go.ChangeAt Go.RowKit Num
attribute [local go_sem] run_store_float
section
variable {W w:World} {b:Nat} {F0 K:List Nat} {m:Mac}
theorem step_any (h:Gm W F0 b K w m) (hT:TabAt W F0) (hI:Inv m):Calls Tryz.prog 125 #[.pointer (some ⟨b,0,none⟩)] w fun e w'=>e=.returned (askV (stepM m).2)∧Gm W F0 b K w' (stepM m).1:=by
 unfold stepM
 by_cases hw:0≤m.wait
 ·rw [if_pos hw]
  exact step_waits h hw
 rw [if_neg hw]
 by_cases h0:m.how=0
 ·rw [if_pos h0]
  by_cases hf:m.used<m.fuel
  ·rw [if_pos hf]
   by_cases hp:m.place<(m.code.length:Int)
   ·rw [if_pos hp]
    obtain ⟨k,hk⟩:∃ k:Nat,m.place=k:=⟨m.place.toNat,by have:=hI.place.1;omega⟩
    have hkl:k<m.code.length:=by omega
    have hmay:=hI.may k hkl
    have hin:insM m=ci m.code k:=by unfold insM;rw [hk,Int.toNat_natCast]
    rw [hin]
    rcases hci:ci m.code k with ⟨o,n,x⟩
    have hB:∀ W F0 w,Gm W F0 b K w m→Calls Tryz.prog 138 #[.pointer (some ⟨b,0,none⟩)] w fun r w'=>r=.returned (.agg #[.int .i64 o,.int .i64 n,.float .f64 x])∧Gm W F0 b K w' (begM m):=fun W F0 w h=>by
     have:=begin_ok h hf hk hkl ⟨by have:=hI.fuel;omega,by have:=hI.used;omega⟩ (by have:=hI.len;omega)
     rw [hci] at this
     exact this
    rw [hci] at hmay
    obtain ⟨q,hq⟩:∃ q:Nat,o=q:=⟨o.toNat,by have:=hmay.1;unfold mayB knownB at this;simp at this;omega⟩
    subst hq
    have hre:(begM m).reads.length≤1024:=by
     have h1:=hI.reads
     have h2:=hI.used
     have h3:=hI.fuel
     rw [if_neg hw] at h1
     show m.reads.length≤1024
     omega
    have hou:(begM m).out.length≤1024:=by
     have h1:=hI.out
     have h2:=hI.used
     have h3:=hI.fuel
     show m.out.length≤1024
     omega
    have hD:∀ W F0 w,Gm W F0 b K w (begM m)→Shaped5 w→Calls Tryz.prog 137 #[.pointer (some ⟨b,0,none⟩),.agg #[.int .i64 (q:Int),.int .i64 n,.float .f64 x]] w fun r w'=>Done W F0 b K (begM m) (doF (begM m) ⟨q,n,x⟩) r w':=fun W F0 w h hT=>do_any h hT hmay.1 hI.st hI.cells.2 hre hou
    exact step_do h hw h0 hT hB hD
   ·rw [if_neg hp]
    exact step_gave1 h hw h0 (e0:=50) (fun W F0 w h=>(begin_far h hf hp).mono fun r w' ⟨a1,a2⟩=>⟨a1,h.on a2⟩)
  ·rw [if_neg hf]
   exact step_gave1 h hw h0 (e0:=80) (fun W F0 w h=>(begin_fuel h hf).mono fun r w' ⟨a1,a2⟩=>⟨a1,h.on a2⟩)
 ·rw [if_neg h0]
  exact step_ended h hw h0
theorem give_any (h:Gm W F0 b K w m) (hI:Inv m) (x:Nat):Calls Tryz.prog 126 #[.pointer (some ⟨b,0,none⟩),.float .f64 x] w fun e w'=>e=.returned (.int .i64 (giveE m))∧Gm W F0 b K w' (giveM m x):=by
 have hb:=h.ltB
 have h27:=(wait_at h).1
 have f27:=h.free 27
 unfold giveE giveM
 by_cases hw:0≤m.wait
 ·rw [if_pos hw,if_pos hw]
  rw [decide_eq_true hw] at h27
  have h28:w.cell? ⟨b,28,none⟩=some (.int .i64 m.wait):=by
   obtain ⟨p,hm,_,_⟩:=h
   rw [← hm.wt hw]
   exact (hm.cell 28).trans rfl
  have g1:Gm W F0 b K (w.setCell ⟨b,27,none⟩ (.bool false)) { m with wait:=-1 }:=h.set 27 (.bool false) { m with wait:=-1 } (fun p _=>⟨p.wt,rfl,fun z=>absurd z (show ¬ (0:Int)≤-1 by decide)⟩) ⟨rfl,rfl,rfl,rfl,rfl,rfl,rfl⟩
  have HG:=Lib.hid (g1.same (Same.drew _))
  have hl:m.st.length<64:=by
   have:=hI.high
   rw [if_pos hw] at this
   omega
  have hr:m.reads.length≤1024:=by
   have h1:=hI.reads
   have h2:=hI.used
   have h3:=hI.fuel
   rw [if_pos hw] at h1
   omega
  have HS:=Lib.hid (And.intro hl hr)
  clear h g1 hI hl hr hw
  go_enter Tryz.func126,Tryz.ntmps126
  go_wp2
  refine region_tail 7 (by kernel_rfl) ?_
  simp only [List.take_succ_cons,List.take_zero,List.drop_succ_cons,List.drop_zero]
  repeat (first | still_step | still_call (fix_any x _))
  refine wpStill_nil ?_
  go_wp2_with (go_at_call 139;refine (hasRead_any HG.out m.wait (fixB x) HS.out.1 HS.out.2).mono ?_;rintro e u1 ⟨rfl,q⟩;have G1:=Lib.hid q;clear q)
  go_ret
  exact ⟨rfl,G1.out⟩
 ·rw [if_neg hw,if_neg hw]
  rw [decide_eq_false hw] at h27
  have HG:=Lib.hid h
  clear h hI hw
  go_enter Tryz.func126,Tryz.ntmps126
  go_wp2
  go_ret
  exact ⟨rfl,HG.out⟩
end
end Go.Proofs.YteinilmecnlanabGreatDoor
namespace Go.Proofs.YteinilmecnlanabGreatDoor
open Go.ChangeShapes Go.WideShapes Go.ChangeAt Go.RowKit Num
structure Mid (m:Mac):Prop where
 cells:1≤m.cells∧m.cells≤256
 fuel:1≤m.fuel∧m.fuel≤1024
 wmax:1≤m.wmax∧m.wmax≤32
 len:m.code.length≤1024
 may:∀ k,k<m.code.length→mayB (ci m.code k) m.code.length=true∧(ci m.code k).x<18446744073709551616
 args:∀ k,okN (m.args k)
 loc:∀ k,okN (m.loc k)
 st:∀ x∈m.st,okN x
 high:m.st.length≤64
 calls:∀ c∈m.calls,0≤c∧c≤(m.code.length:Int)
 deep:m.calls.length≤16
 place:0≤m.place∧m.place≤(m.code.length:Int)
 used:0≤m.used∧m.used≤m.fuel
 out:(m.out.length:Int)<m.used
 reads:(m.reads.length:Int)<m.used
 buf:∀ t∈m.buf,okN t.2
 few:(m.buf.length:Int)≤m.wmax
 wait:m.wait=-1
 how:m.how=0
 none:m.upd=false→m.buf=[]
 err:m.err=0
 idle:m.code≠[]
section
variable {m:Mac}
theorem Mid.setSt (h:Mid m) {s:List Nat} (hs:∀ x∈s,okN x) (hl:s.length≤64):Mid { m with st:=s } :=
 ⟨h.cells,h.fuel,h.wmax,h.len,h.may,h.args,h.loc,hs,hl,h.calls,h.deep,h.place,h.used,h.out,h.reads,h.buf,h.few,h.wait,h.how,h.none,h.err,h.idle⟩
theorem Mid.setLoc (h:Mid m) {f:Nat→Nat} (hf:∀ k,okN (f k)):Mid { m with loc:=f } :=
 ⟨h.cells,h.fuel,h.wmax,h.len,h.may,h.args,hf,h.st,h.high,h.calls,h.deep,h.place,h.used,h.out,h.reads,h.buf,h.few,h.wait,h.how,h.none,h.err,h.idle⟩
theorem Mid.setPlace (h:Mid m) {n:Int} (hn:0≤n∧n≤(m.code.length:Int)):Mid { m with place:=n } :=
 ⟨h.cells,h.fuel,h.wmax,h.len,h.may,h.args,h.loc,h.st,h.high,h.calls,h.deep,hn,h.used,h.out,h.reads,h.buf,h.few,h.wait,h.how,h.none,h.err,h.idle⟩
theorem Mid.setCalls (h:Mid m) {c:List Int} (hc:∀ x∈c,0≤x∧x≤(m.code.length:Int)) (hd:c.length≤16):Mid { m with calls:=c } :=
 ⟨h.cells,h.fuel,h.wmax,h.len,h.may,h.args,h.loc,h.st,h.high,hc,hd,h.place,h.used,h.out,h.reads,h.buf,h.few,h.wait,h.how,h.none,h.err,h.idle⟩
theorem Mid.setBuf (h:Mid m) {l:Wr} (hl:∀ t∈l,okN t.2) (hf:(l.length:Int)≤m.wmax) (hn:m.upd=false→l=[]):Mid { m with buf:=l } :=
 ⟨h.cells,h.fuel,h.wmax,h.len,h.may,h.args,h.loc,h.st,h.high,h.calls,h.deep,h.place,h.used,h.out,h.reads,hl,hf,h.wait,h.how,hn,h.err,h.idle⟩
theorem Mid.not_wait (h:Mid m):¬ 0≤m.wait:=by rw [h.wait];decide
theorem Mid.ended (h:Mid m) (o c e:Int) (ho:0≤o∧o≤3) (hoe:o=3 ↔ e≠0) (he:e≠80) (l:List Nat) (hl:(l.length:Int)≤m.used):Inv { m with out:=l,how:=o,cod:=c,err:=e } :=
 ⟨h.cells,h.fuel,h.wmax,h.len,h.may,h.args,h.loc,h.st,by rw [if_neg h.not_wait];have:=h.high;show (m.st.length:Int)+0≤64;omega,h.calls,h.deep,h.place,h.used,hl,by rw [if_neg h.not_wait];have:=h.reads;show (m.reads.length:Int)+0≤m.used;omega,h.buf,h.few,by have:=h.cells;show -1≤m.wait∧m.wait<m.cells;rw [h.wait];omega,ho,h.none,hoe,fun q=>absurd q he,fun q=>absurd q h.idle⟩
theorem Mid.out' (h:Mid m) {l:List Nat} (hl:(l.length:Int)≤m.used):Inv { m with out:=l }:=by
 have:=h.ended 0 m.cod 0 (by omega) (by omega) (by omega) l hl
 have e:({ m with out:=l }:Mac)={ m with out:=l,how:=0,cod:=m.cod,err:=0 }:=by have h1:=h.how;have h2:=h.err;simp only [h1,h2]
 rw [e]
 exact this
theorem Mid.inv (h:Mid m):Inv m:=h.out' (l:=m.out) (by have:=h.out;omega)
theorem Mid.fails (h:Mid m) (e:Int) (he:e≠0∧e≠80):Inv (failM m e).1:=h.ended 3 0 e (by omega) ⟨fun _=>he.1,fun _=>rfl⟩ he.2 m.out (by have:=h.out;omega)
theorem Mid.readsSt (h:Mid m) {l:Wr} (hl:(l.length:Int)≤m.used):Inv { m with reads:=l } :=
 ⟨h.cells,h.fuel,h.wmax,h.len,h.may,h.args,h.loc,h.st,by rw [if_neg h.not_wait];have:=h.high;show (m.st.length:Int)+0≤64;omega,h.calls,h.deep,h.place,h.used,by have:=h.out;show (m.out.length:Int)≤m.used;omega,by rw [if_neg h.not_wait];show (l.length:Int)+0≤m.used;omega,h.buf,h.few,by have:=h.cells;show -1≤m.wait∧m.wait<m.cells;rw [h.wait];omega,by show 0≤m.how∧m.how≤3;rw [h.how];decide,h.none,by show m.how=3 ↔ m.err≠0;rw [h.how,h.err];decide,fun q=>by have q':m.err=80:=q;rw [h.err] at q';exact absurd q' (by decide),fun q=>absurd q h.idle⟩
theorem Mid.waits (h:Mid m) {c:Int} (hc:0≤c∧c<m.cells) (hl:m.st.length+1≤64):Inv { m with wait:=c } :=
 ⟨h.cells,h.fuel,h.wmax,h.len,h.may,h.args,h.loc,h.st,by rw [if_pos hc.1];show (m.st.length:Int)+1≤64;omega,h.calls,h.deep,h.place,h.used,by have:=h.out;show (m.out.length:Int)≤m.used;omega,by rw [if_pos hc.1];have:=h.reads;show (m.reads.length:Int)+1≤m.used;omega,h.buf,h.few,by show -1≤c∧c<m.cells;omega,by show 0≤m.how∧m.how≤3;rw [h.how];decide,h.none,by show m.how=3 ↔ m.err≠0;rw [h.how,h.err];decide,fun q=>by have q':m.err=80:=q;rw [h.err] at q';exact absurd q' (by decide),fun q=>absurd q h.idle⟩
theorem putC_len_le {l:Wr} {m:Int} {c:Int} (h:mayP m l c=true) (hf:(l.length:Int)≤m) (y:Nat):((putC l c y).length:Int)≤m:=by
 rw [putC_len]
 unfold mayP at h
 cases hh:hasC l c
 ·rw [hh] at h
  have:(l.length:Int)<m:=by simpa using h
  simp
  omega
 ·simpa using hf
theorem putC_all {l:Wr} {c:Int} {y:Nat} (h:∀ t∈l,okN t.2) (hy:okN y):∀ t∈putC l c y,okN t.2:=by
 intro t ht
 unfold putC at ht
 split at ht
 ·rcases List.mem_or_eq_of_mem_set ht with q | q
  ·exact h t q
  ·rw [q];exact hy
 ·rcases List.mem_append.1 ht with q | q
  ·exact h t q
  ·simp at q;rw [q];exact hy
theorem getC_ok {l:Wr} {c:Int} (h:∀ t∈l,okN t.2):okN (getC l c):=by
 unfold getC
 rw [List.getD_eq_getElem?_getD]
 cases hl:l[idx l c]? with
 | none=>exact okN_zero
 | some t=>exact h t (List.mem_of_getElem? hl)
theorem get_ok {l:List Nat} (h:∀ x∈l,okN x) (k:Nat):okN (l.getD k 0):=getD_all 0 okN_zero l h k
theorem drop_ok {l:List Nat} (h:∀ x∈l,okN x) (k:Nat):∀ x∈l.drop k,okN x:=fun x hx=>h x (List.mem_of_mem_drop hx)
theorem cons_ok {l:List Nat} {y:Nat} (hy:okN y) (h:∀ x∈l,okN x):∀ x∈y::l,okN x:=fun x hx=>by
 rcases List.mem_cons.1 hx with rfl | q
 ·exact hy
 ·exact h x q
theorem place_ok {k:Nat} {n:Int} {x many:Nat} (h:mayB ⟨k,n,x⟩ many=true) (hk:(shp k).kind=3) (hl:(shp k).lo=0):0≤n∧n≤(many:Int):=by
 unfold mayB fitsB outB at h
 simp only [Bool.and_eq_true,decide_eq_true_eq,Int.toNat_natCast,Bool.not_eq_true',Bool.and_eq_false_iff,decide_eq_false_iff_not] at h
 obtain ⟨⟨⟨_,h1⟩,h2⟩,_⟩:=h
 rw [hl] at h1
 rcases h2 with h2 | h2
 ·exact absurd hk h2
 ·omega
theorem inv_do (h:Mid m) {k:Nat} {n:Int} {x:Nat} (hi:mayB ⟨k,n,x⟩ m.code.length=true) (hx:x<18446744073709551616) (hr:roomB m ⟨k,n,x⟩=true):Inv (doM m ⟨k,n,x⟩).1:=by
 obtain ⟨hk,hlo,hhi⟩:=fits_parts hi
 obtain ⟨r1,r2,r3,r4⟩:=room_parts hr
 have hst:=h.st
 have hgh:=h.high
 have hkk:k=1∨k=2∨k=3∨k=4∨k=5∨k=6∨k=7∨k=8∨k=9∨k=10∨k=11∨k=12∨k=13∨k=14∨k=15∨k=16∨k=17∨k=18∨k=19∨k=20:=by omega
 rcases hkk with rfl | rfl | rfl | rfl | rfl | rfl | rfl | rfl | rfl | rfl | rfl | rfl | rfl | rfl | rfl | rfl | rfl | rfl | rfl | rfl
 ·have r3':(m.st.length:Int) - 0+1≤64:=r3
  exact (h.setSt (cons_ok (okN_fix hx) hst) (by simp;omega)).inv
 ·exact (h.setSt (drop_ok hst 1) (by simp;omega)).inv
 ·have r3':(m.st.length:Int) - 1+2≤64:=r3
  have r1':(1:Int)≤(m.st.length:Int):=r1 (by omega)
  exact (h.setSt (cons_ok (get_ok hst 0) hst) (by simp;omega)).inv
 ·have r3':(m.st.length:Int) - 2+2≤64:=r3
  have r1':(2:Int)≤(m.st.length:Int):=r1 (by omega)
  exact (h.setSt (cons_ok (get_ok hst 1) (cons_ok (get_ok hst 0) (drop_ok hst 2))) (by simp;omega)).inv
 ·have r3':(m.st.length:Int) - 0+1≤64:=r3
  exact (h.setSt (cons_ok (get_ok hst _) hst) (by simp;omega)).inv
 ·have r3':(m.st.length:Int) - 0+1≤64:=r3
  exact (h.setSt (cons_ok (h.args _) hst) (by simp;omega)).inv
 ·have r3':(m.st.length:Int) - 0+1≤64:=r3
  exact (h.setSt (cons_ok (h.loc _) hst) (by simp;omega)).inv
 ·exact ((h.setSt (drop_ok hst 1) (by simp;omega)).setLoc (fun j=>by show okN (if j=n.toNat then _ else _);split;exact get_ok hst 0;exact h.loc j)).inv
 ·have r3':(m.st.length:Int) - 1+1≤64:=r3
  have r1':(1:Int)≤(m.st.length:Int):=r1 (by omega)
  exact (h.setSt (cons_ok (okN_one n (get_ok hst 0)) (drop_ok hst 1)) (by simp;omega)).inv
 ·have r3':(m.st.length:Int) - 2+1≤64:=r3
  have r1':(2:Int)≤(m.st.length:Int):=r1 (by omega)
  exact (h.setSt (cons_ok (okN_two n (get_ok hst 1) (get_ok hst 0)) (drop_ok hst 2)) (by simp;omega)).inv
 ·exact (h.setPlace (place_ok hi rfl rfl)).inv
 ·have hp:=place_ok hi rfl rfl
  exact ((h.setSt (drop_ok hst 1) (by simp;omega)).setPlace (n:=if trueB (m.st.getD 0 0) then n else m.place) (by split;exact hp;exact h.place)).inv
 ·have hp:=place_ok hi rfl rfl
  exact ((h.setSt (drop_ok hst 1) (by simp;omega)).setPlace (n:=if trueB (m.st.getD 0 0) then m.place else n) (by split;exact h.place;exact hp)).inv
 ·have hc:=r4 rfl
  exact ((h.setCalls (c:=m.place::m.calls) (fun y hy=>by rcases List.mem_cons.1 hy with rfl | q;exact h.place;exact h.calls y q) (by simp;omega)).setPlace (place_ok hi rfl rfl)).inv
 ·show Inv (retM m).1
  cases hc:m.calls with
  | nil =>
   rw [retM_nil hc]
   exact h.ended 1 0 0 (by omega) (by omega) (by omega) m.out (by have:=h.out;omega)
  | cons c q =>
   rw [retM_cons hc]
   have hq:=h.calls
   have hd:=h.deep
   rw [hc] at hq hd
   simp at hd
   exact ((h.setCalls (c:=q) (fun y hy=>hq y (by simp [hy])) (by omega)).setPlace (hq c (by simp))).inv
 ·have r1':(1:Int)≤(m.st.length:Int):=r1 (by omega)
  have r3':(m.st.length:Int) - 1+1≤64:=r3
  show Inv (readM m).1
  unfold readM
  cases ha:addrB m with
  | false=>exact h.fails 50 (by omega)
  | true =>
   have hid:=idx_wf (m.st.getD 0 0) h.cells.2 ha
   cases hh:hasC m.buf (addrV m) with
   | false =>
    rw [if_pos rfl,if_neg Bool.false_ne_true]
    exact (h.setSt (drop_ok hst 1) (by simp;omega)).waits ⟨hid.1,hid.2.1⟩ (by simp;omega)
   | true =>
    rw [if_pos rfl,if_pos rfl]
    exact (h.setSt (cons_ok (getC_ok h.buf) (drop_ok hst 1)) (by simp;omega)).readsSt (l:=m.reads ++ [(addrV m,getC m.buf (addrV m))]) (by have:=h.reads;simp;omega)
 ·show Inv (writeM m).1
  unfold writeM
  cases hu:m.upd with
  | false=>exact h.fails 81 (by omega)
  | true =>
   cases ha:addrB m with
   | false=>exact h.fails 50 (by omega)
   | true =>
    cases hp:mayP m.wmax m.buf (addrV m) with
    | false=>exact h.fails 70 (by omega)
    | true =>
     have:=((h.setSt (drop_ok hst 2) (by simp;omega)).setBuf (l:=putC m.buf (addrV m) (m.st.getD 1 0)) (putC_all h.buf (get_ok hst 1)) (putC_len_le hp h.few _) (fun q=>by have q':m.upd=false:=q;rw [hu] at q';cases q')).inv
     rw [if_pos rfl,if_pos rfl,if_pos rfl]
     rw [← hu]
     exact this
 ·exact (h.setSt (drop_ok hst 1) (by simp;omega)).out' (l:=m.out ++ [m.st.getD 0 0]) (by have:=h.out;simp;omega)
 ·exact h.ended 2 n 0 (by omega) (by omega) (by omega) m.out (by have:=h.out;omega)
 ·exact h.ended 1 0 0 (by omega) (by omega) (by omega) m.out (by have:=h.out;omega)
theorem mid_beg (h:Inv m) (hw:¬ 0≤m.wait) (h0:m.how=0) (hf:m.used<m.fuel) (hp:m.place<(m.code.length:Int)):Mid (begM m):=by
 have h1:=h.high
 have h2:=h.reads
 rw [if_neg hw] at h1 h2
 have h3:=h.wait
 have h4:=h.used
 have h5:=h.place
 have h6:=h.out
 refine ⟨h.cells,h.fuel,h.wmax,h.len,h.may,h.args,h.loc,h.st,by show m.st.length≤64;omega,h.calls,h.deep,by show 0≤m.place+1∧m.place+1≤(m.code.length:Int);omega,by show 0≤m.used+1∧m.used+1≤m.fuel;omega,by show (m.out.length:Int)<m.used+1;omega,by show (m.reads.length:Int)<m.used+1;omega,h.buf,h.few,by show m.wait=-1;omega,h0,h.none,?_,fun q=>?_⟩
 ·show m.err=0
  by_cases he:m.err=0
  ·exact he
  ·exact absurd (h.fail.2 he) (by rw [h0];decide)
 ·have q':m.code=[]:=q
  rw [q'] at hp
  simp at hp
  omega
theorem inv_ended (h:Inv m) (e:Int) (he:e≠0) (hf:e=80→m.used=m.fuel):Inv (failM m e).1 :=
 ⟨h.cells,h.fuel,h.wmax,h.len,h.may,h.args,h.loc,h.st,h.high,h.calls,h.deep,h.place,h.used,h.out,h.reads,h.buf,h.few,h.wait,by show (0:Int)≤3∧(3:Int)≤3;decide,h.none,⟨fun _=>he,fun _=>rfl⟩,hf,h.idle⟩
theorem inv_step (h:Inv m):Inv (stepM m).1:=by
 unfold stepM
 by_cases hw:0≤m.wait
 ·rw [if_pos hw]
  exact h
 rw [if_neg hw]
 by_cases h0:m.how=0
 ·rw [if_pos h0]
  by_cases hf:m.used<m.fuel
  ·rw [if_pos hf]
   by_cases hp:m.place<(m.code.length:Int)
   ·rw [if_pos hp]
    have hM:=mid_beg h hw h0 hf hp
    have hk:m.place.toNat<m.code.length:=by have:=h.place;omega
    have hmay:=h.may _ hk
    cases hr:roomB (begM m) (insM m) with
    | false=>exact hM.fails 82 (by omega)
    | true =>
     rw [if_pos rfl]
     unfold insM at hr ⊢
     rcases hci:ci m.code m.place.toNat with ⟨o,n,x⟩
     rw [hci] at hmay hr
     obtain ⟨q,hq⟩:∃ q:Nat,o=q:=⟨o.toNat,by have:=hmay.1;unfold mayB knownB at this;simp at this;omega⟩
     subst hq
     exact inv_do hM hmay.1 hmay.2 hr
   ·rw [if_neg hp]
    exact inv_ended h 50 (by omega) (by omega)
  ·rw [if_neg hf]
   exact inv_ended h 80 (by omega) (fun _=>by have:=h.used;omega)
 ·rw [if_neg h0]
  exact h
theorem inv_give (h:Inv m) {x:Nat} (hx:x<18446744073709551616):Inv (giveM m x):=by
 unfold giveM
 by_cases hw:0≤m.wait
 ·rw [if_pos hw]
  have h1:=h.high
  have h2:=h.reads
  rw [if_pos hw] at h1 h2
  have h3:=h.cells
  exact ⟨h.cells,h.fuel,h.wmax,h.len,h.may,h.args,h.loc,cons_ok (okN_fix hx) h.st,by show ((fixB x::m.st).length:Int)+(if (0:Int)≤-1 then 1 else 0)≤64;rw [if_neg (by decide)];simp;omega,h.calls,h.deep,h.place,h.used,h.out,by show ((m.reads ++ [(m.wait,fixB x)]).length:Int)+(if (0:Int)≤-1 then 1 else 0)≤m.used;rw [if_neg (by decide)];simp;omega,h.buf,h.few,by show (-1:Int)≤-1∧(-1:Int)<m.cells;omega,h.how,h.none,h.fail,h.full,h.idle⟩
 ·rw [if_neg hw]
  exact h
theorem inv_new {a b f e t:Int} {c:List Ins} {l:List Nat} (hc:Md.cfgB a b f e=true) (hx:∀ k,k<c.length→(ci c k).x<18446744073709551616) (hl:∀ x∈l,x<18446744073709551616):Inv (newM a f e t c l):=by
 obtain ⟨h1,_,h3,h4⟩:=Md.cfgB_iff.1 hc
 have hcode:(if checkB t c then c else []).length≤1024∧∀ k,k<(if checkB t c then c else []).length→mayB (ci (if checkB t c then c else []) k) (if checkB t c then c else []).length=true∧(ci (if checkB t c then c else []) k).x<18446744073709551616:=by
  cases hq:checkB t c with
  | false=>exact ⟨by simp,fun k hk=>absurd hk (by simp)⟩
  | true =>
   have:=check_parts.1 hq
   rw [if_pos rfl]
   exact ⟨this.2.2.1,fun k hk=>⟨this.2.2.2 k hk,hx k hk⟩⟩
 refine ⟨h1,h3,h4,hcode.1,hcode.2,fun k=>okN_fix ?_,fun _=>okN_zero,fun x hx=>by simp [newM] at hx,by simp [newM],fun c hc=>by simp [newM] at hc,by simp [newM],by show (0:Int)≤0∧(0:Int)≤_;omega,by show (0:Int)≤0∧(0:Int)≤f;omega,by simp [newM],by simp [newM],fun t ht=>by simp [newM] at ht,by show ((([]:Wr).length:Nat):Int)≤e;simp;omega,by show (-1:Int)≤-1∧(-1:Int)<a;omega,by show (0:Int)≤0∧(0:Int)≤3;decide,fun _=>rfl,by show (0:Int)=3 ↔ (0:Int)≠0;decide,fun q=>absurd q (show ¬ (0:Int)=80 by decide),fun _=>rfl⟩
 exact getD_all (P:=fun x=>x<18446744073709551616) 0 (by decide) l hl k
end
end Go.Proofs.YteinilmecnlanabGreatDoor
namespace Go.Proofs.YteinilmecnlanabGreatDoor
open Go.ChangeShapes Go.WideShapes Go.ChangeAt Go.RowKit Num
attribute [local go_sem] run_store_float
end Go.Proofs.YteinilmecnlanabGreatDoor
namespace Go.Proofs.YteinilmecnlanabGreatDoor
open Go.ChangeShapes Go.WideShapes Go.ChangeAt Go.RowKit Num
attribute [local go_sem] run_store_float
theorem end_eq (h c e:Int) (w:World):(Op.equalIn 10000 57 (.agg #[.int .i64 h,.int .i64 c,.int .i64 e]) (.agg #[.int .i64 h,.int .i64 c,.int .i64 e])).run Tryz.prog w=.ok true w:=by
 have u3:=Tryz.underlying3
 have a3:=Tryz.isAgg3
 have z3:=Tryz.sizeOf3
 have u4:=Tryz.underlying48
 have a4:=Tryz.isAgg48
 have z4:=Tryz.sizeOf48
 have hS:Tryz.prog.underlying 57=some (.struct (Tryz.prog.fieldsOf 57)):=by kernel_rfl
 rw [show (10000:Nat)=9999+1 from rfl,run_equalIn_agg w 9999 57 _ _ hS (by kernel_rfl)]
 simp only [Program.fieldsOf,Tryz.underlying57]
 go_simp
end Go.Proofs.YteinilmecnlanabGreatDoor
namespace Go.Proofs.YteinilmecnlanabGreatDoor
open Go.ChangeShapes Go.WideShapes Go.ChangeAt Go.RowKit Num
def rlo (k:Nat):Int:=if (shp k).kind=3 then -1 else (shp k).lo
def rhi (k:Nat):Int:=if (shp k).kind=3 then -1 else (shp k).hi
def rowC (k:Nat):List Value:=[strB (shp k).word,.int .i64 (rlo k),.int .i64 (rhi k),.int .i64 (shp k).takes,.int .i64 (shp k).lays]
def rowsC:List Value:=(List.range 21).flatMap rowC
def rowsO:Obj:=.cells rowsC.toArray 181
theorem rowsC_at:∀ k,k<21→rowsC[k*5]?=some (strB (shp k).word)∧rowsC[k*5+1]?=some (.int .i64 (rlo k))∧rowsC[k*5+2]?=some (.int .i64 (rhi k))∧rowsC[k*5+3]?=some (.int .i64 (shp k).takes)∧rowsC[k*5+4]?=some (.int .i64 (shp k).lays):=by
 intro k hk
 have h:∀ (n:Nat) (l:List Nat) (m:Nat),l[n]?=some m→∀ j,j<5→(l.flatMap rowC)[n*5+j]?=(rowC m)[j]?:=by
  intro n
  induction n with
  | zero =>
   intro l m hm j hj
   cases l with
   | nil=>simp at hm
   | cons a t =>
    simp at hm
    subst hm
    rw [List.flatMap_cons,List.getElem?_append_left (by simp [rowC];omega)]
    simp
  | succ n ih =>
   intro l m hm j hj
   cases l with
   | nil=>simp at hm
   | cons a t =>
    rw [List.flatMap_cons,List.getElem?_append_right (by simp [rowC];omega)]
    have e:(n+1)*5+j - (rowC a).length=n*5+j:=by simp [rowC];omega
    rw [e]
    exact ih t m (by simpa using hm) j hj
 have g:=h k (List.range 21) k (by simp [hk])
 unfold rowsC
 exact ⟨g 0 (by decide),g 1 (by decide),g 2 (by decide),g 3 (by decide),g 4 (by decide)⟩
structure RowsAt (w:World) (b:Nat):Prop where
 lt:b<w.heap.size
 row:∀ k,k<21→w.cell? ⟨b,k*5,none⟩=some (strB (shp k).word)∧w.cell? ⟨b,k*5+1,none⟩=some (.int .i64 (rlo k))∧w.cell? ⟨b,k*5+2,none⟩=some (.int .i64 (rhi k))∧w.cell? ⟨b,k*5+3,none⟩=some (.int .i64 (shp k).takes)∧w.cell? ⟨b,k*5+4,none⟩=some (.int .i64 (shp k).lays)
theorem rowsO_at (w:World):RowsAt (w.alloc rowsO) w.heap.size:=by
 have h:=heap_alloc_new w rowsO
 refine ⟨lt_of_block h,fun k hk=>?_⟩
 obtain ⟨c0,c1,c2,c3,c4⟩:=rowsC_at k hk
 refine ⟨?_,?_,?_,?_,?_⟩
 ·rw [cell_of_row _ _ _ _ _ _ h];simpa using c0
 ·rw [cell_of_row _ _ _ _ _ _ h];simpa using c1
 ·rw [cell_of_row _ _ _ _ _ _ h];simpa using c2
 ·rw [cell_of_row _ _ _ _ _ _ h];simpa using c3
 ·rw [cell_of_row _ _ _ _ _ _ h];simpa using c4
theorem rows_any (w:World):Calls Tryz.prog 111 #[] w fun e w'=>e=.returned (.slice (some ⟨w.heap.size,0,none⟩) 21 21)∧w'=w.alloc rowsO:=by
 go_enter Tryz.func111,Tryz.ntmps111
 go_wp2
 go_ret
 exact ⟨rfl,rfl⟩
end Go.Proofs.YteinilmecnlanabGreatDoor
namespace Go.Proofs.YteinilmecnlanabGreatDoor
open Go.ChangeShapes Go.WideShapes Go.ChangeAt Go.RowKit Num
attribute [local go_sem] run_store_float
theorem refEffect_some (k:Nat) (w:World) (hk:k<21) (h1:1≤k):Calls Tryz.prog 92 #[.int .i64 k] w fun e w'=>e=.returned (.tuple #[.int .i64 (shp k).takes,.int .i64 (shp k).lays,.int .i64 0])∧Below w.heap.size w w':=by
 have hr:=fun w=>(rowsO_at w).row k hk
 have c0:=fun w=>(hr w).1
 have c1:=fun w=>(hr w).2.1
 have c2:=fun w=>(hr w).2.2.1
 have c3:=fun w=>(hr w).2.2.2.1
 have c4:=fun w=>(hr w).2.2.2.2
 clear hr
 have hk':(k:Int)<21:=by omega
 have hk2:¬ (k:Int)<1:=by omega
 have hk3:¬ 20<(k:Int):=by omega
 generalize (shp k).takes=t at *
 generalize (shp k).lays=l at *
 unfold strB at c0
 generalize (shp k).word=wd at *
 generalize rlo k=lo at *
 generalize rhi k=hi at *
 go_enter Tryz.func92,Tryz.ntmps92
 go_wp2_with (first
  | (go_at_call 111;refine (rows_any _).mono ?_;rintro e w' ⟨rfl,hw⟩;subst w'))
 go_region_with (go_at_call 111;refine (rows_any _).mono ?_;rintro e w' ⟨rfl,hw⟩;subst w')
 all_goals go_wp2
 all_goals go_ret3
 all_goals exact ⟨rfl,by repeat (first | exact Below.refl _ _ | apply bl_alloc | apply bl_drewN | apply bl_drew)⟩
theorem rlo_place {k:Nat} (h:(shp k).kind=3):rlo k=-1:=by unfold rlo;rw [if_pos h]
theorem rlo_else {k:Nat} (h:(shp k).kind≠3):rlo k=(shp k).lo:=by unfold rlo;rw [if_neg h]
theorem rhi_else {k:Nat} (h:(shp k).kind≠3):rhi k=(shp k).hi:=by unfold rhi;rw [if_neg h]
theorem rows_cells (k:Nat) (hk:k<21) (u:World) (b:Nat) (hb:b=u.heap.size):(u.alloc rowsO).cell? ⟨b,k*5,none⟩=some (strB (shp k).word)∧(u.alloc rowsO).cell? ⟨b,k*5+1,none⟩=some (.int .i64 (rlo k))∧(u.alloc rowsO).cell? ⟨b,k*5+2,none⟩=some (.int .i64 (rhi k))∧(u.alloc rowsO).cell? ⟨b,k*5+3,none⟩=some (.int .i64 (shp k).takes)∧(u.alloc rowsO).cell? ⟨b,k*5+4,none⟩=some (.int .i64 (shp k).lays):=by
 subst hb
 exact (rowsO_at u).row k hk
theorem lo_pos:∀ k,k<21→0≤(shp k).lo:=by decide +kernel
theorem may_any (i:Ins) (many:Nat) (w:World) (hm:many≤1024):Calls Tryz.prog 91 #[insV i,.int .i64 many] w fun e w'=>e=.returned (.bool (mayB i many))∧Below w.heap.size w w':=by
 obtain ⟨op,n,x⟩:=i
 unfold insV
 simp only
 cases hkn:knownB op with
 | false =>
  have h':op<1∨20<op:=by
   unfold knownB at hkn
   simp at hkn
   omega
  have e:mayB ⟨op,n,x⟩ many=false:=by unfold mayB;simp [hkn]
  rw [e]
  rcases h' with q | q
  ·go_enter Tryz.func91,Tryz.ntmps91
   go_wp2
   go_ret
   exact ⟨rfl,box5 _ _⟩
  ·have q2:¬ op<1:=by omega
   go_enter Tryz.func91,Tryz.ntmps91
   go_wp2
   go_ret
   exact ⟨rfl,box5 _ _⟩
 | true =>
  have hop:0<op∧op≤20:=by unfold knownB at hkn;simpa using hkn
  obtain ⟨k,rfl⟩:∃ k:Nat,op=k:=⟨op.toNat,by omega⟩
  have hk:k<21:=by omega
  have HE:Hid (mayB ⟨k,n,x⟩ many=(true && fitsB k n && !outB k n many && (decide ((k:Int)=1) || fixB x == 0))):=by
   show mayB _ _=_
   unfold mayB
   rw [hkn]
   rfl
  have hk1:¬ (k:Int)<1:=by omega
  have hk2:¬ 20<(k:Int):=by omega
  have hk3:(k:Int)<21:=by omega
  by_cases hx:(k:Int)=1∨fixB x=0
  ·have hx':(decide ((k:Int)=1) || fixB x == 0)=true:=by simpa using hx
   have c0:=fun u b hb=>(rows_cells k hk u b hb).1
   have c1:=fun u b hb=>(rows_cells k hk u b hb).2.1
   have c2:=fun u b hb=>(rows_cells k hk u b hb).2.2.1
   have c3:=fun u b hb=>(rows_cells k hk u b hb).2.2.2.1
   have c4:=fun u b hb=>(rows_cells k hk u b hb).2.2.2.2
   have H3:=Lib.hid (fun h=>kind_3 k hk h)
   have HL:=Lib.hid (lo_pos k hk)
   generalize (shp k).takes=t at *
   generalize (shp k).lays=l at *
   unfold strB at c0
   generalize (shp k).word=wd at *
   by_cases h3:(shp k).kind=3
   ·rw [rlo_place h3] at c1
    obtain ⟨h1k,h4,h5⟩:=H3.out h3
    generalize rhi k=hi at *
    clear HL H3
    have HF:Hid (mayB ⟨k,n,x⟩ many=(decide (0≤n) && decide (n<(many:Int)))):=by
     show mayB _ _=_
     rw [HE.out,hx']
     unfold fitsB outB
     rw [h4,h5,decide_eq_true h3]
     by_cases a1:0≤n
     ·by_cases a2:n<(many:Int)
      ·have a3:n≤1023:=by omega
       have a4:¬ (many:Int)≤n:=by omega
       simp [a1,a2,a3,a4]
      ·have a4:(many:Int)≤n:=by omega
       simp [a1,a2,a4]
     ·simp [a1]
    have hx0:fixB x=0:=hx.resolve_left (by omega)
    have hx2:((k:Int) != 1)=true:=by simp;omega
    clear HE h3 h4 h5 hx hx' h1k
    go_enter Tryz.func91,Tryz.ntmps91
    go_wp2_with (first
     | (go_at_call 81;refine (refBits_any _ _).mono ?_;rintro e w' ⟨rfl,hw⟩;subst w'))
    go_region_with (go_at_call 111;refine (rows_any _).mono ?_;rintro e w' ⟨rfl,hw⟩;subst w')
    clear c0 c1 c2 c3 c4
    all_goals go_wp2
    all_goals go_ret
    all_goals exact ⟨by rw [HF.out];simp <;> omega,by repeat (first | exact Below.refl _ _ | apply bl_alloc | apply bl_drewN | apply bl_drew)⟩
   ·rw [rlo_else h3] at c1
    rw [rhi_else h3] at c2
    have HF:Hid (mayB ⟨k,n,x⟩ many=(decide ((shp k).lo≤n) && decide (n≤(shp k).hi))):=by
     show mayB _ _=_
     rw [HE.out,hx']
     unfold fitsB outB
     rw [decide_eq_false h3]
     simp
    have hl0:¬ (shp k).lo<0:=by have:=HL.out;omega
    clear HE H3 HL h3 hx'
    generalize (shp k).lo=lo at *
    generalize (shp k).hi=hi at *
    cases hk9:((k:Int) != 1) with
    | true =>
     have hx0:fixB x=0:=hx.resolve_left (by simpa using hk9)
     clear hx
     go_enter Tryz.func91,Tryz.ntmps91
     go_wp2_with (first
      | (go_at_call 81;refine (refBits_any _ _).mono ?_;rintro e w' ⟨rfl,hw⟩;subst w'))
     go_region_with (go_at_call 111;refine (rows_any _).mono ?_;rintro e w' ⟨rfl,hw⟩;subst w')
     clear c0 c1 c2 c3 c4
     all_goals go_wp2
     all_goals go_ret
     all_goals exact ⟨by rw [HF.out];simp <;> omega,by repeat (first | exact Below.refl _ _ | apply bl_alloc | apply bl_drewN | apply bl_drew)⟩
    | false =>
     clear hx
     go_enter Tryz.func91,Tryz.ntmps91
     go_wp2
     go_region_with (go_at_call 111;refine (rows_any _).mono ?_;rintro e w' ⟨rfl,hw⟩;subst w')
     clear c0 c1 c2 c3 c4
     all_goals go_wp2
     all_goals go_ret
     all_goals exact ⟨by rw [HF.out];simp <;> omega,by repeat (first | exact Below.refl _ _ | apply bl_alloc | apply bl_drewN | apply bl_drew)⟩
  ·have hx2:((k:Int) != 1)=true:=by simpa using fun q=>hx (.inl q)
   have hx3:(((fixB x:Nat):Int) != 0)=true:=by
    have:fixB x≠0:=fun q=>hx (.inr q)
    simp
    exact this
   have e:mayB ⟨k,n,x⟩ many=false:=by
    rw [HE.out]
    have h1:¬ (k:Int)=1:=fun q=>hx (.inl q)
    have h2:¬ fixB x=0:=fun q=>hx (.inr q)
    rw [decide_eq_false h1,beq_eq_false_iff_ne.2 h2]
    simp
   rw [e]
   clear HE hx
   go_enter Tryz.func91,Tryz.ntmps91
   go_wp2_with (first
    | (go_at_call 81;refine (refBits_any _ _).mono ?_;rintro e w' ⟨rfl,hw⟩;subst w'))
   go_ret
   exact ⟨rfl,box5 _ _⟩
end Go.Proofs.YteinilmecnlanabGreatDoor
namespace Go.Proofs.YteinilmecnlanabGreatDoor
open Go.ChangeShapes Go.WideShapes Go.ChangeAt Go.RowKit Num
attribute [local go_sem] run_store_float
theorem refCheck_any {w:World} (t:Int) {ao:Option Addr} {c:List Ins} (cap:Nat) (hc:CodeAt w ao c) (hl:c.length≤9223372036854775807) :
  Calls Tryz.prog 71 #[progV t ao c.length cap] w fun e w'=>e=.returned (.int .i64 (checkE t c))∧Below w.heap.size w w':=by
 unfold progV
 by_cases ht:t=1∨t=2
 ·by_cases hn:c.length<1∨1024<c.length
  ·rw [checkE_no (check_false (fun q=>by omega))]
   clear hc
   generalize c.length=n at *
   rcases ht with rfl | rfl <;> rcases hn with hn | hn
   ·obtain rfl:n=0:=by omega
    go_enter Tryz.func71,Tryz.ntmps71
    go_wp2
    go_ret
    exact ⟨rfl,box5 _ _⟩
   ·have h1:¬ (n:Int)<1:=by omega
    have h2:(1024:Int)<n:=by omega
    go_enter Tryz.func71,Tryz.ntmps71
    go_wp2
    go_ret
    exact ⟨rfl,box5 _ _⟩
   ·obtain rfl:n=0:=by omega
    go_enter Tryz.func71,Tryz.ntmps71
    go_wp2
    go_ret
    exact ⟨rfl,box5 _ _⟩
   ·have h1:¬ (n:Int)<1:=by omega
    have h2:(1024:Int)<n:=by omega
    go_enter Tryz.func71,Tryz.ntmps71
    go_wp2
    go_ret
    exact ⟨rfl,box5 _ _⟩
  ·have h1:¬ ((c.length:Nat):Int)<1:=by omega
   have h2:((c.length:Nat):Int)≤1024:=by omega
   have HC:=Lib.hid hc
   have HN:=Lib.hid hn
   clear hc hn
   have HX:=Lib.hid (heap_alloc_new w (.cells #[.int .i64 t,.slice ao c.length cap] 26))
   have HB1:=Lib.hid (box5 w (.cells #[.int .i64 t,.slice ao c.length cap] 26))
   rcases ht with rfl | rfl
   all_goals go_enter Tryz.func71,Tryz.ntmps71
   all_goals go_wp2
   all_goals (go_loopw [28] (fun vi wr=>∃ (i:Nat),vi=.int .i64 i∧i≤c.length∧Hid (∀ j,j<i→mayB (ci c j) c.length=true)∧Hid (Below (w.heap.size+1) (w.alloc (.cells #[.int .i64 _,.slice ao c.length cap] 26)) wr)) (fun vi _=>c.length - (intOf vi).toNat))
   case atStart=>exact ⟨0,rfl,Nat.zero_le _,fun j hj=>absurd hj (Nat.not_lt_zero j),Below.refl _ _⟩
   case atStart=>exact ⟨0,rfl,Nat.zero_le _,fun j hj=>absurd hj (Nat.not_lt_zero j),Below.refl _ _⟩
   all_goals (
    obtain ⟨i,rfl,hi,HM,HB⟩:=hrel
    have HBW:=Lib.hid (HB1.out.trans (HB.out.mono (Nat.le_succ _)))
    by_cases hlt:i<c.length
    ·have hlt':(i:Int)<(c.length:Int):=by omega
     obtain ⟨b0,off,hao,hbW,k0,k1,k2⟩:=HC.out i hlt
     subst hao
     rw [← HBW.out.cell (p:=⟨b0,off+i*3,none⟩) hbW] at k0
     rw [← HBW.out.cell (p:=⟨b0,off+i*3+1,none⟩) hbW] at k1
     rw [← HBW.out.cell (p:=⟨b0,off+i*3+2,none⟩) hbW] at k2
     have hbw:b0<wr.heap.size:=Nat.lt_of_lt_of_le hbW HBW.out.size
     obtain ⟨q0,q1,q2⟩:=cells2_of ((HB.out.block w.heap.size (Nat.lt_succ_self _)).trans HX.out)
     have HMB:=Lib.hid (fun w'=>may_any (ci c i) c.length w' (by omega))
     cases hmb:mayB (ci c i) c.length with
     | true =>
      rw [hmb] at HMB
      have HM2:Hid (∀ j,j<i+1→mayB (ci c j) c.length=true):=fun j hj=>by
       rcases Nat.lt_succ_iff_lt_or_eq.1 hj with q | rfl
       ·exact HM.out j q
       ·exact hmb
      generalize ci c i=z at k0 k1 k2 HMB
      obtain ⟨zo,zn,zx⟩:=z
      unfold insV at HMB
      simp only at k0 k1 k2 HMB
      clear hbW hmb HM
      go_wp2_with (first
       | (go_at_call 91;refine (HMB.out _).mono ?_;rintro e w2 ⟨rfl,hb2⟩;have HB2:=Lib.hid (HB.out.trans ((chain5 (box5 _ _) hb2).mono (Nat.le_trans (by simp) HB.out.size)));clear hb2))
      exact ⟨⟨i+1,by first | rfl | (congr 1),by omega,HM2,HB2⟩,by simp [intOf];omega⟩
     | false =>
      rw [hmb] at HMB
      have HNO:=Lib.hid (fun t=>checkE_no (t:=t) (check_false (fun q=>by have:=q.2.2.2 i hlt;rw [hmb] at this;cases this)))
      generalize ci c i=z at k0 k1 k2 HMB
      obtain ⟨zo,zn,zx⟩:=z
      unfold insV at HMB
      simp only at k0 k1 k2 HMB
      clear hbW hmb HM
      go_wp2_with (first
       | (go_at_call 91;refine (HMB.out _).mono ?_;rintro e w2 ⟨rfl,hb2⟩;have HB2:=Lib.hid (chain5 HBW.out (chain5 (box5 _ _) hb2));clear hb2))
      go_ret
      exact ⟨by rw [HNO.out];rfl,HB2.out⟩
    ·have hlt':¬ (i:Int)<(c.length:Int):=by omega
     have HYES:=Lib.hid (fun t ht=>checkE_yes (t:=t) (check_parts.2 ⟨ht,by have:=HN.out;omega,by omega,fun k hk=>HM.out k (by omega)⟩))
     go_wp2
     go_ret
     exact ⟨by rw [HYES.out _ (by first | exact .inl rfl | exact .inr rfl)];rfl,HBW.out⟩)
 ·rw [checkE_no (check_false (fun q=>ht q.1))]
  have h1:(t != 1)=true:=by simpa using fun q=>ht (.inl q)
  have h2:(t != 2)=true:=by simpa using fun q=>ht (.inr q)
  clear hc ht
  go_enter Tryz.func71,Tryz.ntmps71
  go_wp2
  go_ret
  exact ⟨rfl,box5 _ _⟩
end Go.Proofs.YteinilmecnlanabGreatDoor
namespace Go.Proofs.YteinilmecnlanabGreatDoor
open Go.ChangeShapes Go.WideShapes Go.ChangeAt Go.RowKit Num
attribute [local go_sem] run_store_float
structure Rp where
 th:Int
 tg:Int
 pk:Option Addr
 nk:Nat
 ck:Nat
 bad:Bool
 pa:Option Addr
 na:Nat
 ca:Nat
 ps:Option Addr
 cs:Nat
 pc:Option Addr
 cc:Nat
 bl:Nat
 cl:Nat
 pt:Option Addr
 ct:Nat
 pr:Option Addr
 cr:Nat
 pb:Option Addr
 cb:Nat
def rboxV (m:Mac) (q:Rp):Array Value:=#[.int .i64 m.cells,.int .i64 q.th,.int .i64 m.fuel,.int .i64 m.wmax,.int .i64 q.tg,.slice q.pk q.nk q.ck,.bool q.bad,.slice q.pa q.na q.ca,.slice q.ps m.st.length q.cs,.slice q.pc m.calls.length q.cc,.slice (some ⟨q.bl,0,none⟩) 8 q.cl,
 .int .i64 m.place,.int .i64 m.used,.int .i64 m.wait,.int .i64 m.how,.int .i64 m.cod,.int .i64 m.err,.slice q.pt m.out.length q.ct,.slice q.pr m.reads.length q.cr,.slice q.pb m.buf.length q.cb]
theorem fMake8 (w:World):(Instr.makeSlice 27 (.int .i64 8) (.int .i64 8)).run Tryz.prog w=.ok (.slice (some ⟨w.heap.size,0,none⟩) 8 8) (w.alloc (.cells #[.float .f64 0,.float .f64 0,.float .f64 0,.float .f64 0,.float .f64 0,.float .f64 0,.float .f64 0,.float .f64 0] 64)):=fMake 8 (by omega) w
section
variable {w:World}
theorem rnew_cfg (a b c e t:Int) (ao:Option Addr) (n cap:Nat) (po:Option Addr) (k co:Nat) (hc:Md.cfgB a b c e=false):Calls Tryz.prog 47 #[cfgV a b c e,.agg #[.int .i64 t,.slice ao n cap],.slice po k co] w fun r w'=>r=.returned (.pointer none)∧Below w.heap.size w w':=by
 have HP:=Lib.hid (Md.refPlace_any a b c e (newW w a b c e t ao n cap))
 rw [hc] at HP
 clear hc
 go_enter Tryz.func47,Tryz.ntmps47
 go_wp2_with (go_at_call 22;refine HP.out.mono ?_;rw [if_neg Bool.false_ne_true];rintro r u0 ⟨rfl,q⟩;have HQ:=Lib.hid (newW_boxes q).2.2;clear q HP)
 go_ret
 exact ⟨rfl,HQ.out.alloc HQ.out.size _⟩
theorem rnew_args (a b c e t:Int) (ao:Option Addr) (n cap:Nat) (po:Option Addr) (k co:Nat) (hc:Md.cfgB a b c e=true) (hk:8<k):Calls Tryz.prog 47 #[cfgV a b c e,.agg #[.int .i64 t,.slice ao n cap],.slice po k co] w fun r w'=>r=.returned (.pointer none)∧Below w.heap.size w w':=by
 have HP:=Lib.hid (Md.refPlace_any a b c e (newW w a b c e t ao n cap))
 rw [hc] at HP
 have hk':(8:Int)<(k:Int):=by omega
 clear hc
 go_enter Tryz.func47,Tryz.ntmps47
 go_wp2_with (go_at_call 22;refine HP.out.mono ?_;rw [if_pos rfl];rintro r u0 ⟨rfl,q⟩;have HQ:=Lib.hid (newW_boxes q).2.2;clear q HP)
 go_ret
 exact ⟨rfl,HQ.out.alloc HQ.out.size _⟩
theorem newW_boxes4 {w u:World} {a b c e t:Int} {ao:Option Addr} {n cap:Nat} (h:Below (newW w a b c e t ao n cap).heap.size (newW w a b c e t ao n cap) u) :
  u.cell? ⟨w.heap.size,0,none⟩=some (.int .i64 a)∧u.cell? ⟨w.heap.size,1,none⟩=some (.int .i64 b)∧u.cell? ⟨w.heap.size,2,none⟩=some (.int .i64 c)∧u.cell? ⟨w.heap.size,3,none⟩=some (.int .i64 e)∧w.heap.size<u.heap.size:=by
 have b1:u.heap[w.heap.size]?=some (cfgO a b c e):=(h.block _ (by simp;omega)).trans ((heap_alloc_old _ _ (by simp)).trans (heap_alloc_new w _))
 exact Md.cells4 b1
abbrev locO:Obj:=.cells #[.float .f64 0,.float .f64 0,.float .f64 0,.float .f64 0,.float .f64 0,.float .f64 0,.float .f64 0,.float .f64 0] 64
abbrev rbO (m:Mac) (q:Rp):Obj:=.cells (rboxV m q) 88
structure RNew (w wr:World) (m:Mac) (q:Rp) (br:Nat) (l:List Nat):Prop where
 box:wr.heap[br]?=some (rbO m q)
 loc:wr.heap[q.bl]?=some locO
 row:RowAt 64 wr q.pa q.ca (fls l)
 na:q.na=l.length
 ne:br≠q.bl
 n1:br∉fpR q.pa
 n2:q.bl∉fpR q.pa
 a1:w.heap.size≤br
 a2:w.heap.size≤q.bl
 a3:Abv w.heap.size (fpR q.pa)
 bl:Below w.heap.size w wr
theorem RNew.more {w wr w3:World} {m:Mac} {q:Rp} {br x:Nat} {l:List Nat} {v:Value} {o:Obj} (h:RNew w wr m q br l) (hown:w3.ownsRow 0 64 1 v (l.length+1) (fls l ++ [.float .f64 x])) (hg:(wr.alloc o).grownBy w3 (Value.slice q.pa l.length q.ca).ownBlock) (hat:v.ownBlock=(Value.slice q.pa l.length q.ca).ownBlock∨v.ownBlock=some (wr.alloc o).heap.size) :
  ∃ p' c',v=.slice p' (l.length+1) c'∧w3.heap[br]?=some (rbO m q)∧RNew w (w3.setCell ⟨br,7,none⟩ (.slice p' (l.length+1) c')) m { q with pa:=p',na:=l.length+1,ca:=c' } br (l ++ [x]):=by
 obtain ⟨p',c',rfl,hr⟩:=ownsRow_slice hown
 have hl:(fls l ++ [Value.float .f64 x]).length=l.length+1:=by simp [fls_len]
 rw [hl] at hat ⊢
 have g:wr.grownBy w3 (Value.slice q.pa l.length q.ca).ownBlock:=(World.grownBy_alloc wr o _).trans hg
 have ho:∀ k,k∈fpR p'→k∈fpR q.pa∨wr.heap.size≤k:=own_at hat (by simp)
 have hb3:w3.heap[br]?=some (rbO m q):=(g.block br (lt_of_block h.box) (fun z=>h.n1 (own_fpR.2 z.symm))).trans h.box
 have hl3:w3.heap[q.bl]?=some locO:=(g.block q.bl (lt_of_block h.loc) (fun z=>h.n2 (own_fpR.2 z.symm))).trans h.loc
 have m1:br∉fpR p':=fun z=>(ho br z).elim h.n1 (fun y=>absurd (lt_of_block h.box) (Nat.not_lt.2 y))
 have m2:q.bl∉fpR p':=fun z=>(ho q.bl z).elim h.n2 (fun y=>absurd (lt_of_block h.loc) (Nat.not_lt.2 y))
 have hsz:=h.bl.size
 have hgs:=g.size
 refine ⟨p',c',rfl,hb3,⟨?_,?_,?_,by simp,h.ne,m1,m2,h.a1,h.a2,fun k hk=>(ho k hk).elim (h.a3 k) (fun y=>by omega),?_⟩⟩
 ·exact (heap_setCell_same w3 br 7 _ _ _ hb3).trans rfl
 ·exact (heap_setCell_other _ _ _ _ (by simpa using h.ne.symm)).trans hl3
 ·rw [fls_snoc]
  exact hr.keep ⟨by simp,fun k hk=>heap_setCell_other _ _ _ _ (by rintro rfl;exact m1 hk)⟩
 ·refine ⟨g.os.trans h.bl.os,g.tape.trans h.bl.tape,g.output.trans h.bl.output,by simp;omega,fun k hk=>?_⟩
  have e1:k≠br:=by have:=h.a1;omega
  have e2:(some k:Option Nat)≠(Value.slice q.pa l.length q.ca).ownBlock:=fun z=>by have:=h.a3 k (own_fpR.2 z.symm);omega
  exact (heap_setCell_other _ _ _ _ (by simpa using e1)).trans ((g.block k (by omega) e2).trans (h.bl.block k hk))
theorem eight_take (f:Nat→Nat) {j:Nat} (h:j<8):(eight f).take (j+1)=(eight f).take j ++ [f j]:=by
 match j,h with
 | 0,_=>rfl
 | 1,_=>rfl
 | 2,_=>rfl
 | 3,_=>rfl
 | 4,_=>rfl
 | 5,_=>rfl
 | 6,_=>rfl
 | 7,_=>rfl
theorem eight_len (f:Nat→Nat) {j:Nat} (h:j≤8):((eight f).take j).length=j:=by rw [List.length_take];simp [eight];omega
def rq0 (b t:Int) (ao:Option Addr) (n cap:Nat) (bad:Bool) (bl:Nat):Rp:=⟨b,t,ao,n,cap,bad,none,0,0,none,0,none,0,bl,8,none,0,none,0,none,0⟩
theorem bl_same0 {N u:World} (h:Below N.heap.size N u):Below N.heap.size N u.drew:=h.trans ((Same.drew _).below _)
theorem bl_alloc0 {N u:World} (h:Below N.heap.size N u) (o:Obj):Below N.heap.size N (u.drew.alloc o):=(bl_same0 h).alloc (bl_same0 h).size o
theorem start_a {w v:World} (h:Below w.heap.size w v) {m:Mac} {b t:Int} {ao:Option Addr} {n cap:Nat} {bad:Bool}:RNew w ((v.alloc locO).alloc (rbO m (rq0 b t ao n cap bad v.heap.size))) m (rq0 b t ao n cap bad v.heap.size) (v.heap.size+1) []:=by
 have hs:=h.size
 refine ⟨heap_new (by simp),(heap_alloc_old _ _ (by simp [rq0])).trans (heap_new rfl),⟨World.ownsRow_nil _ _ _ _⟩,rfl,by simp [rq0],by simp [fpR,rq0],by simp [fpR,rq0],by omega,by show w.heap.size≤v.heap.size;omega,fun k hk=>by simp [fpR,rq0] at hk,?_⟩
 exact (h.alloc h.size _).alloc (by simp;omega) _
theorem start_b {w v:World} (h:Below w.heap.size w v) {m:Mac} {b t:Int} {ao:Option Addr} {n cap bl:Nat} {bad:Bool} (hl:v.heap[bl]?=some locO) (ha:w.heap.size≤bl):RNew w (v.alloc (rbO m (rq0 b t ao n cap bad bl))) m (rq0 b t ao n cap bad bl) v.heap.size []:=by
 have hs:=h.size
 have hlt:=lt_of_block hl
 refine ⟨heap_new rfl,(heap_alloc_old _ _ hlt).trans hl,⟨World.ownsRow_nil _ _ _ _⟩,rfl,by show v.heap.size≠bl;omega,by simp [fpR,rq0],by simp [fpR,rq0],by omega,ha,fun k hk=>by simp [fpR,rq0] at hk,h.alloc h.size _⟩
theorem rnew_some {a b c e t:Int} {ao:Option Addr} {cs:List Ins} {n cap:Nat} {po:Option Addr} {l:List Nat} {k co:Nat} (hc:Md.cfgB a b c e=true) (hn:cs.length=n) (hk:l.length=k) (hk8:k≤8) (hC:CodeAt w ao cs) (hL:FlAt w po l) (hnl:n≤9223372036854775807):Calls Tryz.prog 47 #[cfgV a b c e,.agg #[.int .i64 t,.slice ao n cap],.slice po k co] w fun r w'=>∃ br bl pa ca,r=.returned (.pointer (some ⟨br,0,none⟩))∧RNew w w' (newM a c e t cs l) { rq0 b t ao n cap (!checkB t cs) bl with pa:=pa,na:=8,ca:=ca } br (eight (argF l)):=by
 have HP:=Lib.hid (Md.refPlace_any a b c e (newW w a b c e t ao n cap))
 rw [hc] at HP
 have hk':¬ (8:Int)<(k:Int):=by omega
 have HCK:Hid (∀ u,Below w.heap.size w u→Calls Tryz.prog 71 #[.agg #[.int .i64 t,.slice ao n cap]] u fun r w'=>r=.returned (.int .i64 (checkE t cs))∧Below u.heap.size u w'):=fun u hb=>by
  have:=refCheck_any t cap (hC.on hb) (by omega)
  rw [hn] at this
  exact this
 have HBD:Hid ((checkE t cs != 0)=!checkB t cs):=by
  show _=_
  cases hq:checkB t cs
  ·rw [checkE_no hq];rfl
  ·rw [checkE_yes hq];rfl
 have HL:=Lib.hid (And.intro hL (And.intro hk hk8))
 have HNW:Hid (w.heap.size≤(newW w a b c e t ao n cap).heap.size):=by show _≤_;simp;omega
 have hmk:=fMake8
 obtain ⟨i0,hi,hz0,hz1,hz2⟩:=info_parts fInfo
 have HZI:=Lib.hid (And.intro hi (And.intro hz0 (And.intro hz1 hz2)))
 clear hc hC hL hnl hi hz0 hz1 hz2
 generalize checkE t cs=ce at HCK HBD
 go_enter Tryz.func47,Tryz.ntmps47
 go_wp2_with (go_at_call 22;refine HP.out.mono ?_;rw [if_pos rfl];rintro r u0 ⟨rfl,q⟩;obtain ⟨x0,x1,x2,x3,x4⟩:=newW_boxes4 q;obtain ⟨_,⟨y0,y1,y2⟩,z0⟩:=newW_boxes q;have B0:=Lib.hid (q.alloc q.size (.cells #[.int .i64 0,.int .i64 1,.int .i64 2,.int .i64 3,.int .i64 (3+b),.int .i64 (3+b+3*a)] 43));clear q HP z0)
 go_region_held (fun w'=>w'.cell? ⟨w.heap.size,0,none⟩=some (.int .i64 a)∧w'.cell? ⟨w.heap.size,1,none⟩=some (.int .i64 b)∧w'.cell? ⟨w.heap.size,2,none⟩=some (.int .i64 c)∧w'.cell? ⟨w.heap.size,3,none⟩=some (.int .i64 e)∧w'.cell? ⟨w.heap.size+1,0,none⟩=some (.int .i64 t)∧w'.cell? ⟨w.heap.size+1,1,none⟩=some (.slice ao n cap)) (go_keep) (first
  | (go_at_call 71;refine (HCK.out _ (newW_boxes (bl_same0 B0.out)).2.2).mono ?_;rintro r v1 ⟨rfl,d1⟩;have d2:=(bl_same0 B0.out).trans (d1.mono (bl_same0 B0.out).size);obtain ⟨x0,x1,x2,x3,x4⟩:=newW_boxes4 d2;obtain ⟨_,⟨y0,y1,y2⟩,z0⟩:=newW_boxes d2;have B1:=Lib.hid (And.intro d2 d1);clear d1 d2 z0)
  | (go_at_call 71;refine (HCK.out _ (newW_boxes (bl_alloc0 B0.out locO)).2.2).mono ?_;rintro r v1 ⟨rfl,d1⟩;have d2:=(bl_alloc0 B0.out locO).trans (d1.mono (bl_alloc0 B0.out locO).size);obtain ⟨x0,x1,x2,x3,x4⟩:=newW_boxes4 d2;obtain ⟨_,⟨y0,y1,y2⟩,z0⟩:=newW_boxes d2;have B1:=Lib.hid (And.intro d2 d1);clear d1 d2 z0))
 all_goals go_wp2
 ·have HS0:Hid (RNew w ((v1.alloc locO).alloc (rbO (newM a c e t cs l) (rq0 b t ao n cap (ce != 0) (v1.heap.size)))) (newM a c e t cs l) (rq0 b t ao n cap (ce != 0) (v1.heap.size)) (v1.heap.size+1) []):=start_a (newW_boxes B1.out.1).2.2
  go_loopw [10] (fun vi wr=>∃ j:Nat,vi=.int .i64 j∧j≤8∧Hid (∃ pa ca,RNew w wr (newM a c e t cs l) { rq0 b t ao n cap (ce != 0) (v1.heap.size) with pa:=pa,na:=j,ca:=ca } (v1.heap.size+1) ((eight (argF l)).take j))) (fun vi _=>8 - (intOf vi).toNat)
  case atStart=>exact ⟨0,rfl,by omega,none,0,HS0.out⟩
  case round =>
   obtain ⟨j,rfl,hj,HR⟩:=hrel
   obtain ⟨pa,ca,hr⟩:=HR.out
   by_cases hlt:j<8
   ·have hlt':(j:Int)<8:=by omega
    have hl:=eight_len (argF l) (j:=j) (by omega)
    have HE:=Lib.hid (eight_take (argF l) hlt)
    have HBW:Hid (Below w.heap.size w wr):=hr.bl
    have h7:wr.cell? ⟨v1.heap.size+1,7,none⟩=some (.slice pa j ca):=by rw [cell_of_row wr _ 7 _ _ _ hr.box];rfl
    have hbr:=lt_of_block hr.box
    have HO:Hid (wr.ownsRow 0 64 1 (.slice pa j ca) j (fls ((eight (argF l)).take j))):=by
     have:=hr.row.own
     rw [fls_len,hl] at this
     exact this
    have HM:Hid (∀ w3 v o x,w3.ownsRow 0 64 1 v (j+1) (fls ((eight (argF l)).take j) ++ [.float .f64 x])→(wr.alloc o).grownBy w3 (Value.slice pa j ca).ownBlock→(v.ownBlock=(Value.slice pa j ca).ownBlock∨v.ownBlock=some (wr.alloc o).heap.size)→∃ p' c',v=.slice p' (j+1) c'∧w3.heap[v1.heap.size+1]?=some (rbO (newM a c e t cs l) { rq0 b t ao n cap (ce != 0) (v1.heap.size) with pa:=pa,na:=j,ca:=ca })∧RNew w (w3.setCell ⟨v1.heap.size+1,7,none⟩ (.slice p' (j+1) c')) (newM a c e t cs l) { rq0 b t ao n cap (ce != 0) (v1.heap.size) with pa:=p',na:=j+1,ca:=c' } (v1.heap.size+1) ((eight (argF l)).take j ++ [x])):=fun w3 v o x q1 q2 q3=>by
     have:=hr.more (w3:=w3) (v:=v) (x:=x) (o:=o) (by rw [hl];exact q1) (by rw [hl];exact q2) (by rw [hl];exact q3)
     rw [hl] at this
     exact this
    clear HR hr
    have AP:True:=True.intro
    by_cases hjk:j<k
    ·have hjk':(j:Int)<(k:Int):=by omega
     obtain ⟨g,o,hpo,hg,hcell⟩:=(HL.out.1.on HBW.out) j (by omega)
     subst hpo
     have HX:Hid (argF l j=fixB (l.getD j 0)):=rfl
     generalize l.getD j 0=y at hcell HX
     clear HCK B0 B1
     go_wp2_with (first
      | (go_at_call 48;refine (refFix_any _ _).mono ?_;rintro r u ⟨rfl,hu⟩;subst u)
      | (at_builtin;refine wpList_append_own_at _ rfl _ _ 27 rfl 0 64 i0 (.float .f64 0) 1 8 Tryz.underlying27 HZI.out.1 HZI.out.2.1 HZI.out.2.2.1 HZI.out.2.2.2 rfl (by decide) _ j (fls ((eight (argF l)).take j)) rfl (World.ownsRow.alloc HO.out _) ⟨wr.heap.size,0,none⟩ 1 1 [.float .f64 (fixB y)] rfl rfl (cell_one_new _ _ _) (fun u hu=>by simp at hu;subst hu;rfl) (by unfold maxLen;omega) (by omega) (Nat.zero_le _) ?_;intro v3 w3 hown3 hgrow3 hnil3 hat3;obtain ⟨p',c',hv3,k1,k2⟩:=HM.out _ _ _ _ hown3 hgrow3 hat3;subst hv3;have c7:w3.cell? ⟨v1.heap.size+1,7,none⟩=some (.slice pa j ca):=(by rw [cell_of_row w3 _ 7 _ _ _ k1];rfl);have f7:=frozen_of_row w3 _ 7 _ _ k1;have l7:=lt_of_block k1;have HK:=Lib.hid k2;clear hown3 hgrow3 hnil3 hat3 k1 k2 HM))
     refine ⟨⟨j+1,by first | rfl | (congr 1),by omega,p',c',?_⟩,by simp [intOf];omega⟩
     rw [HE.out,HX.out]
     exact HK.out
    ·have hjk':¬ (j:Int)<(k:Int):=by omega
     have HX:Hid (argF l j=0):=by
      show fixB (l.getD j 0)=0
      rw [List.getD_eq_getElem?_getD,List.getElem?_eq_none (by omega)]
      exact fix0
     clear HCK B0 B1
     go_wp2_with (at_builtin;refine wpList_append_own_at _ rfl _ _ 27 rfl 0 64 i0 (.float .f64 0) 1 8 Tryz.underlying27 HZI.out.1 HZI.out.2.1 HZI.out.2.2.1 HZI.out.2.2.2 rfl (by decide) _ j (fls ((eight (argF l)).take j)) rfl (World.ownsRow.alloc HO.out _) ⟨wr.heap.size,0,none⟩ 1 1 [.float .f64 0] rfl rfl (cell_one_new _ _ _) (fun u hu=>by simp at hu;subst hu;rfl) (by unfold maxLen;omega) (by omega) (Nat.zero_le _) ?_;intro v3 w3 hown3 hgrow3 hnil3 hat3;obtain ⟨p',c',hv3,k1,k2⟩:=HM.out _ _ _ _ hown3 hgrow3 hat3;subst hv3;have c7:w3.cell? ⟨v1.heap.size+1,7,none⟩=some (.slice pa j ca):=(by rw [cell_of_row w3 _ 7 _ _ _ k1];rfl);have f7:=frozen_of_row w3 _ 7 _ _ k1;have l7:=lt_of_block k1;have HK:=Lib.hid k2;clear hown3 hgrow3 hnil3 hat3 k1 k2 HM)
     refine ⟨⟨j+1,by first | rfl | (congr 1),by omega,p',c',?_⟩,by simp [intOf];omega⟩
     rw [HE.out,HX.out]
     exact HK.out
   ·have hlt':¬ (j:Int)<8:=by omega
    have e:j=8:=by omega
    subst e
    have HF:Hid (RNew w wr (newM a c e t cs l) { rq0 b t ao n cap (!checkB t cs) (v1.heap.size) with pa:=pa,na:=8,ca:=ca } (v1.heap.size+1) (eight (argF l))):=by
     have:=hr
     rw [HBD.out] at this
     exact this
    clear HR hr HCK B0 B1
    go_wp2
    go_ret
    exact ⟨_,rfl,_,_,_,HF.out⟩
 ·have HS0:Hid (RNew w (v1.alloc (rbO (newM a c e t cs l) (rq0 b t ao n cap (ce != 0) (u0.heap.size+1)))) (newM a c e t cs l) (rq0 b t ao n cap (ce != 0) (u0.heap.size+1)) (v1.heap.size) []):=start_b (newW_boxes B1.out.1).2.2 ((B1.out.2.block _ (by simp)).trans (heap_new (by simp))) (by have:=B0.out.size;have:=HNW.out;simp at *;omega)
  go_loopw [10] (fun vi wr=>∃ j:Nat,vi=.int .i64 j∧j≤8∧Hid (∃ pa ca,RNew w wr (newM a c e t cs l) { rq0 b t ao n cap (ce != 0) (u0.heap.size+1) with pa:=pa,na:=j,ca:=ca } (v1.heap.size) ((eight (argF l)).take j))) (fun vi _=>8 - (intOf vi).toNat)
  case atStart=>exact ⟨0,rfl,by omega,none,0,HS0.out⟩
  case round =>
   obtain ⟨j,rfl,hj,HR⟩:=hrel
   obtain ⟨pa,ca,hr⟩:=HR.out
   by_cases hlt:j<8
   ·have hlt':(j:Int)<8:=by omega
    have hl:=eight_len (argF l) (j:=j) (by omega)
    have HE:=Lib.hid (eight_take (argF l) hlt)
    have HBW:Hid (Below w.heap.size w wr):=hr.bl
    have h7:wr.cell? ⟨v1.heap.size,7,none⟩=some (.slice pa j ca):=by rw [cell_of_row wr _ 7 _ _ _ hr.box];rfl
    have hbr:=lt_of_block hr.box
    have HO:Hid (wr.ownsRow 0 64 1 (.slice pa j ca) j (fls ((eight (argF l)).take j))):=by
     have:=hr.row.own
     rw [fls_len,hl] at this
     exact this
    have HM:Hid (∀ w3 v o x,w3.ownsRow 0 64 1 v (j+1) (fls ((eight (argF l)).take j) ++ [.float .f64 x])→(wr.alloc o).grownBy w3 (Value.slice pa j ca).ownBlock→(v.ownBlock=(Value.slice pa j ca).ownBlock∨v.ownBlock=some (wr.alloc o).heap.size)→∃ p' c',v=.slice p' (j+1) c'∧w3.heap[v1.heap.size]?=some (rbO (newM a c e t cs l) { rq0 b t ao n cap (ce != 0) (u0.heap.size+1) with pa:=pa,na:=j,ca:=ca })∧RNew w (w3.setCell ⟨v1.heap.size,7,none⟩ (.slice p' (j+1) c')) (newM a c e t cs l) { rq0 b t ao n cap (ce != 0) (u0.heap.size+1) with pa:=p',na:=j+1,ca:=c' } (v1.heap.size) ((eight (argF l)).take j ++ [x])):=fun w3 v o x q1 q2 q3=>by
     have:=hr.more (w3:=w3) (v:=v) (x:=x) (o:=o) (by rw [hl];exact q1) (by rw [hl];exact q2) (by rw [hl];exact q3)
     rw [hl] at this
     exact this
    clear HR hr
    have AP:True:=True.intro
    by_cases hjk:j<k
    ·have hjk':(j:Int)<(k:Int):=by omega
     obtain ⟨g,o,hpo,hg,hcell⟩:=(HL.out.1.on HBW.out) j (by omega)
     subst hpo
     have HX:Hid (argF l j=fixB (l.getD j 0)):=rfl
     generalize l.getD j 0=y at hcell HX
     clear HCK B0 B1
     go_wp2_with (first
      | (go_at_call 48;refine (refFix_any _ _).mono ?_;rintro r u ⟨rfl,hu⟩;subst u)
      | (at_builtin;refine wpList_append_own_at _ rfl _ _ 27 rfl 0 64 i0 (.float .f64 0) 1 8 Tryz.underlying27 HZI.out.1 HZI.out.2.1 HZI.out.2.2.1 HZI.out.2.2.2 rfl (by decide) _ j (fls ((eight (argF l)).take j)) rfl (World.ownsRow.alloc HO.out _) ⟨wr.heap.size,0,none⟩ 1 1 [.float .f64 (fixB y)] rfl rfl (cell_one_new _ _ _) (fun u hu=>by simp at hu;subst hu;rfl) (by unfold maxLen;omega) (by omega) (Nat.zero_le _) ?_;intro v3 w3 hown3 hgrow3 hnil3 hat3;obtain ⟨p',c',hv3,k1,k2⟩:=HM.out _ _ _ _ hown3 hgrow3 hat3;subst hv3;have c7:w3.cell? ⟨v1.heap.size,7,none⟩=some (.slice pa j ca):=(by rw [cell_of_row w3 _ 7 _ _ _ k1];rfl);have f7:=frozen_of_row w3 _ 7 _ _ k1;have l7:=lt_of_block k1;have HK:=Lib.hid k2;clear hown3 hgrow3 hnil3 hat3 k1 k2 HM))
     refine ⟨⟨j+1,by first | rfl | (congr 1),by omega,p',c',?_⟩,by simp [intOf];omega⟩
     rw [HE.out,HX.out]
     exact HK.out
    ·have hjk':¬ (j:Int)<(k:Int):=by omega
     have HX:Hid (argF l j=0):=by
      show fixB (l.getD j 0)=0
      rw [List.getD_eq_getElem?_getD,List.getElem?_eq_none (by omega)]
      exact fix0
     clear HCK B0 B1
     go_wp2_with (at_builtin;refine wpList_append_own_at _ rfl _ _ 27 rfl 0 64 i0 (.float .f64 0) 1 8 Tryz.underlying27 HZI.out.1 HZI.out.2.1 HZI.out.2.2.1 HZI.out.2.2.2 rfl (by decide) _ j (fls ((eight (argF l)).take j)) rfl (World.ownsRow.alloc HO.out _) ⟨wr.heap.size,0,none⟩ 1 1 [.float .f64 0] rfl rfl (cell_one_new _ _ _) (fun u hu=>by simp at hu;subst hu;rfl) (by unfold maxLen;omega) (by omega) (Nat.zero_le _) ?_;intro v3 w3 hown3 hgrow3 hnil3 hat3;obtain ⟨p',c',hv3,k1,k2⟩:=HM.out _ _ _ _ hown3 hgrow3 hat3;subst hv3;have c7:w3.cell? ⟨v1.heap.size,7,none⟩=some (.slice pa j ca):=(by rw [cell_of_row w3 _ 7 _ _ _ k1];rfl);have f7:=frozen_of_row w3 _ 7 _ _ k1;have l7:=lt_of_block k1;have HK:=Lib.hid k2;clear hown3 hgrow3 hnil3 hat3 k1 k2 HM)
     refine ⟨⟨j+1,by first | rfl | (congr 1),by omega,p',c',?_⟩,by simp [intOf];omega⟩
     rw [HE.out,HX.out]
     exact HK.out
   ·have hlt':¬ (j:Int)<8:=by omega
    have e:j=8:=by omega
    subst e
    have HF:Hid (RNew w wr (newM a c e t cs l) { rq0 b t ao n cap (!checkB t cs) (u0.heap.size+1) with pa:=pa,na:=8,ca:=ca } (v1.heap.size) (eight (argF l))):=by
     have:=hr
     rw [HBD.out] at this
     exact this
    clear HR hr HCK B0 B1
    go_wp2
    go_ret
    exact ⟨_,rfl,_,_,_,HF.out⟩
end
end Go.Proofs.YteinilmecnlanabGreatDoor
namespace Go.Proofs.YteinilmecnlanabGreatDoor
open Go.ChangeShapes Go.WideShapes Go.ChangeAt Go.RowKit Num
structure Like (m m':Mac):Prop where
 cells:m'.cells=m.cells
 fuel:m'.fuel=m.fuel
 wmax:m'.wmax=m.wmax
 upd:m'.upd=m.upd
 code:m'.code=m.code
theorem Like.refl (m:Mac):Like m m:=⟨rfl,rfl,rfl,rfl,rfl⟩
theorem Like.trans {a b c:Mac} (h:Like a b) (k:Like b c):Like a c:=⟨k.cells.trans h.cells,k.fuel.trans h.fuel,k.wmax.trans h.wmax,k.upd.trans h.upd,k.code.trans h.code⟩
def Ends (_m:Mac) (r:Mac × Ask):Prop:=r.2.kind=4∧r.1.how≠0∧¬ 0≤r.1.wait
def Waits (m:Mac) (r:Mac × Ask):Prop:=r.2.kind=1∧r.2.cell=r.1.wait∧0≤r.1.wait∧r.1.how=0∧r.1.used=m.used+1
def Goes (m:Mac) (r:Mac × Ask):Prop:=(r.2.kind=0∨r.2.kind=2∨r.2.kind=3)∧¬ 0≤r.1.wait∧r.1.how=0∧r.1.used=m.used+1
def Turns (m:Mac) (r:Mac × Ask):Prop:=Like m r.1∧(Ends m r∨Waits m r∨Goes m r)
section
variable {m:Mac}
theorem fails_turns (hw:¬ 0≤m.wait) (e:Int):Turns m (failM m e):=⟨⟨rfl,rfl,rfl,rfl,rfl⟩,.inl ⟨rfl,by show (3:Int)≠0;decide,hw⟩⟩
theorem fails_begun (hw:¬ 0≤m.wait) (e:Int):Turns m (failM (begM m) e):=⟨⟨rfl,rfl,rfl,rfl,rfl⟩,.inl ⟨rfl,by show (3:Int)≠0;decide,hw⟩⟩
theorem do_turns (hw:¬ 0≤m.wait) (h0:m.how=0) (hcl:m.cells≤256) {k:Nat} {n:Int} {x:Nat} (hk:1≤k∧k<21):Turns m (doM (begM m) ⟨k,n,x⟩):=by
 have hkk:k=1∨k=2∨k=3∨k=4∨k=5∨k=6∨k=7∨k=8∨k=9∨k=10∨k=11∨k=12∨k=13∨k=14∨k=15∨k=16∨k=17∨k=18∨k=19∨k=20:=by omega
 rcases hkk with rfl | rfl | rfl | rfl | rfl | rfl | rfl | rfl | rfl | rfl | rfl | rfl | rfl | rfl | rfl | rfl | rfl | rfl | rfl | rfl
 ·exact ⟨⟨rfl,rfl,rfl,rfl,rfl⟩,.inr (.inr ⟨.inl rfl,hw,h0,rfl⟩)⟩
 ·exact ⟨⟨rfl,rfl,rfl,rfl,rfl⟩,.inr (.inr ⟨.inl rfl,hw,h0,rfl⟩)⟩
 ·exact ⟨⟨rfl,rfl,rfl,rfl,rfl⟩,.inr (.inr ⟨.inl rfl,hw,h0,rfl⟩)⟩
 ·exact ⟨⟨rfl,rfl,rfl,rfl,rfl⟩,.inr (.inr ⟨.inl rfl,hw,h0,rfl⟩)⟩
 ·exact ⟨⟨rfl,rfl,rfl,rfl,rfl⟩,.inr (.inr ⟨.inl rfl,hw,h0,rfl⟩)⟩
 ·exact ⟨⟨rfl,rfl,rfl,rfl,rfl⟩,.inr (.inr ⟨.inl rfl,hw,h0,rfl⟩)⟩
 ·exact ⟨⟨rfl,rfl,rfl,rfl,rfl⟩,.inr (.inr ⟨.inl rfl,hw,h0,rfl⟩)⟩
 ·exact ⟨⟨rfl,rfl,rfl,rfl,rfl⟩,.inr (.inr ⟨.inl rfl,hw,h0,rfl⟩)⟩
 ·exact ⟨⟨rfl,rfl,rfl,rfl,rfl⟩,.inr (.inr ⟨.inl rfl,hw,h0,rfl⟩)⟩
 ·exact ⟨⟨rfl,rfl,rfl,rfl,rfl⟩,.inr (.inr ⟨.inl rfl,hw,h0,rfl⟩)⟩
 ·exact ⟨⟨rfl,rfl,rfl,rfl,rfl⟩,.inr (.inr ⟨.inl rfl,hw,h0,rfl⟩)⟩
 ·exact ⟨⟨rfl,rfl,rfl,rfl,rfl⟩,.inr (.inr ⟨.inl rfl,hw,h0,rfl⟩)⟩
 ·exact ⟨⟨rfl,rfl,rfl,rfl,rfl⟩,.inr (.inr ⟨.inl rfl,hw,h0,rfl⟩)⟩
 ·exact ⟨⟨rfl,rfl,rfl,rfl,rfl⟩,.inr (.inr ⟨.inl rfl,hw,h0,rfl⟩)⟩
 ·show Turns m (retM (begM m))
  cases hc:(begM m).calls with
  | nil =>
   rw [retM_nil hc]
   exact ⟨⟨rfl,rfl,rfl,rfl,rfl⟩,.inl ⟨rfl,by show (1:Int)≠0;decide,hw⟩⟩
  | cons c q =>
   rw [retM_cons hc]
   exact ⟨⟨rfl,rfl,rfl,rfl,rfl⟩,.inr (.inr ⟨.inl rfl,hw,h0,rfl⟩)⟩
 ·show Turns m (readM (begM m))
  unfold readM
  cases ha:addrB (begM m) with
  | false=>exact fails_begun hw 50
  | true =>
   have hid:=idx_wf ((begM m).st.getD 0 0) (n:=m.cells) hcl ha
   cases hh:hasC (begM m).buf (addrV (begM m)) with
   | false =>
    rw [if_pos rfl,if_neg Bool.false_ne_true]
    exact ⟨⟨rfl,rfl,rfl,rfl,rfl⟩,.inr (.inl ⟨rfl,rfl,hid.1,h0,rfl⟩)⟩
   | true =>
    rw [if_pos rfl,if_pos rfl]
    exact ⟨⟨rfl,rfl,rfl,rfl,rfl⟩,.inr (.inr ⟨.inr (.inl rfl),hw,h0,rfl⟩)⟩
 ·show Turns m (writeM (begM m))
  unfold writeM
  cases hu:(begM m).upd with
  | false=>exact fails_begun hw 81
  | true =>
   cases ha:addrB (begM m) with
   | false=>exact fails_begun hw 50
   | true =>
    cases hp:mayP (begM m).wmax (begM m).buf (addrV (begM m)) with
    | false=>exact fails_begun hw 70
    | true =>
     rw [if_pos rfl,if_pos rfl,if_pos rfl]
     exact ⟨⟨rfl,rfl,rfl,hu.symm ▸ rfl,rfl⟩,.inr (.inr ⟨.inr (.inr rfl),hw,h0,rfl⟩)⟩
 ·exact ⟨⟨rfl,rfl,rfl,rfl,rfl⟩,.inr (.inr ⟨.inl rfl,hw,h0,rfl⟩)⟩
 ·exact ⟨⟨rfl,rfl,rfl,rfl,rfl⟩,.inl ⟨rfl,by show (2:Int)≠0;decide,hw⟩⟩
 ·exact ⟨⟨rfl,rfl,rfl,rfl,rfl⟩,.inl ⟨rfl,by show (1:Int)≠0;decide,hw⟩⟩
theorem step_turns (h:Inv m) (hw:¬ 0≤m.wait) (h0:m.how=0):Turns m (stepM m):=by
 unfold stepM
 rw [if_neg hw,if_pos h0]
 by_cases hf:m.used<m.fuel
 ·rw [if_pos hf]
  by_cases hp:m.place<(m.code.length:Int)
  ·rw [if_pos hp]
   have hk:m.place.toNat<m.code.length:=by have:=h.place;omega
   have hmay:=h.may _ hk
   cases hr:roomB (begM m) (insM m) with
   | false=>exact fails_begun hw 82
   | true =>
    rw [if_pos rfl]
    unfold insM
    rcases hci:ci m.code m.place.toNat with ⟨o,n,x⟩
    rw [hci] at hmay
    obtain ⟨q,hq⟩:∃ q:Nat,o=q:=⟨o.toNat,by have:=hmay.1;unfold mayB knownB at this;simp at this;omega⟩
    subst hq
    exact do_turns hw h0 h.cells.2 (fits_parts hmay.1).1
  ·rw [if_neg hp]
   exact fails_turns hw 50
 ·rw [if_neg hf]
  exact fails_turns hw 80
theorem give_goes (hw:0≤m.wait) (x:Nat):¬ 0≤(giveM m x).wait∧(giveM m x).how=m.how∧(giveM m x).used=m.used∧Like m (giveM m x):=by
 unfold giveM
 rw [if_pos hw]
 exact ⟨by show ¬ (0:Int)≤-1;decide,rfl,rfl,⟨rfl,rfl,rfl,rfl,rfl⟩⟩
end
end Go.Proofs.YteinilmecnlanabGreatDoor
namespace Go.Proofs.YteinilmecnlanabGreatDoor
open Go.ChangeShapes Go.WideShapes Go.ChangeAt Go.RowKit Num
attribute [local go_sem] run_store_float frombits_run bits_run
end Go.Proofs.YteinilmecnlanabGreatDoor
namespace Go.Proofs.YteinilmecnlanabGreatDoor
open Go.ChangeShapes Go.WideShapes Go.ChangeAt Go.RowKit Num
attribute [local go_sem] run_store_float
section
variable {w:World}
theorem mnew_any {a b c e t:Int} {ao:Option Addr} {cs:List Ins} {n cap:Nat} {po:Option Addr} {l:List Nat} {k co:Nat} (hn:cs.length=n) (hk:l.length=k) (hT:Shaped5 w) (hC:CodeAt w ao cs) (hL:FlAt w po l) (hnl:n≤9223372036854775807) (hc:Md.cfgB a b c e=true) (hk8:k≤8):Calls Tryz.prog 43 #[cfgV a b c e,.agg #[.int .i64 t,.slice ao n cap],.slice po k co] w fun r w'=>∃ bm K,r=.returned (.pointer (some ⟨bm,0,none⟩))∧Gm w [] bm K w' (newM a c e t cs l)∧Abv w.heap.size K:=by
 cases hq:checkB t cs
 ·exact mnew_no hc hn hk hk8 hT hC hL hnl hq
 ·exact mnew_yes hc hn hk hk8 hT hC hL hnl hq
theorem mnew_nil {a b c e t:Int} {ao:Option Addr} {n cap:Nat} {po:Option Addr} {k co:Nat} (h:(Md.cfgB a b c e && decide (k≤8))=false):Calls Tryz.prog 43 #[cfgV a b c e,.agg #[.int .i64 t,.slice ao n cap],.slice po k co] w fun r w'=>r=.returned (.pointer none)∧Below w.heap.size w w':=by
 cases hc:Md.cfgB a b c e
 ·exact mnew_cfg a b c e t ao n cap po k co hc
 ·rw [hc] at h
  exact mnew_args a b c e t ao n cap po k co hc (by simpa using h)
theorem rnew_nil {a b c e t:Int} {ao:Option Addr} {n cap:Nat} {po:Option Addr} {k co:Nat} (h:(Md.cfgB a b c e && decide (k≤8))=false):Calls Tryz.prog 47 #[cfgV a b c e,.agg #[.int .i64 t,.slice ao n cap],.slice po k co] w fun r w'=>r=.returned (.pointer none)∧Below w.heap.size w w':=by
 cases hc:Md.cfgB a b c e
 ·exact rnew_cfg a b c e t ao n cap po k co hc
 ·rw [hc] at h
  exact rnew_args a b c e t ao n cap po k co hc (by simpa using h)
theorem rnew_any {a b c e t:Int} {ao:Option Addr} {cs:List Ins} {n cap:Nat} {po:Option Addr} {l:List Nat} {k co:Nat} (hn:cs.length=n) (hk:l.length=k) (hC:CodeAt w ao cs) (hL:FlAt w po l) (hnl:n≤9223372036854775807) (hc:Md.cfgB a b c e=true) (hk8:k≤8):Calls Tryz.prog 47 #[cfgV a b c e,.agg #[.int .i64 t,.slice ao n cap],.slice po k co] w fun r w'=>∃ br:Nat,r=.returned (.pointer (some ⟨br,0,none⟩))∧Below w.heap.size w w' :=
 (rnew_some hc hn hk hk8 hC hL hnl).mono fun _ _ ⟨br,_,_,_,a1,a2⟩=>⟨br,a1,a2.bl⟩
end
end Go.Proofs.YteinilmecnlanabGreatDoor
namespace Go.Proofs.YteinilmecnlanabGreatDoor
open Go.ChangeShapes Go.WideShapes Go.ChangeAt Go.RowKit Num
def Bufs (m:Mac) (r:Mac × Ask):Prop :=
 (r.2.kind=0∧r.1.buf=m.buf)∨(r.2.kind=4∧r.1.buf=m.buf)∨(r.2.kind=1∧r.1.buf=m.buf∧hasC m.buf r.2.cell=false∧0≤r.2.cell∧r.2.cell<m.cells) ∨
 (r.2.kind=2∧r.1.buf=m.buf∧hasC m.buf r.2.cell=true∧r.2.x=getC m.buf r.2.cell∧0≤r.2.cell∧r.2.cell<m.cells) ∨
 (r.2.kind=3∧r.1.buf=putC m.buf r.2.cell r.2.x∧r.2.first=!hasC m.buf r.2.cell∧0≤r.2.cell∧r.2.cell<m.cells)
section
variable {m:Mac}
theorem fails_bufs (e:Int):Bufs m (failM m e):=.inr (.inl ⟨rfl,rfl⟩)
theorem fails_bufs' (e:Int):Bufs m (failM (begM m) e):=.inr (.inl ⟨rfl,rfl⟩)
theorem do_bufs (hcl:m.cells≤256) {k:Nat} {n:Int} {x:Nat} (hk:1≤k∧k<21):Bufs m (doM (begM m) ⟨k,n,x⟩):=by
 have hkk:k=1∨k=2∨k=3∨k=4∨k=5∨k=6∨k=7∨k=8∨k=9∨k=10∨k=11∨k=12∨k=13∨k=14∨k=15∨k=16∨k=17∨k=18∨k=19∨k=20:=by omega
 rcases hkk with rfl | rfl | rfl | rfl | rfl | rfl | rfl | rfl | rfl | rfl | rfl | rfl | rfl | rfl | rfl | rfl | rfl | rfl | rfl | rfl
 iterate 14 exact .inl ⟨rfl,rfl⟩
 ·show Bufs m (retM (begM m))
  cases hc:(begM m).calls with
  | nil =>
   rw [retM_nil hc]
   exact .inr (.inl ⟨rfl,rfl⟩)
  | cons c q =>
   rw [retM_cons hc]
   exact .inl ⟨rfl,rfl⟩
 ·show Bufs m (readM (begM m))
  unfold readM
  cases ha:addrB (begM m) with
  | false=>exact fails_bufs' 50
  | true =>
   have hid:=idx_wf ((begM m).st.getD 0 0) (n:=m.cells) hcl ha
   cases hh:hasC (begM m).buf (addrV (begM m)) with
   | false =>
    rw [if_pos rfl,if_neg Bool.false_ne_true]
    exact .inr (.inr (.inl ⟨rfl,rfl,hh,hid.1,hid.2.1⟩))
   | true =>
    rw [if_pos rfl,if_pos rfl]
    exact .inr (.inr (.inr (.inl ⟨rfl,rfl,hh,rfl,hid.1,hid.2.1⟩)))
 ·show Bufs m (writeM (begM m))
  unfold writeM
  cases hu:(begM m).upd with
  | false=>exact fails_bufs' 81
  | true =>
   cases ha:addrB (begM m) with
   | false=>exact fails_bufs' 50
   | true =>
    have hid:=idx_wf ((begM m).st.getD 0 0) (n:=m.cells) hcl ha
    cases hp:mayP (begM m).wmax (begM m).buf (addrV (begM m)) with
    | false=>exact fails_bufs' 70
    | true =>
     rw [if_pos rfl,if_pos rfl,if_pos rfl]
     exact .inr (.inr (.inr (.inr ⟨rfl,rfl,rfl,hid.1,hid.2.1⟩)))
 ·exact .inl ⟨rfl,rfl⟩
 ·exact .inr (.inl ⟨rfl,rfl⟩)
 ·exact .inr (.inl ⟨rfl,rfl⟩)
theorem step_bufs (h:Inv m) (hw:¬ 0≤m.wait) (h0:m.how=0):Bufs m (stepM m):=by
 unfold stepM
 rw [if_neg hw,if_pos h0]
 by_cases hf:m.used<m.fuel
 ·rw [if_pos hf]
  by_cases hp:m.place<(m.code.length:Int)
  ·rw [if_pos hp]
   have hk:m.place.toNat<m.code.length:=by have:=h.place;omega
   have hmay:=h.may _ hk
   cases hr:roomB (begM m) (insM m) with
   | false=>exact fails_bufs' 82
   | true =>
    rw [if_pos rfl]
    unfold insM
    rcases hci:ci m.code m.place.toNat with ⟨o,n,x⟩
    rw [hci] at hmay
    obtain ⟨q,hq⟩:∃ q:Nat,o=q:=⟨o.toNat,by have:=hmay.1;unfold mayB knownB at this;simp at this;omega⟩
    subst hq
    exact do_bufs h.cells.2 (fits_parts hmay.1).1
  ·rw [if_neg hp]
   exact fails_bufs 50
 ·rw [if_neg hf]
  exact fails_bufs 80
theorem give_bufs (x:Nat):(giveM m x).buf=m.buf:=by
 unfold giveM
 split <;> rfl
end
end Go.Proofs.YteinilmecnlanabGreatDoor
namespace Go.Proofs.YteinilmecnlanabGreatDoor
open Go.ChangeShapes Go.WideShapes Go.ChangeAt Go.RowKit Num
attribute [local go_sem] run_store_float
theorem row_put {E:TypeId} {w:World} {g c:Nat} {xs:List Value} (h:RowAt E w (some ⟨g,0,none⟩) c xs) (i:Nat) (z:Value):RowAt E (w.setCell ⟨g,i,none⟩ z) (some ⟨g,0,none⟩) c (xs.set i z)∧Turn [g] [g] w (w.setCell ⟨g,i,none⟩ z):=by
 obtain ⟨hs,_⟩:=h.own.stored i z
 refine ⟨⟨?_⟩,turn_set w g i z⟩
 rw [List.length_set]
 exact hs
theorem row_get {E:TypeId} {w:World} {g c:Nat} {xs:List Value} (h:RowAt E w (some ⟨g,0,none⟩) c xs) {j:Nat} {v:Value} (hv:xs[j]?=some v):w.cell? ⟨g,j,none⟩=some v∧w.frozen? ⟨g,j,none⟩=false∧g<w.heap.size:=by
 rcases h.own.2 with ⟨q,_⟩ | ⟨g',cap,cur,hq,_,hg,_⟩
 ·cases q
 ·cases hq
  refine ⟨?_,frozen_of_row w g j _ _ hg,lt_of_block hg⟩
  have:=World.ownsRow.cells h.own (g:=g) rfl j v hv
  rwa [show (⟨g,0,none⟩:Addr).add j=⟨g,j,none⟩ by unfold Addr.add;split <;> simp_all] at this
end Go.Proofs.YteinilmecnlanabGreatDoor
namespace Go.Proofs.YteinilmecnlanabGreatDoor.Md
open Go.ChangeShapes Go.WideShapes Go.ChangeAt Go.RowKit
theorem loadAct_any (w:World) (pm pa pt b g k n:Nat) (x:Int) (u:Value) (h0:w.cell? ⟨pm,0,none⟩=some (.pointer (some ⟨b,0,none⟩))) (h1:w.cell? ⟨pa,0,none⟩=some (.int .i64 k)) (h2:w.cell? ⟨b,0,none⟩=some (.slice (some ⟨g,0,none⟩) n n)) (h3:w.cell? ⟨g,k,none⟩=some (.int .u64 x)) (hk:(k:Int)<(n:Int)) (h4:w.cell? ⟨pt,0,none⟩=some u) (h5:w.frozen? ⟨pt,0,none⟩=false) :
  Calls Tryz.prog 124 #[.pointer (some ⟨pm,0,none⟩),.pointer (some ⟨pa,0,none⟩),.pointer (some ⟨pt,0,none⟩)] w fun e w'=>e=.returned (.tuple #[])∧w'=(w.setCell ⟨pt,0,none⟩ (.int .u64 x)).drew:=by
 go_enter Tryz.func124,Tryz.ntmps124
 go_wp2
 go_region
 all_goals (try go_wp2)
 all_goals go_end0
 all_goals exact ⟨rfl,rfl⟩
theorem storeAct_any (w:World) (pm pa pv b g k n:Nat) (x v:Int) (h0:w.cell? ⟨pm,0,none⟩=some (.pointer (some ⟨b,0,none⟩))) (h1:w.cell? ⟨pa,0,none⟩=some (.int .i64 k)) (h2:w.cell? ⟨b,0,none⟩=some (.slice (some ⟨g,0,none⟩) n n)) (h3:w.cell? ⟨g,k,none⟩=some (.int .u64 x)) (hk:(k:Int)<(n:Int)) (h4:w.cell? ⟨pv,0,none⟩=some (.int .u64 v)) (h5:w.frozen? ⟨g,k,none⟩=false) :
  Calls Tryz.prog 196 #[.pointer (some ⟨pv,0,none⟩),.pointer (some ⟨pm,0,none⟩),.pointer (some ⟨pa,0,none⟩)] w fun e w'=>e=.returned (.tuple #[])∧w'=(w.setCell ⟨g,k,none⟩ (.int .u64 v)).drew:=by
 go_enter Tryz.func196,Tryz.ntmps196
 go_wp2
 go_region
 all_goals (try go_wp2)
 all_goals go_end0
 all_goals exact ⟨rfl,rfl⟩
theorem addAct_any (w:World) (pm pa pt pn b g k n:Nat) (x v:Int) (u:Value) (h0:w.cell? ⟨pm,0,none⟩=some (.pointer (some ⟨b,0,none⟩))) (h1:w.cell? ⟨pa,0,none⟩=some (.int .i64 k)) (h2:w.cell? ⟨b,0,none⟩=some (.slice (some ⟨g,0,none⟩) n n)) (h3:w.cell? ⟨g,k,none⟩=some (.int .u64 x)) (hk:(k:Int)<(n:Int)) (h4:w.cell? ⟨pt,0,none⟩=some u) (h5:w.frozen? ⟨pt,0,none⟩=false)
  (h6:w.cell? ⟨pn,0,none⟩=some (.int .u64 v)) (h7:w.frozen? ⟨g,k,none⟩=false) (e1:pm≠pt) (e2:pa≠pt) (e3:b≠pt) (e4:g≠pt) (e5:pn≠pt) :
  Calls Tryz.prog 105 #[.pointer (some ⟨pm,0,none⟩),.pointer (some ⟨pa,0,none⟩),.pointer (some ⟨pt,0,none⟩),.pointer (some ⟨pn,0,none⟩)] w fun e w'=>e=.returned (.tuple #[])∧w'=(((w.setCell ⟨pt,0,none⟩ (.int .u64 x)).setCell ⟨g,k,none⟩ (.int .u64 (addV x v))).drew).drew:=by
 unfold addV
 go_enter Tryz.func105,Tryz.ntmps105
 go_wp2
 go_region
 all_goals (try go_wp2)
 all_goals (try go_region)
 all_goals (try go_wp2)
 all_goals go_end0
 all_goals exact ⟨rfl,rfl⟩
end Go.Proofs.YteinilmecnlanabGreatDoor.Md
namespace Go.Proofs.YteinilmecnlanabGreatDoor.Md
open Go.ChangeShapes Go.WideShapes Go.ChangeAt Go.RowKit
section
variable {w:World} {b g:Nat} {ws:List Int} {o:Bool} {c:Int}
theorem access_none (h:MemAt 95 w b g ws o c) (i:Int) (hi:hasB ws i=false) (f:Fn) (first cap:Array Value):Calls Tryz.prog 104 #[.pointer (some ⟨b,0,none⟩),.int .i64 i,.func f first cap] w fun e w'=>e=.returned (.int .i64 30)∧w'=w:=by
 have HM:Hid (MemAt 95 w b g ws o c):=h
 clear h
 go_enter Tryz.func104,Tryz.ntmps104
 go_wp2_with (go_at_call 50;refine (has_any HM.out _).mono ?_;rw [hi];rintro e w' ⟨rfl,hw⟩;subst w')
 go_ret
 exact ⟨rfl,rfl⟩
theorem access_spent (h:MemAt 95 w b g ws false c) (i:Int) (hi:hasB ws i=true) (f:Fn) (first cap:Array Value):Calls Tryz.prog 104 #[.pointer (some ⟨b,0,none⟩),.int .i64 i,.func f first cap] w fun e w'=>e=.returned (.int .i64 31)∧w'=w:=by
 have HM:Hid (MemAt 95 w b g ws false c):=h
 have h1:=h.cell1
 have hb:=h.ltB
 clear h
 go_enter Tryz.func104,Tryz.ntmps104
 go_wp2_with (go_at_call 50;refine (has_any HM.out _).mono ?_;rw [hi];rintro e w' ⟨rfl,hw⟩;subst w')
 go_ret
 exact ⟨rfl,rfl⟩
theorem access_let (h:MemAt 95 w b g ws true c) (i:Int) (hi:hasB ws i=true) (f:FuncId) (cap:Array Value) (Q:World→Prop) (hcall:∀ (args:Array Value) (w:World),(callFunc f args).run Tryz.prog w=.ok (.enter f args) w)
  (hf:Calls Tryz.prog f cap ((w.setCell ⟨b,1,none⟩ (.bool false)).setCell ⟨b,2,none⟩ (.int .i64 (up c))) fun e w'=>e=.returned (.tuple #[])∧Q w'):Calls Tryz.prog 104 #[.pointer (some ⟨b,0,none⟩),.int .i64 i,.func (.func f) #[] cap] w fun e w'=>e=.returned (.int .i64 0)∧Q w':=by
 have HM:Hid (MemAt 95 w b g ws true c):=h
 have h1:=h.cell1
 have h2:=h.cell2
 have hb:=h.ltB
 have hf1:=h.freeB 1
 have hf2:=h.freeB 2
 have HF:=Lib.hid hf
 clear h hf
 unfold up at HF
 go_enter Tryz.func104,Tryz.ntmps104
 go_wp2_with (first | (go_at_call 50;refine (has_any HM.out _).mono ?_;rw [hi];rintro e w' ⟨rfl,hw⟩;subst w') | (refine HF.out.mono ?_;rintro e w' ⟨rfl,hq⟩))
 go_ret
 exact ⟨rfl,hq⟩
end
end Go.Proofs.YteinilmecnlanabGreatDoor.Md
namespace Go.Proofs.YteinilmecnlanabGreatDoor.Md
open Go.ChangeShapes Go.WideShapes Go.ChangeAt Go.RowKit
theorem enter_run {f : FuncId} {fn : Func} (hf : Tryz.prog.funcs[f]? = some fn) (hname : (fn.name == "runtime.NumGoroutine") = false) (hb : fn.body.isSome = true) (args : Array Value) (w : World) : (callFunc f args).run Tryz.prog w = .ok (.enter f args) w := by
 obtain ⟨c,hb⟩:=Option.isSome_iff_exists.1 hb
 have h1 : fn.name ≠ "runtime.NumGoroutine" := by simpa using hname
 simp [callFunc,hf,h1,hb,mark]
section
variable {w:World} {b g:Nat} {ws:List Int} {o:Bool} {c:Int}
def poked (ws:List Int) (i v:Int):List Int:=if hasB ws i then ws.set i.toNat v else ws
def stored (ws:List Int) (o:Bool) (i v:Int):List Int:=if hasB ws i && o then ws.set i.toNat v else ws
def spentO (ws:List Int) (o:Bool) (i:Int):Bool:=if hasB ws i then false else o
def spentC (ws:List Int) (o:Bool) (i c:Int):Int:=if hasB ws i && o then up c else c
def toldW (ws:List Int) (o:Bool) (i:Int):Int:=if hasB ws i && o then wordAt ws i else 0
theorem poke_any (h:MemAt 95 w b g ws o c) (i v:Int):Calls Tryz.prog 23 #[.pointer (some ⟨b,0,none⟩),.int .i64 i,.int .u64 v] w fun e w'=>e=.returned (.int .i64 (errP ws i))∧MemAt 95 w' b g (poked ws i v) o c∧Chg b g w w':=by
 have h0:=h.cell0
 have hb:=h.ltB
 have hg:=h.ltG
 have HM:Hid (MemAt 95 w b g ws o c):=h
 unfold errP poked
 cases hh:hasB ws i
 ·clear h
  go_enter Tryz.func23,Tryz.ntmps23
  go_wp2_with (go_at_call 50;refine (has_any HM.out _).mono ?_;rw [hh];rintro e w' ⟨rfl,hw⟩;subst w')
  go_ret
  exact ⟨rfl,HM.out,Chg.refl _ _ _⟩
 ·obtain ⟨k,rfl,hk⟩:=hasB_pos hh
  have hx:=h.word hk
  have hf:=h.freeG k
  have hk2:(k:Int)<(ws.length:Int):=by omega
  clear h
  go_enter Tryz.func23,Tryz.ntmps23
  go_wp2_with (go_at_call 50;refine (has_any HM.out _).mono ?_;rw [hh];rintro e w' ⟨rfl,hw⟩;subst w')
  try go_region
  all_goals (try go_wp2)
  all_goals go_ret
  all_goals exact ⟨rfl,HM.out.setW k v,(Chg.refl _ _ _).setG _ _⟩
theorem loadAct_at (h:MemAt 95 w b g ws true c) {k:Nat} (hk:k<ws.length) :
  Calls Tryz.prog 124 #[.pointer (some ⟨w.heap.size,0,none⟩),.pointer (some ⟨w.heap.size+1,0,none⟩),.pointer (some ⟨w.heap.size+1+1,0,none⟩)] (((((w.alloc (.cells #[.pointer (some ⟨b,0,none⟩)] 37)).alloc (.cells #[.int .i64 k] 3)).alloc (.cells #[.int .u64 0] 45)).setCell ⟨b,1,none⟩ (.bool false)).setCell ⟨b,2,none⟩ (.int .i64 (up c))) fun e w'=>e=.returned (.tuple #[]) ∧
   (w'.cell? ⟨w.heap.size+1+1,0,none⟩=some (.int .u64 (wordAt ws k))∧MemAt 95 w' b g ws false (up c)∧Chg b g w w'):=by
 have hb:=h.ltB
 have hg:=h.ltG
 have hv:wordAt ws k=ws[k]:=by simp [wordAt,hk]
 have HM0:=(((((h.alloc (.cells #[.pointer (some ⟨b,0,none⟩)] 37)).alloc (.cells #[.int .i64 k] 3)).alloc (.cells #[.int .u64 0] 45)).setO false).setC (up c))
 have HM:=(HM0.other (n:=w.heap.size+1+1) (by omega) (by omega) 0 (.int .u64 ws[k])).drew
 have HC:=((((((Chg.refl b g w).alloc (.cells #[.pointer (some ⟨b,0,none⟩)] 37)).alloc (.cells #[.int .i64 k] 3)).alloc (.cells #[.int .u64 0] 45)).setB 1 (.bool false)).setB 2 (.int .i64 (up c))).setN (n:=w.heap.size+1+1) (by omega) 0 (.int .u64 ws[k]) |>.drew
 rw [hv]
 refine (loadAct_any _ w.heap.size (w.heap.size+1) (w.heap.size+1+1) b g k ws.length ws[k] (.int .u64 0) ?_ ?_ HM0.cell0 (HM0.word hk) (by omega) ?_ ?_).mono ?_
 ·simp [go_sem]
 ·simp [go_sem]
 ·simp [go_sem]
 ·simp [go_sem]
 ·rintro e w' ⟨he,rfl⟩
  refine ⟨he,?_,HM,HC⟩
  simp [go_sem]
theorem storeAct_at (h:MemAt 95 w b g ws true c) (v:Int) {k:Nat} (hk:k<ws.length) :
  Calls Tryz.prog 196 #[.pointer (some ⟨w.heap.size+1+1,0,none⟩),.pointer (some ⟨w.heap.size,0,none⟩),.pointer (some ⟨w.heap.size+1,0,none⟩)] (((((w.alloc (.cells #[.pointer (some ⟨b,0,none⟩)] 37)).alloc (.cells #[.int .i64 k] 3)).alloc (.cells #[.int .u64 v] 45)).setCell ⟨b,1,none⟩ (.bool false)).setCell ⟨b,2,none⟩ (.int .i64 (up c))) fun e w'=>e=.returned (.tuple #[]) ∧
   (MemAt 95 w' b g (ws.set k v) false (up c)∧Chg b g w w'):=by
 have hb:=h.ltB
 have hg:=h.ltG
 have HM0:=(((((h.alloc (.cells #[.pointer (some ⟨b,0,none⟩)] 37)).alloc (.cells #[.int .i64 k] 3)).alloc (.cells #[.int .u64 v] 45)).setO false).setC (up c))
 have HC:=((((((Chg.refl b g w).alloc (.cells #[.pointer (some ⟨b,0,none⟩)] 37)).alloc (.cells #[.int .i64 k] 3)).alloc (.cells #[.int .u64 v] 45)).setB 1 (.bool false)).setB 2 (.int .i64 (up c))).setG k (.int .u64 v) |>.drew
 refine (storeAct_any _ w.heap.size (w.heap.size+1) (w.heap.size+1+1) b g k ws.length ws[k] v ?_ ?_ HM0.cell0 (HM0.word hk) (by omega) ?_ (HM0.freeG k)).mono ?_
 ·simp [go_sem]
 ·simp [go_sem]
 ·simp [go_sem]
 ·rintro e w' ⟨he,rfl⟩
  exact ⟨he,(HM0.setW k v).drew,HC⟩
theorem addAct_at (h:MemAt 95 w b g ws true c) (v:Int) {k:Nat} (hk:k<ws.length) :
  Calls Tryz.prog 105 #[.pointer (some ⟨w.heap.size,0,none⟩),.pointer (some ⟨w.heap.size+1,0,none⟩),.pointer (some ⟨w.heap.size+1+1+1,0,none⟩),.pointer (some ⟨w.heap.size+1+1,0,none⟩)] ((((((w.alloc (.cells #[.pointer (some ⟨b,0,none⟩)] 37)).alloc (.cells #[.int .i64 k] 3)).alloc (.cells #[.int .u64 v] 45)).alloc (.cells #[.int .u64 0] 45)).setCell ⟨b,1,none⟩ (.bool false)).setCell ⟨b,2,none⟩ (.int .i64 (up c))) fun e w'=>e=.returned (.tuple #[]) ∧
   (w'.cell? ⟨w.heap.size+1+1+1,0,none⟩=some (.int .u64 (wordAt ws k))∧MemAt 95 w' b g (ws.set k (addV (wordAt ws k) v)) false (up c)∧Chg b g w w'):=by
 have hb:=h.ltB
 have hg:=h.ltG
 have hv:wordAt ws k=ws[k]:=by simp [wordAt,hk]
 have HM0:=((((((h.alloc (.cells #[.pointer (some ⟨b,0,none⟩)] 37)).alloc (.cells #[.int .i64 k] 3)).alloc (.cells #[.int .u64 v] 45)).alloc (.cells #[.int .u64 0] 45)).setO false).setC (up c))
 have HM:=((HM0.other (n:=w.heap.size+1+1+1) (by omega) (by omega) 0 (.int .u64 ws[k])).setW k (addV ws[k] v)).drew.drew
 have HC:=(((((((Chg.refl b g w).alloc (.cells #[.pointer (some ⟨b,0,none⟩)] 37)).alloc (.cells #[.int .i64 k] 3)).alloc (.cells #[.int .u64 v] 45)).alloc (.cells #[.int .u64 0] 45)).setB 1 (.bool false)).setB 2 (.int .i64 (up c))).setN (n:=w.heap.size+1+1+1) (by omega) 0 (.int .u64 ws[k]) |>.setG k (.int .u64 (addV ws[k] v)) |>.drew.drew
 rw [hv]
 refine (addAct_any _ w.heap.size (w.heap.size+1) (w.heap.size+1+1+1) (w.heap.size+1+1) b g k ws.length ws[k] v (.int .u64 0) ?_ ?_ HM0.cell0 (HM0.word hk) (by omega) ?_ ?_ ?_ (HM0.freeG k) (by omega) (by omega) (by omega) (by omega) (by omega)).mono ?_
 ·simp [go_sem]
 ·simp [go_sem]
 ·simp [go_sem]
 ·simp [go_sem]
 ·simp [go_sem]
 ·rintro e w' ⟨he,rfl⟩
  refine ⟨he,?_,HM,HC⟩
  rw [World.cell?_drew,World.cell?_drew,World.cell?_setCell_other (h:=fun e=>by have:=congrArg Addr.block e;simp at this;omega)]
  simp [go_sem]
theorem load_any (h:MemAt 95 w b g ws o c) (i:Int):Calls Tryz.prog 108 #[.pointer (some ⟨b,0,none⟩),.int .i64 i] w fun e w'=>e=.returned (.tuple #[.int .u64 (toldW ws o i),.int .i64 (errA ws o i)])∧MemAt 95 w' b g ws (spentO ws o i) (spentC ws o i c)∧Chg b g w w':=by
 have HM:Hid (MemAt 95 w b g ws o c):=h
 clear h
 unfold errA spentO spentC toldW
 cases hh:hasB ws i
 ·go_enter Tryz.func108,Tryz.ntmps108
  go_wp2_with (go_at_call 104;refine (access_none (((HM.out.alloc _).alloc _).alloc _) _ hh _ _ _).mono ?_;rintro e w' ⟨rfl,hw⟩;subst w')
  go_ret2
  exact ⟨rfl,((HM.out.alloc _).alloc _).alloc _,(((Chg.refl _ _ _).alloc _).alloc _).alloc _⟩
 ·obtain ⟨k,rfl,hk⟩:=hasB_pos hh
  cases o
  ·go_enter Tryz.func108,Tryz.ntmps108
   go_wp2_with (go_at_call 104;refine (access_spent (((HM.out.alloc _).alloc _).alloc _) _ hh _ _ _).mono ?_;rintro e w' ⟨rfl,hw⟩;subst w')
   go_ret2
   exact ⟨rfl,((HM.out.alloc _).alloc _).alloc _,(((Chg.refl _ _ _).alloc _).alloc _).alloc _⟩
  ·have HA:=Lib.hid (loadAct_at HM.out hk)
   go_enter Tryz.func108,Tryz.ntmps108
   go_wp2_with (go_at_call 104;refine (access_let (((HM.out.alloc _).alloc _).alloc _) _ hh _ _ _ (enter_run Tryz.func124 (by kernel_rfl) (by kernel_rfl)) HA.out).mono ?_;rintro e w' ⟨rfl,hc,hm,hz⟩;replace hm:=Lib.hid hm)
   go_ret2
   exact ⟨rfl,hm.out,hz⟩
theorem store_any (h:MemAt 95 w b g ws o c) (i v:Int):Calls Tryz.prog 180 #[.pointer (some ⟨b,0,none⟩),.int .i64 i,.int .u64 v] w fun e w'=>e=.returned (.int .i64 (errA ws o i))∧MemAt 95 w' b g (stored ws o i v) (spentO ws o i) (spentC ws o i c)∧Chg b g w w':=by
 have HM:Hid (MemAt 95 w b g ws o c):=h
 clear h
 unfold errA spentO spentC stored
 cases hh:hasB ws i
 ·go_enter Tryz.func180,Tryz.ntmps180
  go_wp2_with (go_at_call 104;refine (access_none (((HM.out.alloc _).alloc _).alloc _) _ hh _ _ _).mono ?_;rintro e w' ⟨rfl,hw⟩;subst w')
  go_ret
  exact ⟨rfl,((HM.out.alloc _).alloc _).alloc _,(((Chg.refl _ _ _).alloc _).alloc _).alloc _⟩
 ·obtain ⟨k,rfl,hk⟩:=hasB_pos hh
  cases o
  ·go_enter Tryz.func180,Tryz.ntmps180
   go_wp2_with (go_at_call 104;refine (access_spent (((HM.out.alloc _).alloc _).alloc _) _ hh _ _ _).mono ?_;rintro e w' ⟨rfl,hw⟩;subst w')
   go_ret
   exact ⟨rfl,((HM.out.alloc _).alloc _).alloc _,(((Chg.refl _ _ _).alloc _).alloc _).alloc _⟩
  ·have HA:=Lib.hid (storeAct_at HM.out v hk)
   go_enter Tryz.func180,Tryz.ntmps180
   go_wp2_with (go_at_call 104;refine (access_let (((HM.out.alloc _).alloc _).alloc _) _ hh _ _ _ (enter_run Tryz.func196 (by kernel_rfl) (by kernel_rfl)) HA.out).mono ?_;rintro e w' ⟨rfl,hm,hz⟩;replace hm:=Lib.hid hm)
   go_ret
   exact ⟨rfl,hm.out,hz⟩
theorem add_any (h:MemAt 95 w b g ws o c) (i v:Int):Calls Tryz.prog 88 #[.pointer (some ⟨b,0,none⟩),.int .i64 i,.int .u64 v] w fun e w'=>e=.returned (.tuple #[.int .u64 (toldW ws o i),.int .i64 (errA ws o i)])∧MemAt 95 w' b g (stored ws o i (addV (wordAt ws i) v)) (spentO ws o i) (spentC ws o i c)∧Chg b g w w':=by
 have HM:Hid (MemAt 95 w b g ws o c):=h
 clear h
 unfold errA spentO spentC toldW stored
 cases hh:hasB ws i
 ·go_enter Tryz.func88,Tryz.ntmps88
  go_wp2_with (go_at_call 104;refine (access_none ((((HM.out.alloc _).alloc _).alloc _).alloc _) _ hh _ _ _).mono ?_;rintro e w' ⟨rfl,hw⟩;subst w')
  go_ret2
  exact ⟨rfl,(((HM.out.alloc _).alloc _).alloc _).alloc _,((((Chg.refl _ _ _).alloc _).alloc _).alloc _).alloc _⟩
 ·obtain ⟨k,rfl,hk⟩:=hasB_pos hh
  cases o
  ·go_enter Tryz.func88,Tryz.ntmps88
   go_wp2_with (go_at_call 104;refine (access_spent ((((HM.out.alloc _).alloc _).alloc _).alloc _) _ hh _ _ _).mono ?_;rintro e w' ⟨rfl,hw⟩;subst w')
   go_ret2
   exact ⟨rfl,(((HM.out.alloc _).alloc _).alloc _).alloc _,((((Chg.refl _ _ _).alloc _).alloc _).alloc _).alloc _⟩
  ·have HA:=Lib.hid (addAct_at HM.out v hk)
   go_enter Tryz.func88,Tryz.ntmps88
   go_wp2_with (go_at_call 104;refine (access_let ((((HM.out.alloc _).alloc _).alloc _).alloc _) _ hh _ _ _ (enter_run Tryz.func105 (by kernel_rfl) (by kernel_rfl)) HA.out).mono ?_;rintro e w' ⟨rfl,hc,hm,hz⟩;replace hm:=Lib.hid hm)
   go_ret2
   exact ⟨rfl,hm.out,hz⟩
end
end Go.Proofs.YteinilmecnlanabGreatDoor.Md
namespace Go.Proofs.YteinilmecnlanabGreatDoor.Md
open Go.ChangeShapes Go.WideShapes Go.ChangeAt Go.RowKit
theorem wordInfo:(Tryz.prog.info? 45).map (fun i=>(i.zero,i.size,i.bytes))=some (some (.int .u64 0),1,8):=by kernel_rfl
def RowAt (w:World) (g:Nat) (ws:List Int):Prop:=w.heap[g]?=some (.cells (u64s ws).toArray 45 (0,0))
theorem RowAt.lt {w:World} {g:Nat} {ws:List Int} (h:RowAt w g ws):g<w.heap.size:=lt_of_block h
theorem RowAt.on {w w':World} {g:Nat} {ws:List Int} (h:RowAt w g ws) (k:Below w.heap.size w w'):RowAt w' g ws:=(k.block g h.lt).trans h
theorem RowAt.word {w:World} {g:Nat} {ws:List Int} (h:RowAt w g ws) {i:Nat} (hi:i<ws.length):w.cell? ⟨g,i,none⟩=some (.int .u64 ws[i]):=by
 rw [cell_of_row w g i _ _ _ h]
 simp [u64s,hi]
theorem u64s_len (ws:List Int):(u64s ws).length=ws.length:=by unfold u64s;rw [List.length_map]
theorem make_words (n:Nat) (hn:n≤4096) (w:World):(Instr.makeSlice 28 (.int .i64 (n:Int)) (.int .i64 (n:Int))).run Tryz.prog w=.ok (.slice (some ⟨w.heap.size,0,none⟩) n n) (w.alloc (.cells (u64s (List.replicate n 0)).toArray 45)):=by
 obtain ⟨i,hi,hz0,hz1,hz2⟩:=info_parts wordInfo
 rw [run_make w 28 45 i (.int .u64 0) Tryz.underlying28 hi hz0 .i64 .i64 n n (by omega) (Int.le_refl _) (by rw [hz2];omega) (by omega)]
 have e:(madeCells (Value.int .u64 0).cells (((n:Int)).toNat*i.size))=(u64s (List.replicate n 0)).toArray:=by
  rw [hz1,Nat.mul_one,Int.toNat_natCast]
  apply Array.toList_inj.1
  rw [show (Value.int .u64 0).cells=#[.int .u64 0] from rfl,toList_madeCells_one]
  simp [u64s]
 rw [e,Int.toNat_natCast]
theorem copy_words (w:World) (g:Nat) (ws:List Int) (h:RowAt w g ws) (ty:TypeId):(Builtin.copy_ #[28,28] ty #[.slice (some ⟨w.heap.size,0,none⟩) ws.length ws.length,.slice (some ⟨g,0,none⟩) ws.length ws.length]).run Tryz.prog (w.alloc (.cells (u64s (List.replicate ws.length 0)).toArray 45)) =
  .ok (goInt ws.length) ((w.alloc (.cells (u64s (List.replicate ws.length 0)).toArray 45)).setRow w.heap.size (u64s ws).toArray):=by
 have hr:=run_copy_row (P:=Tryz.prog) (w.alloc (.cells (u64s (List.replicate ws.length 0)).toArray 45)) 28 28 ty 45 w.heap.size 0 ws.length ws.length ⟨g,0,none⟩ ws.length ws.length (u64s (List.replicate ws.length 0)).toArray 45 (u64s ws) Tryz.underlying28 (by kernel_rfl) (heap_alloc_new _ _) (by rw [u64s_len];exact (Nat.min_self _).symm) (fun j v hj=>by
   have hj':j<ws.length:=by
    have:=(List.getElem?_eq_some_iff.1 hj).1
    rwa [u64s_len] at this
   have e:(⟨g,0,none⟩:Addr).add j=⟨g,j,none⟩:=by unfold Addr.add;split <;> simp_all
   rw [e,World.cell?_alloc_past _ _ _ h.lt,h.word hj']
   rw [← hj]
   simp [u64s,hj']) (by simp [u64s_len]) (fun v hv=>by
   unfold u64s at hv
   obtain ⟨x,_,rfl⟩:=List.mem_map.1 hv
   rfl)
 rw [hr]
 have e:(List.take 0 (u64s (List.replicate ws.length 0)).toArray.toList ++ u64s ws ++ List.drop (0+(u64s ws).length) (u64s (List.replicate ws.length 0)).toArray.toList)=u64s ws:=by
  rw [List.drop_of_length_le (by simp [u64s_len])]
  simp
 rw [e,u64s_len]
section
variable {w:World} {b g:Nat} {ws:List Int} {o:Bool} {c:Int}
theorem all_any (h:MemAt 95 w b g ws o c):Calls Tryz.prog 19 #[.pointer (some ⟨b,0,none⟩)] w fun e w'=>e=.returned (.slice (some ⟨w.heap.size,0,none⟩) ws.length ws.length)∧RowAt w' w.heap.size ws∧Below w.heap.size w w':=by
 have h0:=h.cell0
 have hb:=h.ltB
 have hmk:=make_words ws.length h.many
 have hcp:=copy_words w g ws h.row
 have HF:Hid (RowAt ((w.alloc (.cells (u64s (List.replicate ws.length 0)).toArray 45)).setRow w.heap.size (u64s ws).toArray) w.heap.size ws):=setRow_heap _ _ _ _ _ _ (heap_alloc_new _ _)
 have HB:Hid (Below w.heap.size w ((w.alloc (.cells (u64s (List.replicate ws.length 0)).toArray 45)).setRow w.heap.size (u64s ws).toArray)) :=
  ((Below.refl _ _).alloc (Nat.le_refl _) _).trans ⟨rfl,rfl,rfl,by simp,fun k hk=>setRow_other _ _ _ _ (Nat.ne_of_lt hk)⟩
 clear h
 go_enter Tryz.func19,Tryz.ntmps19
 go_wp2
 go_ret
 exact ⟨rfl,HF.out,HB.out⟩
end
theorem new_some (n:Nat) (h1:1≤n) (h2:n≤4096) (w:World):Calls Tryz.prog 17 #[.int .i64 n] w fun e w'=>e=.returned (.tuple #[.pointer (some ⟨w.heap.size+1,0,none⟩),.int .i64 0])∧MemAt 95 w' (w.heap.size+1) w.heap.size (List.replicate n 0) false 0∧Below w.heap.size w w':=by
 have hh:(decide (1≤(n:Int)) && decide ((n:Int)≤4096))=true:=by simp;omega
 have hmk:=make_words n h2
 have HN:=Lib.hid (And.intro h1 h2)
 clear h1 h2
 go_enter Tryz.func17,Tryz.ntmps17
 go_wp2_with (go_at_call 41;refine (within_any _ _ _).mono ?_;rw [hh];rintro e w' ⟨rfl,hw⟩;subst w')
 go_ret2
 refine ⟨rfl,⟨?_,?_,by omega,by rw [List.length_replicate];exact HN.out.1,by rw [List.length_replicate];exact HN.out.2⟩,((Below.refl _ _).alloc (Nat.le_refl _) _).alloc (by simp) _⟩
 ·rw [List.length_replicate]
  have:=heap_alloc_new (w.alloc (.cells (u64s (List.replicate n 0)).toArray 45)) (.cells #[.slice (some ⟨w.heap.size,0,none⟩) n n,.bool false,.int .i64 0] 95)
  simpa using this
 ·rw [Below.heap_alloc _ _ _ (by simp)]
  exact heap_alloc_new _ _
end Go.Proofs.YteinilmecnlanabGreatDoor.Md
namespace Go.Proofs.YteinilmecnlanabGreatDoor.Md
open Go.ChangeShapes Go.WideShapes Go.ChangeAt Go.RowKit
theorem cloned {w w1 w2:World} {b g:Nat} {ws:List Int} {o:Bool} {c:Int} (h:MemAt 95 w b g ws o c) (hr:RowAt w1 w.heap.size ws) (hb:Below w.heap.size w w1) (h2:w2.heap=(w1.alloc (.cells #[.slice (some ⟨w.heap.size,0,none⟩) ws.length ws.length,.bool o,.int .i64 c] 95)).heap) (ho:w2.os=w1.os) (ht:w2.tape=w1.tape) (hp:w2.output=w1.output) :
  MemAt 95 w2 w1.heap.size w.heap.size ws o c∧Below w.heap.size w w2:=by
 have hlt:=hr.lt
 refine ⟨⟨?_,?_,by omega,h.some',h.many⟩,⟨ho.trans hb.os,ht.trans hb.tape,hp.trans hb.output,?_,fun k hk=>?_⟩⟩
 ·rw [h2];exact heap_alloc_new _ _
 ·rw [h2,Below.heap_alloc _ _ _ hlt];exact hr
 ·rw [h2];simp;omega
 ·rw [h2,Below.heap_alloc _ _ _ (by omega)];exact hb.block k hk
section
variable {w:World} {b g:Nat} {ws:List Int} {o:Bool} {c:Int}
theorem clone_any (h:MemAt 95 w b g ws o c):Calls Tryz.prog 11 #[.pointer (some ⟨b,0,none⟩)] w fun e w'=>∃ nb,e=.returned (.pointer (some ⟨nb,0,none⟩))∧w.heap.size≤nb∧MemAt 95 w' nb w.heap.size ws o c∧Below w.heap.size w w':=by
 have HM:Hid (MemAt 95 w b g ws o c):=h
 have h1:=h.cell1
 have h2:=h.cell2
 have hb:=h.ltB
 clear h
 go_enter Tryz.func11,Tryz.ntmps11
 go_wp2
 go_region_with (go_at_call 19;refine (all_any (by first | exact HM.out | exact HM.out.drew)).mono ?_;rintro e w1 ⟨rfl,hr,hbb⟩;have HR:=Lib.hid hr;have HB:=Lib.hid hbb;have q1:w1.cell? ⟨b,1,none⟩=some (.bool o):=(hbb.cell (p:=⟨b,1,none⟩) hb).trans h1;have q2:w1.cell? ⟨b,2,none⟩=some (.int .i64 c):=(hbb.cell (p:=⟨b,2,none⟩) hb).trans h2;clear hr hbb)
 all_goals (try go_wp2)
 all_goals go_ret
 all_goals exact ⟨_,rfl,HB.out.size,cloned HM.out HR.out ⟨HB.out.os,HB.out.tape,HB.out.output,HB.out.size,HB.out.block⟩ rfl rfl rfl rfl⟩
end
end Go.Proofs.YteinilmecnlanabGreatDoor.Md
namespace Go.Proofs.YteinilmecnlanabGreatDoor.Md
open Go.ChangeShapes Go.WideShapes Go.ChangeAt Go.RowKit
end Go.Proofs.YteinilmecnlanabGreatDoor.Md
namespace Go.Proofs.YteinilmecnlanabGreatDoor.Md.Ce
open Go.ChangeShapes Go.WideShapes Go.ChangeAt Go.RowKit Num
attribute [local go_sem] frombits_run bits_run
theorem run_store_float (a:Addr) (m:Mode) (k:FloatKind) (b:Nat) (w:World):(store a (.float k b) m).run Tryz.prog w=_root_.Go.stored Tryz.prog w a (.float k b) m:=run_store Tryz.prog w a _ m rfl
theorem run_store_func (a:Addr) (m:Mode) (f:Fn) (x y:Array Value) (w:World):(store a (.func f x y) m).run Tryz.prog w=_root_.Go.stored Tryz.prog w a (.func f x y) m:=run_store Tryz.prog w a _ m rfl
theorem run_store_nilFunc (a:Addr) (m:Mode) (w:World):(store a .nilFunc m).run Tryz.prog w=_root_.Go.stored Tryz.prog w a .nilFunc m:=run_store Tryz.prog w a _ m rfl
theorem of_int (n:Int) (w:World):Calls Tryz.prog 85 #[.int .u64 n] w fun e w'=>e=.returned (.float .f64 (fixB n.toNat))∧w'=w:=by
 go_enter Tryz.func85,Tryz.ntmps85
 go_wp2_with (first | (go_at_call 67;refine (fix_any _ _).mono ?_;rintro e w' ⟨rfl,rfl⟩) | go_in)
 go_ret
 exact ⟨rfl,rfl⟩
structure Ch (L:List Nat) (w w':World):Prop where
 os:w'.os=w.os
 tape:w'.tape=w.tape
 output:w'.output=w.output
 size:w.heap.size≤w'.heap.size
 block:∀ k,k<w.heap.size→k∉L→w'.heap[k]?=w.heap[k]?
theorem Ch.refl (L:List Nat) (w:World):Ch L w w:=⟨rfl,rfl,rfl,Nat.le_refl _,fun _ _ _=>rfl⟩
theorem Ch.trans {L:List Nat} {a w c:World} (h:Ch L a w) (k:Ch L w c):Ch L a c :=
 ⟨k.os.trans h.os,k.tape.trans h.tape,k.output.trans h.output,Nat.le_trans h.size k.size,fun i hi h1=>(k.block i (Nat.lt_of_lt_of_le hi h.size) h1).trans (h.block i hi h1)⟩
theorem Ch.set {L:List Nat} {a w:World} (h:Ch L a w) {b:Nat} (hb:b∈L) (j:Nat) (u:Value):Ch L a (w.setCell ⟨b,j,none⟩ u) :=
 h.trans ⟨rfl,rfl,rfl,by simp,fun k _ h1=>heap_setCell_other _ _ _ _ (fun (e:k=b)=>h1 (e ▸ hb))⟩
theorem _root_.Go.Proofs.YteinilmecnlanabGreatDoor.Chg.ch {b g:Nat} {L:List Nat} {w w':World} (h:Chg b g w w') (hb:b∈L) (hg:g∈L):Ch L w w' :=
 ⟨h.os,h.tape,h.output,h.size,fun k hk hn=>h.block k hk (fun e=>hn (e ▸ hb)) (fun e=>hn (e ▸ hg))⟩
theorem ch_of {w w':World} (h:Below w.heap.size w w') (L:List Nat):Ch L w w':=⟨h.os,h.tape,h.output,h.size,fun k hk _=>h.block k hk⟩
def mayC (c:Int):Bool:=decide (0≤c∧c<256)
def placeI (p c j:Int):Int:=if 0≤p∧p≤4096 then p+3*c+j else -1
def errC (ws:List Int) (o:Bool) (p c j:Int):Int:=if mayC c then errA ws o (placeI p c j) else 60
def wordC (ws:List Int) (p c j:Int):Int:=wordAt ws (placeI p c j)
theorem mayC_pos {c:Int} (h:mayC c=true):0≤c∧c<256:=of_decide_eq_true h
theorem smay_any (p c:Int) (w:World):Calls Tryz.prog 177 #[.agg #[.int .i64 p,.int .i64 c]] w fun e w'=>e=.returned (.bool (mayC c))∧Below w.heap.size w w':=by
 unfold mayC
 by_cases h1:0≤c
 ·by_cases h2:c<256
  ·have h1':¬ c<0:=by omega
   go_enter Tryz.func177,Tryz.ntmps177
   go_wp2
   go_ret
   exact ⟨by first | (simp;done) | (simp;omega),(Below.refl _ _).alloc (Nat.le_refl _) _⟩
  ·go_enter Tryz.func177,Tryz.ntmps177
   go_wp2
   go_ret
   exact ⟨by first | (simp;done) | (simp;omega),(Below.refl _ _).alloc (Nat.le_refl _) _⟩
 ·go_enter Tryz.func177,Tryz.ntmps177
  go_wp2
  go_ret
  exact ⟨by first | (simp;done) | (simp;omega),(Below.refl _ _).alloc (Nat.le_refl _) _⟩
theorem splace_any (p c j:Int) (hc:mayC c=true) (hj:0≤j∧j<3) (w:World):Calls Tryz.prog 178 #[.agg #[.int .i64 p,.int .i64 c],.int .i64 j] w fun e w'=>e=.returned (.int .i64 (placeI p c j))∧Below w.heap.size w w':=by
 obtain ⟨hc0,hc1⟩:=mayC_pos hc
 obtain ⟨hj0,hj1⟩:=hj
 clear hc
 by_cases h1:0≤p
 ·by_cases h2:p≤4096
  ·have e:placeI p c j=p+3*c+j:=by simp [placeI,h1,h2]
   have e1:wrap64 (3*c)=3*c:=Go.IntWalk.wrap64_in _ ⟨by omega,by omega⟩
   have e2:wrap64 (p+3*c)=p+3*c:=Go.IntWalk.wrap64_in _ ⟨by omega,by omega⟩
   have e3:wrap64 (p+3*c+j)=p+3*c+j:=Go.IntWalk.wrap64_in _ ⟨by omega,by omega⟩
   have h1':¬ p<0:=by omega
   have h2':¬ 4096<p:=by omega
   rw [e]
   clear e hc0 hc1 hj0 hj1
   go_enter Tryz.func178,Tryz.ntmps178
   go_wp2
   go_ret
   exact ⟨rfl,(Below.refl _ _).alloc (Nat.le_refl _) _⟩
  ·have e:placeI p c j=-1:=by simp [placeI,h2]
   rw [e]
   clear e hc0 hc1 hj0 hj1
   have h1':¬ p<0:=by omega
   have h2':4096<p:=by omega
   go_enter Tryz.func178,Tryz.ntmps178
   go_wp2
   go_ret
   exact ⟨rfl,(Below.refl _ _).alloc (Nat.le_refl _) _⟩
 ·have e:placeI p c j=-1:=by simp [placeI,h1]
  rw [e]
  clear e hc0 hc1 hj0 hj1
  have h1':p<0:=by omega
  go_enter Tryz.func178,Tryz.ntmps178
  go_wp2
  go_ret
  exact ⟨rfl,(Below.refl _ _).alloc (Nat.le_refl _) _⟩
theorem _root_.Go.Proofs.YteinilmecnlanabGreatDoor.MemAt.hop {T:TypeId} {w w':World} {b g:Nat} {ws:List Int} {o:Bool} {c:Int} (h:MemAt T w b g ws o c) (k:Below w.heap.size w w'):MemAt T w' b g ws o c:=h.on k
theorem below_step {a w w':World} (h:Below a.heap.size a w) (k:Below w.heap.size w w'):Below a.heap.size a w':=h.trans (k.mono h.size)
theorem below_alloc_step {a w':World} {x:Obj} (k:Below (a.alloc x).heap.size (a.alloc x) w'):Below a.heap.size a w':=below_step ((Below.refl _ _).alloc (Nat.le_refl _) x) k
theorem spot_cells {a w':World} {x y:Value} {T:TypeId} (k:Below (a.alloc (.cells #[x,y] T)).heap.size (a.alloc (.cells #[x,y] T)) w'):w'.cell? ⟨a.heap.size,0,none⟩=some x∧w'.cell? ⟨a.heap.size,1,none⟩=some y∧a.heap.size<w'.heap.size :=
 ⟨(k.cell (p:=⟨a.heap.size,0,none⟩) (by simp)).trans (by simp),(k.cell (p:=⟨a.heap.size,1,none⟩) (by simp)).trans (by simp),by have:=k.size;simp at this;omega⟩
theorem chg_from {a w w':World} {b g:Nat} (h:Below a.heap.size a w) (k:Chg b g w w'):Chg b g a w':=(Chg.trans ⟨h.os,h.tape,h.output,h.size,fun i hi _ _=>h.block i hi⟩ k)
section
variable {w:World} {b g:Nat} {ws:List Int} {o:Bool} {n:Int}
theorem cload_ok (h:MemAt 95 w b g ws o n) {p c j:Int} (hj:0≤j∧j<3) (hok:errC ws o p c j=0):Calls Tryz.prog 154 #[.agg #[.int .i64 p,.int .i64 c],.pointer (some ⟨b,0,none⟩),.int .i64 j] w fun e w'=>e=.returned (.tuple #[.int .u64 (wordC ws p c j),.int .i64 0])∧MemAt 95 w' b g ws false (up n)∧Chg b g w w':=by
 cases hm:mayC c
 ·simp [errC,hm] at hok
 ·have hA:errA ws o (placeI p c j)=0:=by simpa [errC,hm] using hok
  have hk:hasB ws (placeI p c j)=true∧o=true:=by
   unfold errA at hA
   cases q:hasB ws (placeI p c j) <;> cases o <;> simp [q] at hA ⊢
  have H1:=Lib.hid (smay_any p c)
  simp only [hm] at H1
  have H2:=Lib.hid (splace_any p c j hm hj)
  have H3:=Lib.hid (fun (w1:World) (h1:Below w.heap.size w w1)=>load_any (h.hop h1) (placeI p c j))
  have e1:toldW ws o (placeI p c j)=wordC ws p c j:=by simp [toldW,wordC,hk.1,hk.2]
  have e2:spentO ws o (placeI p c j)=false:=by simp [spentO,hk.1]
  have e3:spentC ws o (placeI p c j) n=up n:=by simp [spentC,hk.1,hk.2]
  simp only [hA,e1,e2,e3] at H3
  generalize wordC ws p c j=x at H3 ⊢
  generalize placeI p c j=i at H2 H3
  clear hA hk e1 e2 e3 hok hm h
  go_enter Tryz.func154,Tryz.ntmps154
  go_wp2_with (first
   | (go_at_call 177;refine (H1.out _).mono ?_;rintro e w1 ⟨rfl,hw⟩;have HB1:=Lib.hid (below_alloc_step hw);obtain ⟨q0,q1,q2⟩:=spot_cells hw;clear hw)
   | (go_at_call 178;refine (H2.out _).mono ?_;rintro e w2 ⟨rfl,hw⟩;have HB2:=Lib.hid (below_step HB1.out hw);clear hw)
   | (go_at_call 108;refine (H3.out _ HB2.out).mono ?_;rintro e w3 ⟨rfl,hm1,hc1⟩;have HM:=Lib.hid (And.intro hm1 (chg_from HB2.out hc1));clear hm1 hc1))
  go_ret2
  exact ⟨rfl,HM.out.1,HM.out.2⟩
theorem errA_told {i:Int} (h:¬ errA ws o i=0):toldW ws o i=0∧spentO ws o i=o∧spentC ws o i n=n:=by
 unfold errA at h
 cases q:hasB ws i <;> cases o <;> simp [q] at h <;> simp [toldW,spentO,spentC,q]
theorem cload_no (h:MemAt 95 w b g ws o n) {p c j:Int} (hj:0≤j∧j<3) (hok:¬ errC ws o p c j=0):Calls Tryz.prog 154 #[.agg #[.int .i64 p,.int .i64 c],.pointer (some ⟨b,0,none⟩),.int .i64 j] w fun e w'=>e=.returned (.tuple #[.int .u64 0,.int .i64 (errC ws o p c j)])∧MemAt 95 w' b g ws o n∧Chg b g w w':=by
 have H1:=Lib.hid (smay_any p c)
 cases hm:mayC c
 ·have e:errC ws o p c j=60:=by simp [errC,hm]
  rw [e]
  simp only [hm] at H1
  have HM:=Lib.hid h
  clear e hok h hm
  go_enter Tryz.func154,Tryz.ntmps154
  go_wp2_with (go_at_call 177;refine (H1.out _).mono ?_;rintro e w1 ⟨rfl,hw⟩;have HB:=Lib.hid (below_alloc_step hw);clear hw)
  go_ret2
  exact ⟨rfl,HM.out.hop HB.out,chg_from HB.out (Chg.refl _ _ _)⟩
 ·have e0:errC ws o p c j=errA ws o (placeI p c j):=by simp [errC,hm]
  rw [e0] at hok ⊢
  simp only [hm] at H1
  obtain ⟨e1,e2,e3⟩:=errA_told (n:=n) hok
  have H2:=Lib.hid (splace_any p c j hm hj)
  have H3:=Lib.hid (fun (w1:World) (h1:Below w.heap.size w w1)=>load_any (h.hop h1) (placeI p c j))
  simp only [e1,e2,e3] at H3
  generalize errA ws o (placeI p c j)=x at H3 ⊢
  generalize placeI p c j=i at H2 H3
  clear e0 e1 e2 e3 hok hm h
  go_enter Tryz.func154,Tryz.ntmps154
  go_wp2_with (first
   | (go_at_call 177;refine (H1.out _).mono ?_;rintro e w1 ⟨rfl,hw⟩;have HB1:=Lib.hid (below_alloc_step hw);obtain ⟨q0,q1,q2⟩:=spot_cells hw;clear hw)
   | (go_at_call 178;refine (H2.out _).mono ?_;rintro e w2 ⟨rfl,hw⟩;have HB2:=Lib.hid (below_step HB1.out hw);clear hw)
   | (go_at_call 108;refine (H3.out _ HB2.out).mono ?_;rintro e w3 ⟨rfl,hm1,hc1⟩;have HM:=Lib.hid (And.intro hm1 (chg_from HB2.out hc1));clear hm1 hc1))
  go_ret2
  exact ⟨rfl,HM.out.1,HM.out.2⟩
def storeC (ws:List Int) (p c j v:Int):List Int:=ws.set (placeI p c j).toNat v
theorem cstore_ok (h:MemAt 95 w b g ws o n) {p c j:Int} (v:Int) (hj:0≤j∧j<3) (hok:errC ws o p c j=0):Calls Tryz.prog 222 #[.agg #[.int .i64 p,.int .i64 c],.pointer (some ⟨b,0,none⟩),.int .i64 j,.int .u64 v] w fun e w'=>e=.returned (.int .i64 0)∧MemAt 95 w' b g (storeC ws p c j v) false (up n)∧Chg b g w w':=by
 cases hm:mayC c
 ·simp [errC,hm] at hok
 ·have hA:errA ws o (placeI p c j)=0:=by simpa [errC,hm] using hok
  have hk:hasB ws (placeI p c j)=true∧o=true:=by
   unfold errA at hA
   cases q:hasB ws (placeI p c j) <;> cases o <;> simp [q] at hA ⊢
  have H1:=Lib.hid (smay_any p c)
  simp only [hm] at H1
  have H2:=Lib.hid (splace_any p c j hm hj)
  have H3:=Lib.hid (fun (w1:World) (h1:Below w.heap.size w w1)=>store_any (h.hop h1) (placeI p c j) v)
  have e1:Go.Proofs.YteinilmecnlanabGreatDoor.Md.stored ws o (placeI p c j) v=storeC ws p c j v:=by simp [Go.Proofs.YteinilmecnlanabGreatDoor.Md.stored,storeC,hk.1,hk.2]
  have e2:spentO ws o (placeI p c j)=false:=by simp [spentO,hk.1]
  have e3:spentC ws o (placeI p c j) n=up n:=by simp [spentC,hk.1,hk.2]
  simp only [hA,e1,e2,e3] at H3
  generalize storeC ws p c j v=x at H3 ⊢
  generalize placeI p c j=i at H2 H3
  clear hA hk e1 e2 e3 hok hm h
  go_enter Tryz.func222,Tryz.ntmps222
  go_wp2_with (first
   | (go_at_call 177;refine (H1.out _).mono ?_;rintro e w1 ⟨rfl,hw⟩;have HB1:=Lib.hid (below_alloc_step hw);obtain ⟨q0,q1,q2⟩:=spot_cells hw;clear hw)
   | (go_at_call 178;refine (H2.out _).mono ?_;rintro e w2 ⟨rfl,hw⟩;have HB2:=Lib.hid (below_step HB1.out hw);clear hw)
   | (go_at_call 180;refine (H3.out _ HB2.out).mono ?_;rintro e w3 ⟨rfl,hm1,hc1⟩;have HM:=Lib.hid (And.intro hm1 (chg_from HB2.out hc1));clear hm1 hc1))
  go_ret
  exact ⟨rfl,HM.out.1,HM.out.2⟩
theorem errA_stored {i v:Int} (h:¬ errA ws o i=0):Go.Proofs.YteinilmecnlanabGreatDoor.Md.stored ws o i v=ws:=by
 unfold errA at h
 cases q:hasB ws i <;> cases o <;> simp [q] at h <;> simp [Go.Proofs.YteinilmecnlanabGreatDoor.Md.stored,q]
theorem cstore_no (h:MemAt 95 w b g ws o n) {p c j:Int} (v:Int) (hj:0≤j∧j<3) (hok:¬ errC ws o p c j=0):Calls Tryz.prog 222 #[.agg #[.int .i64 p,.int .i64 c],.pointer (some ⟨b,0,none⟩),.int .i64 j,.int .u64 v] w fun e w'=>e=.returned (.int .i64 (errC ws o p c j))∧MemAt 95 w' b g ws o n∧Chg b g w w':=by
 have H1:=Lib.hid (smay_any p c)
 cases hm:mayC c
 ·have e:errC ws o p c j=60:=by simp [errC,hm]
  rw [e]
  simp only [hm] at H1
  have HM:=Lib.hid h
  clear e hok h hm
  go_enter Tryz.func222,Tryz.ntmps222
  go_wp2_with (go_at_call 177;refine (H1.out _).mono ?_;rintro e w1 ⟨rfl,hw⟩;have HB:=Lib.hid (below_alloc_step hw);clear hw)
  go_ret
  exact ⟨rfl,HM.out.hop HB.out,chg_from HB.out (Chg.refl _ _ _)⟩
 ·have e0:errC ws o p c j=errA ws o (placeI p c j):=by simp [errC,hm]
  rw [e0] at hok ⊢
  simp only [hm] at H1
  obtain ⟨_,e2,e3⟩:=errA_told (n:=n) hok
  have e1:=errA_stored (v:=v) hok
  have H2:=Lib.hid (splace_any p c j hm hj)
  have H3:=Lib.hid (fun (w1:World) (h1:Below w.heap.size w w1)=>store_any (h.hop h1) (placeI p c j) v)
  simp only [e1,e2,e3] at H3
  generalize errA ws o (placeI p c j)=x at H3 ⊢
  generalize placeI p c j=i at H2 H3
  clear e0 e1 e2 e3 hok hm h
  go_enter Tryz.func222,Tryz.ntmps222
  go_wp2_with (first
   | (go_at_call 177;refine (H1.out _).mono ?_;rintro e w1 ⟨rfl,hw⟩;have HB1:=Lib.hid (below_alloc_step hw);obtain ⟨q0,q1,q2⟩:=spot_cells hw;clear hw)
   | (go_at_call 178;refine (H2.out _).mono ?_;rintro e w2 ⟨rfl,hw⟩;have HB2:=Lib.hid (below_step HB1.out hw);clear hw)
   | (go_at_call 180;refine (H3.out _ HB2.out).mono ?_;rintro e w3 ⟨rfl,hm1,hc1⟩;have HM:=Lib.hid (And.intro hm1 (chg_from HB2.out hc1));clear hm1 hc1))
  go_ret
  exact ⟨rfl,HM.out.1,HM.out.2⟩
end
end Go.Proofs.YteinilmecnlanabGreatDoor.Md.Ce
namespace Go.Proofs.YteinilmecnlanabGreatDoor.Md.Ce
open Go.ChangeShapes Go.WideShapes Go.ChangeAt Go.RowKit Num
theorem run_equalIn_func {P:Program} (d:Nat) (t:TypeId) (f:Fn) (x y:Array Value) (w:World) {ps rs:Array TypeId} {v:Bool} (h:P.underlying t=some (.func ps rs v)):(Op.equalIn (d+1) t (.func f x y) .nilFunc).run P w=.ok false w:=by
 simp [Op.equalIn,run_underlying h]
theorem run_equalIn_nil {P:Program} (d:Nat) (t:TypeId) (w:World) {ps rs:Array TypeId} {v:Bool} (h:P.underlying t=some (.func ps rs v)):(Op.equalIn (d+1) t .nilFunc .nilFunc).run P w=.ok true w:=by
 simp [Op.equalIn,run_underlying h]
theorem run_equal_func {P:Program} (t:TypeId) (f:Fn) (x y:Array Value) (w:World) {ps rs:Array TypeId} {v:Bool} (h:P.underlying t=some (.func ps rs v)):(Op.equal t (.func f x y) .nilFunc).run P w=.ok false w:=run_equalIn_func 9999 t f x y w h
theorem run_equal_nil {P:Program} (t:TypeId) (w:World) {ps rs:Array TypeId} {v:Bool} (h:P.underlying t=some (.func ps rs v)):(Op.equal t .nilFunc .nilFunc).run P w=.ok true w:=run_equalIn_nil 9999 t w h
end Go.Proofs.YteinilmecnlanabGreatDoor.Md.Ce
namespace Go.Proofs.YteinilmecnlanabGreatDoor.Md.Ce
open Go.ChangeShapes Go.WideShapes Go.ChangeAt Go.RowKit Num
end Go.Proofs.YteinilmecnlanabGreatDoor.Md.Ce
namespace Go.Proofs.YteinilmecnlanabGreatDoor.Md.Ce
open Go.ChangeShapes Go.WideShapes Go.ChangeAt Go.RowKit Num
def aftO (e:Int) (o:Bool):Bool:=if e=0 then false else o
def aftN (e n:Int):Int:=if e=0 then up n else n
theorem alloc_at {w:World} {x:Obj} {k:Nat} (hk:w.heap.size=k):(w.alloc x).heap[k]?=some x:=by subst hk;exact heap_alloc_new _ _
def planV (a b c d p f:Int):Value:=.agg #[.int .i64 a,.int .i64 b,.int .i64 c,.int .i64 d,.int .i64 p,.int .i64 f]
end Go.Proofs.YteinilmecnlanabGreatDoor.Md.Ce
namespace Go.Proofs.YteinilmecnlanabGreatDoor.Md.Ce
open Go.ChangeShapes Go.WideShapes Go.ChangeAt Go.RowKit Num
attribute [local go_sem] run_store_float run_store_func run_store_nilFunc
structure Wt where
 p:Int
 c:Int
 a:Int
 v:Int
 z:Int
 d:Nat
theorem bl_alloc {a w:World} (h:Below a.heap.size a w) (x:Obj):Below a.heap.size a (w.alloc x):=h.alloc h.size x
theorem bl_drew {a w:World} (h:Below a.heap.size a w):Below a.heap.size a w.drew:=⟨h.os,h.tape,h.output,h.size,h.block⟩
theorem bl_setRow {a w:World} {k:Nat} (h:Below a.heap.size a w) (hk:a.heap.size≤k) (x:Array Value):Below a.heap.size a (w.setRow k x) :=
 ⟨h.os,h.tape,h.output,by simpa using h.size,fun i hi=>(setRow_other _ _ _ _ (by omega)).trans (h.block i hi)⟩
theorem chg_cell {b g k:Nat} {u w1:World} (hc:Chg b g u w1) (hk:k<u.heap.size) (h1:k≠b) (h2:k≠g) (j:Nat):w1.cell? ⟨k,j,none⟩=u.cell? ⟨k,j,none⟩:=World.cell?_of_block (a:=⟨k,j,none⟩) (hc.block k hk h1 h2)
def wboxV (t:Wt):Array Value:=#[.int .i64 t.p,.int .i64 t.c,.int .i64 2,.int .u64 t.a,.int .i64 0,.int .u64 t.v,.int .i64 1,.int .u64 t.z,.int .i64 t.d]
def WtAt (w:World) (q:Nat) (t:Wt):Prop:=w.heap[q]?=some (.cells (wboxV t) 133 (0,0))∧t.d≤3
section
variable {w:World} {q:Nat} {t:Wt}
theorem WtAt.lt (h:WtAt w q t):q<w.heap.size:=lt_of_block h.1
theorem WtAt.free (h:WtAt w q t) (j:Nat):w.frozen? ⟨q,j,none⟩=false:=frozen_of_row w q j _ _ h.1
theorem WtAt.cell (h:WtAt w q t) (j:Nat) (v:Value) (hj:(wboxV t)[j]?=some v):w.cell? ⟨q,j,none⟩=some v:=by rw [cell_of_row w q j _ _ _ h.1];exact hj
theorem WtAt.keep {w':World} (h:WtAt w q t) (k:w'.heap[q]?=w.heap[q]?):WtAt w' q t:=⟨k.trans h.1,h.2⟩
theorem WtAt.setD (h:WtAt w q t) (hd:t.d<3):WtAt (w.setCell ⟨q,8,none⟩ (.int .i64 ((t.d+1:Nat):Int))) q { t with d:=t.d+1 }:=⟨(heap_setCell_same w q 8 _ _ _ h.1).trans rfl,hd⟩
end
def wordW (d:Nat):Int:=if d=0 then 2 else if d=1 then 0 else 1
def bitsW (t:Wt):Int:=if t.d=0 then t.a else if t.d=1 then t.v else t.z
theorem wordW_in (d:Nat):0≤wordW d∧wordW d<3:=by unfold wordW;split <;> (try split) <;> omega
def errW (t:Wt) (ws:List Int) (o:Bool):Int:=if t.d<3 then errC ws o t.p t.c (wordW t.d) else 3
def stepW (t:Wt) (ws:List Int) (o:Bool):Wt:=if errW t ws o=0 then { t with d:=t.d+1 } else t
def laidW (t:Wt) (ws:List Int) (o:Bool):List Int:=if errW t ws o=0 then storeC ws t.p t.c (wordW t.d) (bitsW t) else ws
def endW (t:Wt) (ws:List Int) (o:Bool):Bool:=decide (errW t ws o=0) && decide (t.d=2)
section
variable {w:World} {b g q:Nat} {ws:List Int} {o:Bool} {n:Int} {t:Wt}
theorem wover_any (h:WtAt w q t):Calls Tryz.prog 221 #[.pointer (some ⟨q,0,none⟩)] w fun e w'=>e=.returned (.bool (decide (t.d=3)))∧w'=w:=by
 have h8:=h.cell 8 (.int .i64 t.d) rfl
 have hb:=h.lt
 have e:decide ((t.d:Int)=3)=decide (t.d=3):=by rw [decide_eq_decide];omega
 rw [← e]
 clear e h
 go_enter Tryz.func221,Tryz.ntmps221
 go_wp2
 go_ret
 exact ⟨by first | rfl | (congr 1),rfl⟩
theorem wstep_over (h:WtAt w q t) (hk:¬ t.d<3):Calls Tryz.prog 200 #[.pointer (some ⟨q,0,none⟩),.pointer (some ⟨b,0,none⟩)] w fun e w'=>e=.returned (.tuple #[.bool false,.int .i64 3])∧w'=w:=by
 have H1:=Lib.hid (wover_any h)
 rw [decide_eq_true (show t.d=3 by have:=h.2;omega)] at H1
 clear h hk
 go_enter Tryz.func200,Tryz.ntmps200
 go_wp2_with (go_at_call 221;refine H1.out.mono ?_;rintro e w1 ⟨rfl,hw⟩;subst w1)
 go_ret2
 exact ⟨rfl,rfl⟩
theorem wstep_ok (h:MemAt 95 w b g ws o n) (hr:WtAt w q t) (h1:q≠b) (h2:q≠g) (hd:t.d<3) (hok:errC ws o t.p t.c (wordW t.d)=0):Calls Tryz.prog 200 #[.pointer (some ⟨q,0,none⟩),.pointer (some ⟨b,0,none⟩)] w fun e w'=>e=.returned (.tuple #[.bool (decide (t.d=2)),.int .i64 0])∧MemAt 95 w' b g (storeC ws t.p t.c (wordW t.d) (bitsW t)) false (up n)∧WtAt w' q { t with d:=t.d+1 }∧Ch [b,g,q] w w':=by
 have H1:=Lib.hid (wover_any hr)
 rw [decide_eq_false (show ¬ t.d=3 by omega)] at H1
 have HS:=Lib.hid (fun (u:World) (k:Below w.heap.size w u)=>cstore_ok (h.on k) (p:=t.p) (c:=t.c) (j:=wordW t.d) (bitsW t) (wordW_in _) hok)
 have HR:=Lib.hid hr
 have HD:=Lib.hid hd
 have HN:=Lib.hid (And.intro h1 h2)
 have hb:=h.ltB
 have hg:=h.ltG
 have hq:=hr.lt
 have c0:w.cell? ⟨q,0,none⟩=some (.int .i64 t.p):=hr.cell 0 _ rfl
 have c1:w.cell? ⟨q,1,none⟩=some (.int .i64 t.c):=hr.cell 1 _ rfl
 have c2:w.cell? ⟨q,2,none⟩=some (.int .i64 2):=hr.cell 2 _ rfl
 have c3:w.cell? ⟨q,3,none⟩=some (.int .u64 t.a):=hr.cell 3 _ rfl
 have c4:w.cell? ⟨q,4,none⟩=some (.int .i64 0):=hr.cell 4 _ rfl
 have c5:w.cell? ⟨q,5,none⟩=some (.int .u64 t.v):=hr.cell 5 _ rfl
 have c6:w.cell? ⟨q,6,none⟩=some (.int .i64 1):=hr.cell 6 _ rfl
 have c7:w.cell? ⟨q,7,none⟩=some (.int .u64 t.z):=hr.cell 7 _ rfl
 have c8:w.cell? ⟨q,8,none⟩=some (.int .i64 t.d):=hr.cell 8 _ rfl
 have HO:=Lib.hid (fun (w1:World) (k1:WtAt w1 q { t with d:=t.d+1 })=>wover_any k1)
 have e2:decide (t.d+1=3)=decide (t.d=2):=by rw [decide_eq_decide];omega
 simp only [e2] at HO
 have HA:Hid (∀ (u w1:World),Below w.heap.size w u→w.heap.size<u.heap.size→Chg b g u w1→MemAt 95 w1 b g (storeC ws t.p t.c (wordW t.d) (bitsW t)) false (up n)→(w1.cell? ⟨q,0,none⟩=some (.int .i64 t.p)∧w1.cell? ⟨q,1,none⟩=some (.int .i64 t.c)∧w1.cell? ⟨w.heap.size,0,none⟩=u.cell? ⟨w.heap.size,0,none⟩∧w1.cell? ⟨w.heap.size,1,none⟩=u.cell? ⟨w.heap.size,1,none⟩∧w1.cell? ⟨q,8,none⟩=some (.int .i64 t.d)∧w1.frozen? ⟨q,8,none⟩=false∧q<w1.heap.size)∧Hid (WtAt (w1.setCell ⟨q,8,none⟩ (.int .i64 ((t.d+1:Nat):Int))) q { t with d:=t.d+1 }∧MemAt 95 (w1.setCell ⟨q,8,none⟩ (.int .i64 ((t.d+1:Nat):Int))) b g (storeC ws t.p t.c (wordW t.d) (bitsW t)) false (up n)∧Ch [b,g,q] w (w1.setCell ⟨q,8,none⟩ (.int .i64 ((t.d+1:Nat):Int))))):=fun u w1 k hs hc hm=>by
  have k1:WtAt w1 q t:=hr.keep ((hc.block q (Nat.lt_of_lt_of_le hq k.size) h1 h2).trans (k.block q hq))
  exact ⟨⟨k1.cell 0 _ rfl,k1.cell 1 _ rfl,chg_cell hc hs (by omega) (by omega) 0,chg_cell hc hs (by omega) (by omega) 1,k1.cell 8 _ rfl,k1.free 8,k1.lt⟩,k1.setD hd,hm.other (Ne.symm h1) (Ne.symm h2) _ _,((ch_of k _).trans (hc.ch (by simp) (by simp))).set (by simp) _ _⟩
 clear h hr hok hd e2
 generalize hyy:storeC ws t.p t.c (wordW t.d) (bitsW t)=yy at HS HA ⊢
 clear hyy
 obtain ⟨p,c,a,v,z,d⟩:=t
 simp only [wordW,bitsW] at *
 have hd:d=0∨d=1∨d=2:=by have:d<3:=HD.out;omega
 rcases hd with rfl | rfl | rfl
 ·simp at HS HA HO c8
  go_enter Tryz.func200,Tryz.ntmps200
  go_wp2_with (go_at_call 221;refine H1.out.mono ?_;rintro e w1 ⟨rfl,hw⟩;subst w1;clear H1)
  go_region_held (fun u=>u.cell? ⟨q,0,none⟩=some (.int .i64 p)∧u.cell? ⟨q,1,none⟩=some (.int .i64 c)∧u.cell? ⟨q,2,none⟩=some (.int .i64 2)∧u.cell? ⟨q,3,none⟩=some (.int .u64 a)∧u.cell? ⟨q,4,none⟩=some (.int .i64 0)∧u.cell? ⟨q,5,none⟩=some (.int .u64 v)∧u.cell? ⟨q,6,none⟩=some (.int .i64 1)∧u.cell? ⟨q,7,none⟩=some (.int .u64 z)∧u.cell? ⟨q,8,none⟩=some (.int .i64 0)) (go_keep) (fail)
  go_wp2
  go_region_held (fun u=>u.cell? ⟨q,0,none⟩=some (.int .i64 p)∧u.cell? ⟨q,1,none⟩=some (.int .i64 c)∧u.cell? ⟨w.heap.size,0,none⟩=some (.int .i64 2)∧u.cell? ⟨w.heap.size,1,none⟩=some (.int .u64 a)) (go_keep) (first | (go_at_call 222;refine (HS.out _ (by repeat (first | exact Below.refl _ _ | refine bl_drew ?_ | refine bl_drewN _ ?_ | refine bl_alloc ?_ _ | refine bl_setCell ?_ (by simp) _ _ | refine bl_setRow ?_ (by simp) _))).mono ?_;rintro e w2 ⟨rfl,hm,hc⟩;obtain ⟨⟨d0,d1,d2,d3,d4,d5,d6⟩,hx⟩:=HA.out _ _ (by repeat (first | exact Below.refl _ _ | refine bl_drew ?_ | refine bl_drewN _ ?_ | refine bl_alloc ?_ _ | refine bl_setCell ?_ (by simp) _ _ | refine bl_setRow ?_ (by simp) _)) (by simp) hc hm;clear hm hc))
  go_wp2_with (go_at_call 221;refine (HO.out _ hx.out.1).mono ?_;rintro e w1 ⟨rfl,hw⟩;subst w1;clear HO)
  go_ret2
  exact ⟨by first | rfl | simp,hx.out.2.1,hx.out.1,hx.out.2.2⟩
 ·simp at HS HA HO c8
  go_enter Tryz.func200,Tryz.ntmps200
  go_wp2_with (go_at_call 221;refine H1.out.mono ?_;rintro e w1 ⟨rfl,hw⟩;subst w1;clear H1)
  go_region_held (fun u=>u.cell? ⟨q,0,none⟩=some (.int .i64 p)∧u.cell? ⟨q,1,none⟩=some (.int .i64 c)∧u.cell? ⟨q,2,none⟩=some (.int .i64 2)∧u.cell? ⟨q,3,none⟩=some (.int .u64 a)∧u.cell? ⟨q,4,none⟩=some (.int .i64 0)∧u.cell? ⟨q,5,none⟩=some (.int .u64 v)∧u.cell? ⟨q,6,none⟩=some (.int .i64 1)∧u.cell? ⟨q,7,none⟩=some (.int .u64 z)∧u.cell? ⟨q,8,none⟩=some (.int .i64 1)) (go_keep) (fail)
  go_wp2
  go_region_held (fun u=>u.cell? ⟨q,0,none⟩=some (.int .i64 p)∧u.cell? ⟨q,1,none⟩=some (.int .i64 c)∧u.cell? ⟨w.heap.size,0,none⟩=some (.int .i64 0)∧u.cell? ⟨w.heap.size,1,none⟩=some (.int .u64 v)) (go_keep) (first | (go_at_call 222;refine (HS.out _ (by repeat (first | exact Below.refl _ _ | refine bl_drew ?_ | refine bl_drewN _ ?_ | refine bl_alloc ?_ _ | refine bl_setCell ?_ (by simp) _ _ | refine bl_setRow ?_ (by simp) _))).mono ?_;rintro e w2 ⟨rfl,hm,hc⟩;obtain ⟨⟨d0,d1,d2,d3,d4,d5,d6⟩,hx⟩:=HA.out _ _ (by repeat (first | exact Below.refl _ _ | refine bl_drew ?_ | refine bl_drewN _ ?_ | refine bl_alloc ?_ _ | refine bl_setCell ?_ (by simp) _ _ | refine bl_setRow ?_ (by simp) _)) (by simp) hc hm;clear hm hc))
  go_wp2_with (go_at_call 221;refine (HO.out _ hx.out.1).mono ?_;rintro e w1 ⟨rfl,hw⟩;subst w1;clear HO)
  go_ret2
  exact ⟨by first | rfl | simp,hx.out.2.1,hx.out.1,hx.out.2.2⟩
 ·simp at HS HA HO c8
  go_enter Tryz.func200,Tryz.ntmps200
  go_wp2_with (go_at_call 221;refine H1.out.mono ?_;rintro e w1 ⟨rfl,hw⟩;subst w1;clear H1)
  go_region_held (fun u=>u.cell? ⟨q,0,none⟩=some (.int .i64 p)∧u.cell? ⟨q,1,none⟩=some (.int .i64 c)∧u.cell? ⟨q,2,none⟩=some (.int .i64 2)∧u.cell? ⟨q,3,none⟩=some (.int .u64 a)∧u.cell? ⟨q,4,none⟩=some (.int .i64 0)∧u.cell? ⟨q,5,none⟩=some (.int .u64 v)∧u.cell? ⟨q,6,none⟩=some (.int .i64 1)∧u.cell? ⟨q,7,none⟩=some (.int .u64 z)∧u.cell? ⟨q,8,none⟩=some (.int .i64 2)) (go_keep) (fail)
  go_wp2
  go_region_held (fun u=>u.cell? ⟨q,0,none⟩=some (.int .i64 p)∧u.cell? ⟨q,1,none⟩=some (.int .i64 c)∧u.cell? ⟨w.heap.size,0,none⟩=some (.int .i64 1)∧u.cell? ⟨w.heap.size,1,none⟩=some (.int .u64 z)) (go_keep) (first | (go_at_call 222;refine (HS.out _ (by repeat (first | exact Below.refl _ _ | refine bl_drew ?_ | refine bl_drewN _ ?_ | refine bl_alloc ?_ _ | refine bl_setCell ?_ (by simp) _ _ | refine bl_setRow ?_ (by simp) _))).mono ?_;rintro e w2 ⟨rfl,hm,hc⟩;obtain ⟨⟨d0,d1,d2,d3,d4,d5,d6⟩,hx⟩:=HA.out _ _ (by repeat (first | exact Below.refl _ _ | refine bl_drew ?_ | refine bl_drewN _ ?_ | refine bl_alloc ?_ _ | refine bl_setCell ?_ (by simp) _ _ | refine bl_setRow ?_ (by simp) _)) (by simp) hc hm;clear hm hc))
  go_wp2_with (go_at_call 221;refine (HO.out _ hx.out.1).mono ?_;rintro e w1 ⟨rfl,hw⟩;subst w1;clear HO)
  go_ret2
  exact ⟨by first | rfl | simp,hx.out.2.1,hx.out.1,hx.out.2.2⟩
theorem wstep_no (h:MemAt 95 w b g ws o n) (hr:WtAt w q t) (h1:q≠b) (h2:q≠g) (hd:t.d<3) (hok:¬ errC ws o t.p t.c (wordW t.d)=0):Calls Tryz.prog 200 #[.pointer (some ⟨q,0,none⟩),.pointer (some ⟨b,0,none⟩)] w fun e w'=>e=.returned (.tuple #[.bool false,.int .i64 (errC ws o t.p t.c (wordW t.d))])∧MemAt 95 w' b g ws o n∧WtAt w' q t∧Ch [b,g,q] w w':=by
 have H1:=Lib.hid (wover_any hr)
 rw [decide_eq_false (show ¬ t.d=3 by omega)] at H1
 have HS:=Lib.hid (fun (u:World) (k:Below w.heap.size w u)=>cstore_no (h.on k) (p:=t.p) (c:=t.c) (j:=wordW t.d) (bitsW t) (wordW_in _) hok)
 have HD:=Lib.hid hd
 have hb:=h.ltB
 have hg:=h.ltG
 have hq:=hr.lt
 have c0:w.cell? ⟨q,0,none⟩=some (.int .i64 t.p):=hr.cell 0 _ rfl
 have c1:w.cell? ⟨q,1,none⟩=some (.int .i64 t.c):=hr.cell 1 _ rfl
 have c2:w.cell? ⟨q,2,none⟩=some (.int .i64 2):=hr.cell 2 _ rfl
 have c3:w.cell? ⟨q,3,none⟩=some (.int .u64 t.a):=hr.cell 3 _ rfl
 have c4:w.cell? ⟨q,4,none⟩=some (.int .i64 0):=hr.cell 4 _ rfl
 have c5:w.cell? ⟨q,5,none⟩=some (.int .u64 t.v):=hr.cell 5 _ rfl
 have c6:w.cell? ⟨q,6,none⟩=some (.int .i64 1):=hr.cell 6 _ rfl
 have c7:w.cell? ⟨q,7,none⟩=some (.int .u64 t.z):=hr.cell 7 _ rfl
 have c8:w.cell? ⟨q,8,none⟩=some (.int .i64 t.d):=hr.cell 8 _ rfl
 have HA:Hid (∀ (u w1:World),Below w.heap.size w u→w.heap.size<u.heap.size→Chg b g u w1→MemAt 95 w1 b g ws o n→(w1.cell? ⟨q,0,none⟩=some (.int .i64 t.p)∧w1.cell? ⟨q,1,none⟩=some (.int .i64 t.c)∧w1.cell? ⟨w.heap.size,0,none⟩=u.cell? ⟨w.heap.size,0,none⟩∧w1.cell? ⟨w.heap.size,1,none⟩=u.cell? ⟨w.heap.size,1,none⟩)∧Hid (MemAt 95 w1 b g ws o n∧WtAt w1 q t∧Ch [b,g,q] w w1)):=fun u w1 k hs hc hm=>by
  have k1:WtAt w1 q t:=hr.keep ((hc.block q (Nat.lt_of_lt_of_le hq k.size) h1 h2).trans (k.block q hq))
  exact ⟨⟨k1.cell 0 _ rfl,k1.cell 1 _ rfl,chg_cell hc hs (by omega) (by omega) 0,chg_cell hc hs (by omega) (by omega) 1⟩,hm,hr.keep ((hc.block q (Nat.lt_of_lt_of_le hq k.size) h1 h2).trans (k.block q hq)),((ch_of k _).trans (hc.ch (by simp) (by simp)))⟩
 clear h hr hd
 generalize errC ws o t.p t.c (wordW t.d)=x at HS hok ⊢
 obtain ⟨p,c,a,v,z,d⟩:=t
 simp only [wordW,bitsW] at *
 have hd:d=0∨d=1∨d=2:=by have:d<3:=HD.out;omega
 rcases hd with rfl | rfl | rfl
 ·simp at HS HA c8
  go_enter Tryz.func200,Tryz.ntmps200
  go_wp2_with (go_at_call 221;refine H1.out.mono ?_;rintro e w1 ⟨rfl,hw⟩;subst w1;clear H1)
  go_region_held (fun u=>u.cell? ⟨q,0,none⟩=some (.int .i64 p)∧u.cell? ⟨q,1,none⟩=some (.int .i64 c)∧u.cell? ⟨q,2,none⟩=some (.int .i64 2)∧u.cell? ⟨q,3,none⟩=some (.int .u64 a)∧u.cell? ⟨q,4,none⟩=some (.int .i64 0)∧u.cell? ⟨q,5,none⟩=some (.int .u64 v)∧u.cell? ⟨q,6,none⟩=some (.int .i64 1)∧u.cell? ⟨q,7,none⟩=some (.int .u64 z)∧u.cell? ⟨q,8,none⟩=some (.int .i64 0)) (go_keep) (fail)
  go_wp2
  go_region_held (fun u=>u.cell? ⟨q,0,none⟩=some (.int .i64 p)∧u.cell? ⟨q,1,none⟩=some (.int .i64 c)∧u.cell? ⟨w.heap.size,0,none⟩=some (.int .i64 2)∧u.cell? ⟨w.heap.size,1,none⟩=some (.int .u64 a)) (go_keep) (first | (go_at_call 222;refine (HS.out _ (by repeat (first | exact Below.refl _ _ | refine bl_drew ?_ | refine bl_drewN _ ?_ | refine bl_alloc ?_ _ | refine bl_setCell ?_ (by simp) _ _ | refine bl_setRow ?_ (by simp) _))).mono ?_;rintro e w2 ⟨rfl,hm,hc⟩;obtain ⟨⟨d0,d1,d2,d3⟩,hx⟩:=HA.out _ _ (by repeat (first | exact Below.refl _ _ | refine bl_drew ?_ | refine bl_drewN _ ?_ | refine bl_alloc ?_ _ | refine bl_setCell ?_ (by simp) _ _ | refine bl_setRow ?_ (by simp) _)) (by simp) hc hm;clear hm hc))
  go_wp2
  go_ret2
  exact ⟨rfl,hx.out⟩
 ·simp at HS HA c8
  go_enter Tryz.func200,Tryz.ntmps200
  go_wp2_with (go_at_call 221;refine H1.out.mono ?_;rintro e w1 ⟨rfl,hw⟩;subst w1;clear H1)
  go_region_held (fun u=>u.cell? ⟨q,0,none⟩=some (.int .i64 p)∧u.cell? ⟨q,1,none⟩=some (.int .i64 c)∧u.cell? ⟨q,2,none⟩=some (.int .i64 2)∧u.cell? ⟨q,3,none⟩=some (.int .u64 a)∧u.cell? ⟨q,4,none⟩=some (.int .i64 0)∧u.cell? ⟨q,5,none⟩=some (.int .u64 v)∧u.cell? ⟨q,6,none⟩=some (.int .i64 1)∧u.cell? ⟨q,7,none⟩=some (.int .u64 z)∧u.cell? ⟨q,8,none⟩=some (.int .i64 1)) (go_keep) (fail)
  go_wp2
  go_region_held (fun u=>u.cell? ⟨q,0,none⟩=some (.int .i64 p)∧u.cell? ⟨q,1,none⟩=some (.int .i64 c)∧u.cell? ⟨w.heap.size,0,none⟩=some (.int .i64 0)∧u.cell? ⟨w.heap.size,1,none⟩=some (.int .u64 v)) (go_keep) (first | (go_at_call 222;refine (HS.out _ (by repeat (first | exact Below.refl _ _ | refine bl_drew ?_ | refine bl_drewN _ ?_ | refine bl_alloc ?_ _ | refine bl_setCell ?_ (by simp) _ _ | refine bl_setRow ?_ (by simp) _))).mono ?_;rintro e w2 ⟨rfl,hm,hc⟩;obtain ⟨⟨d0,d1,d2,d3⟩,hx⟩:=HA.out _ _ (by repeat (first | exact Below.refl _ _ | refine bl_drew ?_ | refine bl_drewN _ ?_ | refine bl_alloc ?_ _ | refine bl_setCell ?_ (by simp) _ _ | refine bl_setRow ?_ (by simp) _)) (by simp) hc hm;clear hm hc))
  go_wp2
  go_ret2
  exact ⟨rfl,hx.out⟩
 ·simp at HS HA c8
  go_enter Tryz.func200,Tryz.ntmps200
  go_wp2_with (go_at_call 221;refine H1.out.mono ?_;rintro e w1 ⟨rfl,hw⟩;subst w1;clear H1)
  go_region_held (fun u=>u.cell? ⟨q,0,none⟩=some (.int .i64 p)∧u.cell? ⟨q,1,none⟩=some (.int .i64 c)∧u.cell? ⟨q,2,none⟩=some (.int .i64 2)∧u.cell? ⟨q,3,none⟩=some (.int .u64 a)∧u.cell? ⟨q,4,none⟩=some (.int .i64 0)∧u.cell? ⟨q,5,none⟩=some (.int .u64 v)∧u.cell? ⟨q,6,none⟩=some (.int .i64 1)∧u.cell? ⟨q,7,none⟩=some (.int .u64 z)∧u.cell? ⟨q,8,none⟩=some (.int .i64 2)) (go_keep) (fail)
  go_wp2
  go_region_held (fun u=>u.cell? ⟨q,0,none⟩=some (.int .i64 p)∧u.cell? ⟨q,1,none⟩=some (.int .i64 c)∧u.cell? ⟨w.heap.size,0,none⟩=some (.int .i64 1)∧u.cell? ⟨w.heap.size,1,none⟩=some (.int .u64 z)) (go_keep) (first | (go_at_call 222;refine (HS.out _ (by repeat (first | exact Below.refl _ _ | refine bl_drew ?_ | refine bl_drewN _ ?_ | refine bl_alloc ?_ _ | refine bl_setCell ?_ (by simp) _ _ | refine bl_setRow ?_ (by simp) _))).mono ?_;rintro e w2 ⟨rfl,hm,hc⟩;obtain ⟨⟨d0,d1,d2,d3⟩,hx⟩:=HA.out _ _ (by repeat (first | exact Below.refl _ _ | refine bl_drew ?_ | refine bl_drewN _ ?_ | refine bl_alloc ?_ _ | refine bl_setCell ?_ (by simp) _ _ | refine bl_setRow ?_ (by simp) _)) (by simp) hc hm;clear hm hc))
  go_wp2
  go_ret2
  exact ⟨rfl,hx.out⟩
theorem wstep_any (h:MemAt 95 w b g ws o n) (hr:WtAt w q t) (h1:q≠b) (h2:q≠g):Calls Tryz.prog 200 #[.pointer (some ⟨q,0,none⟩),.pointer (some ⟨b,0,none⟩)] w fun e w'=>e=.returned (.tuple #[.bool (endW t ws o),.int .i64 (errW t ws o)])∧MemAt 95 w' b g (laidW t ws o) (aftO (errW t ws o) o) (aftN (errW t ws o) n)∧WtAt w' q (stepW t ws o)∧Ch [b,g,q] w w':=by
 by_cases hd:t.d<3
 ·have eE:errW t ws o=errC ws o t.p t.c (wordW t.d):=by simp [errW,hd]
  by_cases hok:errC ws o t.p t.c (wordW t.d)=0
  ·have e1:errW t ws o=0:=by rw [eE];exact hok
   have e2:endW t ws o=decide (t.d=2):=by simp [endW,e1]
   rw [e2,laidW,stepW,if_pos e1,if_pos e1,e1]
   exact wstep_ok h hr h1 h2 hd hok
  ·have e1:¬ errW t ws o=0:=by rw [eE];exact hok
   have e2:endW t ws o=false:=by simp [endW,e1]
   rw [e2,laidW,stepW,aftO,aftN,if_neg e1,if_neg e1,if_neg e1,if_neg e1,eE]
   exact wstep_no h hr h1 h2 hd hok
 ·have e1:errW t ws o=3:=by simp [errW,hd]
  have e3:¬ errW t ws o=0:=by rw [e1];decide
  have e2:endW t ws o=false:=by simp [endW,e1]
  rw [e2,laidW,stepW,aftO,aftN,if_neg e3,if_neg e3,if_neg e3,if_neg e3,e1]
  refine (wstep_over hr hd).mono fun e w' ⟨he,hw⟩=>?_
  subst hw
  exact ⟨he,h,hr,Ch.refl _ _⟩
end
def newW (p c v:Int) (x y:Nat):Wt:=⟨p,c,fixB x,v,fixB y,0⟩
theorem write_any (w:World) (a1 a2 a3 a4 p a6 c v:Int) (x y:Nat):Calls Tryz.prog 185 #[planV a1 a2 a3 a4 p a6,.int .i64 c,.int .u64 v,.float .f64 x,.float .f64 y] w fun e w'=>∃ q,e=.returned (.pointer (some ⟨q,0,none⟩))∧w.heap.size≤q∧WtAt w' q (newW p c v x y)∧Below w.heap.size w w':=by
 unfold planV
 go_enter Tryz.func185,Tryz.ntmps185
 go_wp2
 go_region_held (fun u=>u.cell? ⟨w.heap.size,4,none⟩=some (.int .i64 p)) (go_keep) (first | (go_at_call 123;refine (bits_any _ _).mono ?_;rintro e w1 ⟨rfl,hw⟩;subst w1))
 go_wp2
 go_ret
 refine ⟨_,rfl,by omega,⟨alloc_at (by simp),Nat.zero_le _⟩,(by repeat (first | exact Below.refl _ _ | refine bl_drew ?_ | refine bl_drewN _ ?_ | refine bl_alloc ?_ _ | refine bl_setCell ?_ (by simp) _ _ | refine bl_setRow ?_ (by simp) _))⟩
theorem wbox_one (t:Wt):(wboxV t).all (·.oneCell')=true:=by simp [wboxV,Value.oneCell']
theorem writingInfo:(Tryz.prog.info? 133).map (·.size)=some 9:=by kernel_rfl
theorem wclone_any {w:World} {q:Nat} {t:Wt} (h:WtAt w q t):Calls Tryz.prog 34 #[.pointer (some ⟨q,0,none⟩)] w fun e w'=>∃ c,e=.returned (.pointer (some ⟨c,0,none⟩))∧w.heap.size≤c∧WtAt w' c t∧Below w.heap.size w w':=by
 have hb:=h.lt
 have hbox:=h.1
 have HD:=Lib.hid h.2
 have HB:Hid (∀ o,Below w.heap.size w (w.alloc o)):=fun o=>(Below.refl w.heap.size w).alloc (Nat.le_refl _) o
 clear h
 go_enter Tryz.func34,Tryz.ntmps34
 go_wp2_with (first
  | (refine wpList_load_row rfl 133 _ rfl q rfl _ (wboxV t) _ _ hbox Tryz.underlying133 rfl writingInfo ?_)
  | (refine wpList_store_row rfl 133 _ _ rfl w.heap.size (wboxV t) rfl rfl _ _ (heap_alloc_new _ _) writingInfo rfl (wbox_one t) ?_;rw [World.setRow_alloc_new]))
 go_ret
 exact ⟨_,rfl,Nat.le_refl _,⟨heap_alloc_new _ _,HD.out⟩,HB.out _⟩
end Go.Proofs.YteinilmecnlanabGreatDoor.Md.Ce
namespace Go.Proofs.YteinilmecnlanabGreatDoor.Md.Ce
open Go.ChangeShapes Go.WideShapes Go.ChangeAt Go.RowKit Num
attribute [local go_sem] run_store_float run_store_func run_store_nilFunc
def tripV (v x y:Int):Value:=.agg #[.int .u64 v,.int .u64 x,.int .u64 y]
section
variable {w:World} {b g:Nat} {ws:List Int} {o:Bool} {n:Int}
def nowV (ws:List Int) (o:Bool) (p c:Int):Nat:=if errC ws o p c 1=0 then fixB (wordC ws p c 1).toNat else 0
theorem cnow_any (h:MemAt 95 w b g ws o n) (a1 a2 a3 a4 p a6 c:Int):Calls Tryz.prog 140 #[.pointer (some ⟨b,0,none⟩),planV a1 a2 a3 a4 p a6,.int .i64 c] w fun e w'=>e=.returned (.tuple #[.float .f64 (nowV ws o p c),.int .i64 (errC ws o p c 1)])∧MemAt 95 w' b g ws (aftO (errC ws o p c 1) o) (aftN (errC ws o p c 1) n)∧Chg b g w w':=by
 unfold planV
 by_cases hok:errC ws o p c 1=0
 ·have HL:=Lib.hid (fun (u:World) (k:Below w.heap.size w u)=>cload_ok (h.on k) (p:=p) (c:=c) (j:=1) (by omega) hok)
  rw [nowV,if_pos hok,hok]
  generalize wordC ws p c 1=x at HL ⊢
  clear h hok
  go_enter Tryz.func140,Tryz.ntmps140
  go_wp2_with (first
   | (go_at_call 154;refine (HL.out _ (by repeat (first | exact Below.refl _ _ | refine bl_drew ?_ | refine bl_drewN _ ?_ | refine bl_alloc ?_ _ | refine bl_setCell ?_ (by simp) _ _ | refine bl_setRow ?_ (by simp) _))).mono ?_;rintro e w1 ⟨rfl,hm,hc⟩;have HX:=Lib.hid (And.intro hm (chg_from (a:=w) (by repeat (first | exact Below.refl _ _ | refine bl_drew ?_ | refine bl_drewN _ ?_ | refine bl_alloc ?_ _ | refine bl_setCell ?_ (by simp) _ _ | refine bl_setRow ?_ (by simp) _)) hc));clear hm hc)
   | (go_at_call 85;refine (of_int _ _).mono ?_;rintro e w2 ⟨rfl,hw⟩;subst w2))
  go_ret2
  exact ⟨rfl,HX.out⟩
 ·have HL:=Lib.hid (fun (u:World) (k:Below w.heap.size w u)=>cload_no (h.on k) (p:=p) (c:=c) (j:=1) (by omega) hok)
  rw [nowV,aftO,aftN,if_neg hok,if_neg hok,if_neg hok]
  generalize errC ws o p c 1=x at HL hok ⊢
  clear h
  go_enter Tryz.func140,Tryz.ntmps140
  go_wp2_with (go_at_call 154;refine (HL.out _ (by repeat (first | exact Below.refl _ _ | refine bl_drew ?_ | refine bl_drewN _ ?_ | refine bl_alloc ?_ _ | refine bl_setCell ?_ (by simp) _ _ | refine bl_setRow ?_ (by simp) _))).mono ?_;rintro e w1 ⟨rfl,hm,hc⟩;have HX:=Lib.hid (And.intro hm (chg_from (a:=w) (by repeat (first | exact Below.refl _ _ | refine bl_drew ?_ | refine bl_drewN _ ?_ | refine bl_alloc ?_ _ | refine bl_setCell ?_ (by simp) _ _ | refine bl_setRow ?_ (by simp) _)) hc));clear hm hc)
  go_ret2
  exact ⟨rfl,HX.out⟩
end
def atV (v x y s:Int):Nat:=if s<v then fixB y.toNat else fixB x.toNat
theorem cat_any (v x y s:Int) (w:World):Calls Tryz.prog 68 #[tripV v x y,.int .u64 s] w fun e w'=>e=.returned (.float .f64 (atV v x y s))∧Below w.heap.size w w':=by
 unfold tripV atV
 by_cases h:s<v
 ·rw [if_pos h]
  go_enter Tryz.func68,Tryz.ntmps68
  go_wp2_with (go_at_call 85;refine (of_int _ _).mono ?_;rintro e w2 ⟨rfl,hw⟩;subst w2)
  go_ret
  exact ⟨rfl,(by repeat (first | exact Below.refl _ _ | refine bl_drew ?_ | refine bl_drewN _ ?_ | refine bl_alloc ?_ _ | refine bl_setCell ?_ (by simp) _ _ | refine bl_setRow ?_ (by simp) _))⟩
 ·rw [if_neg h]
  go_enter Tryz.func68,Tryz.ntmps68
  go_wp2_with (go_at_call 85;refine (of_int _ _).mono ?_;rintro e w2 ⟨rfl,hw⟩;subst w2)
  go_ret
  exact ⟨rfl,(by repeat (first | exact Below.refl _ _ | refine bl_drew ?_ | refine bl_drewN _ ?_ | refine bl_alloc ?_ _ | refine bl_setCell ?_ (by simp) _ _ | refine bl_setRow ?_ (by simp) _))⟩
end Go.Proofs.YteinilmecnlanabGreatDoor.Md.Ce
namespace Go.Proofs.YteinilmecnlanabGreatDoor.Md.Cv
open Go.ChangeShapes Go.WideShapes Go.ChangeAt Go.RowKit
theorem follows13:Tryz.prog.follows .mixedOrders=true:=by kernel_rfl
def plnV (a b c d e f:Int):Value:=.agg #[.int .i64 a,.int .i64 b,.int .i64 c,.int .i64 d,.int .i64 e,.int .i64 f]
def passV (t:Int):Int:=IntKind.u64.wrap (t+1)
theorem cell_kept {w w':World} {b:Nat} (e:w'.heap[b]?=w.heap[b]?) (o:Nat):w'.cell? ⟨b,o,none⟩=w.cell? ⟨b,o,none⟩:=by simp [World.cell?,e]
theorem tb_drew {B:Nat} {a w:World} (h:Below B a w):Below B a w.drew:=⟨h.os,h.tape,h.output,h.size,h.block⟩
theorem tb_alloc {a w:World} (h:Below a.heap.size a w) (x:Obj):Below a.heap.size a (w.alloc x):=h.alloc h.size x
theorem alloc_at {w:World} {x:Obj} {k:Nat} (hk:w.heap.size=k):(w.alloc x).heap[k]?=some x:=by subst hk;exact heap_alloc_new _ _
theorem ne_ty {w:World} {a b:Nat} {c d:Array Value} {S T:TypeId} {x y:Nat × Nat} (h:w.heap[a]?=some (.cells c S x)) (k:w.heap[b]?=some (.cells d T y)) (hne:(S == T)=false):a≠b:=by
 rintro rfl
 rw [h] at k
 cases k
 simp at hne
structure Ch3 (b g l:Nat) (w w':World):Prop where
 os:w'.os=w.os
 tape:w'.tape=w.tape
 output:w'.output=w.output
 size:w.heap.size≤w'.heap.size
 block:∀ k,k<w.heap.size→k≠b→k≠g→k≠l→w'.heap[k]?=w.heap[k]?
section
variable {b g l:Nat} {a w c:World}
theorem Ch3.refl (b g l:Nat) (w:World):Ch3 b g l w w:=⟨rfl,rfl,rfl,Nat.le_refl _,fun _ _ _ _ _=>rfl⟩
theorem Ch3.trans (h:Ch3 b g l a w) (k:Ch3 b g l w c):Ch3 b g l a c :=
 ⟨k.os.trans h.os,k.tape.trans h.tape,k.output.trans h.output,Nat.le_trans h.size k.size,fun i hi h1 h2 h3=>(k.block i (Nat.lt_of_lt_of_le hi h.size) h1 h2 h3).trans (h.block i hi h1 h2 h3)⟩
theorem Ch3.chg (h:Ch3 b g l a w) (k:Chg b g w c):Ch3 b g l a c:=h.trans ⟨k.os,k.tape,k.output,k.size,fun i hi h1 h2 _=>k.block i hi h1 h2⟩
theorem Ch3.on (h:Ch3 b g l a w) (k:Below w.heap.size w c):Ch3 b g l a c:=h.trans ⟨k.os,k.tape,k.output,k.size,fun i hi _ _ _=>k.block i hi⟩
theorem Ch3.set (h:Ch3 b g l a w) (j:Nat) (u:Value):Ch3 b g l a (w.setCell ⟨l,j,none⟩ u):=h.trans ⟨rfl,rfl,rfl,by simp,fun k _ _ _ h3=>heap_setCell_other _ _ _ _ h3⟩
end
theorem chg_from {a w w':World} {b g:Nat} (h:Below a.heap.size a w) (k:Chg b g w w'):Chg b g a w':=(Chg.trans ⟨h.os,h.tape,h.output,h.size,fun i hi _ _=>h.block i hi⟩ k)
def may8 (t:Int):Bool:=decide (0≤t∧t<8)
def plc (p t:Int):Int:=if 0≤p∧p≤4096 then p+t else -1
theorem may8_pos {t:Int} (h:may8 t=true):0≤t∧t<8:=of_decide_eq_true h
theorem splace_any (p t:Int) (ht:may8 t=true) (w:World):Calls Tryz.prog 197 #[.agg #[.int .i64 p,.int .i64 t]] w fun e w'=>e=.returned (.int .i64 (plc p t))∧Below w.heap.size w w':=by
 obtain ⟨ht0,ht1⟩:=may8_pos ht
 clear ht
 by_cases h1:0≤p
 ·by_cases h2:p≤4096
  ·have e:plc p t=p+t:=by simp [plc,h1,h2]
   have e1:wrap64 (p+t)=p+t:=Go.IntWalk.wrap64_in _ ⟨by omega,by omega⟩
   have h1':¬ p<0:=by omega
   have h2':¬ 4096<p:=by omega
   rw [e]
   clear e ht0 ht1
   go_enter Tryz.func197,Tryz.ntmps197
   go_wp2
   go_ret
   exact ⟨rfl,(Below.refl _ _).alloc (Nat.le_refl _) _⟩
  ·have e:plc p t=-1:=by simp [plc,h2]
   rw [e]
   clear e ht0 ht1
   have h1':¬ p<0:=by omega
   have h2':4096<p:=by omega
   go_enter Tryz.func197,Tryz.ntmps197
   go_wp2
   go_ret
   exact ⟨rfl,(Below.refl _ _).alloc (Nat.le_refl _) _⟩
 ·have e:plc p t=-1:=by simp [plc,h1]
  rw [e]
  clear e ht0 ht1
  have h1':p<0:=by omega
  go_enter Tryz.func197,Tryz.ntmps197
  go_wp2
  go_ret
  exact ⟨rfl,(Below.refl _ _).alloc (Nat.le_refl _) _⟩
end Go.Proofs.YteinilmecnlanabGreatDoor.Md.Cv
namespace Go.Proofs.YteinilmecnlanabGreatDoor.Md.Cv
open Go.ChangeShapes Go.WideShapes Go.ChangeAt Go.RowKit
theorem ok_facts {ws:List Int} {o:Bool} {i:Int} (h:errA ws o i=0):(∀ v,stored ws o i v=ws.set i.toNat v)∧spentO ws o i=false∧(∀ n,spentC ws o i n=up n)∧toldW ws o i=wordAt ws i∧hasB ws i=true∧o=true:=by
 have hk:hasB ws i=true∧o=true:=by
  unfold errA at h
  cases q:hasB ws i <;> cases o <;> simp [q] at h ⊢
 obtain ⟨h1,rfl⟩:=hk
 exact ⟨fun v=>by simp [stored,h1],by simp [spentO,h1],fun n=>by simp [spentC,h1],by simp [toldW,h1],h1,rfl⟩
theorem no_facts {ws:List Int} {o:Bool} {i:Int} (h:¬ errA ws o i=0):(∀ v,stored ws o i v=ws)∧spentO ws o i=o∧(∀ n,spentC ws o i n=n)∧toldW ws o i=0:=by
 have hk:(hasB ws i && o)=false:=by
  unfold errA at h
  cases q:hasB ws i <;> cases o <;> simp [q] at h ⊢
 refine ⟨fun v=>by simp [stored,hk],?_,fun n=>by simp [spentC,hk],by simp [toldW,hk]⟩
 unfold spentO
 cases q:hasB ws i <;> cases o <;> simp_all
end Go.Proofs.YteinilmecnlanabGreatDoor.Md.Cv
namespace Go.Proofs.YteinilmecnlanabGreatDoor.Md.Cv
open Go.ChangeShapes Go.WideShapes Go.ChangeAt Go.RowKit
end Go.Proofs.YteinilmecnlanabGreatDoor.Md.Cv
namespace Go.Proofs.YteinilmecnlanabGreatDoor.Md.Cv
open Go.ChangeShapes Go.WideShapes Go.ChangeAt Go.RowKit
structure Ss where
 B:Int
 H:Int
 D:Int
 P:Int
 Q:Int
def ScAt (w:World) (x:Nat) (s:Ss):Prop:=w.heap[x]?=some (.cells #[.int .i64 s.B,.int .i64 s.H,.int .u64 s.D,.int .i64 s.P,.int .i64 s.Q] 126 (0,0))
def mayH (h:Int):Bool:=decide (1≤h∧h≤8)
def letB (d v:Int):Bool:=decide (v=0) || decide (d<v)
structure SOk (s:Ss):Prop where
 p:0≤s.P
 h:mayH s.H=true→s.P≤s.H
def sE (s:Ss) (ws:List Int) (o:Bool):Int:=if mayH s.H then (if s.P=s.H then 3 else errA ws o (plc s.B s.P)) else 100
def sN (s:Ss) (v:Int):Ss:=if letB s.D v then ⟨s.B,s.H,s.D,s.P+1,s.Q⟩ else ⟨s.B,s.H,s.D,s.P,up s.Q⟩
def sC (s:Ss) (ws:List Int) (o:Bool):Ss:=if sE s ws o=0 then sN s (wordAt ws (plc s.B s.P)) else s
def sO (s:Ss) (ws:List Int) (o:Bool):Bool:=decide (sE s ws o=0) && decide ((sC s ws o).P=s.H)
def sP (s:Ss) (ws:List Int) (o:Bool):Bool:=if sE s ws o=0 then false else o
def sQ (s:Ss) (ws:List Int) (o:Bool) (n:Int):Int:=if sE s ws o=0 then up n else n
theorem sN_parts (s:Ss) (v:Int):(sN s v).B=s.B∧(sN s v).H=s.H∧(sN s v).D=s.D:=by
 unfold sN
 split <;> exact ⟨rfl,rfl,rfl⟩
section
variable {w w':World} {x:Nat} {s:Ss}
theorem ScAt.lt (h:ScAt w x s):x<w.heap.size:=lt_of_block h
theorem ScAt.keep (h:ScAt w x s) (e:w'.heap[x]?=w.heap[x]?):ScAt w' x s:=e.trans h
theorem ScAt.on (h:ScAt w x s) (k:Below w.heap.size w w'):ScAt w' x s:=h.keep (k.block x h.lt)
theorem ScAt.cells (h:ScAt w x s):w.cell? ⟨x,0,none⟩=some (.int .i64 s.B)∧w.cell? ⟨x,1,none⟩=some (.int .i64 s.H)∧w.cell? ⟨x,2,none⟩=some (.int .u64 s.D)∧w.cell? ⟨x,3,none⟩=some (.int .i64 s.P)∧w.cell? ⟨x,4,none⟩=some (.int .i64 s.Q)∧x<w.heap.size∧w.frozen? ⟨x,3,none⟩=false∧w.frozen? ⟨x,4,none⟩=false :=
 ⟨by rw [cell_of_row w x 0 _ _ _ h];rfl,by rw [cell_of_row w x 1 _ _ _ h];rfl,by rw [cell_of_row w x 2 _ _ _ h];rfl,by rw [cell_of_row w x 3 _ _ _ h];rfl,by rw [cell_of_row w x 4 _ _ _ h];rfl,lt_of_block h,frozen_of_row w x 3 _ _ h,frozen_of_row w x 4 _ _ h⟩
theorem ScAt.setP (h:ScAt w x s) (v:Int):ScAt (w.setCell ⟨x,3,none⟩ (.int .i64 v)) x ⟨s.B,s.H,s.D,v,s.Q⟩:=(heap_setCell_same w x 3 _ _ _ h).trans rfl
theorem ScAt.setQ (h:ScAt w x s) (v:Int):ScAt (w.setCell ⟨x,4,none⟩ (.int .i64 v)) x ⟨s.B,s.H,s.D,s.P,v⟩:=(heap_setCell_same w x 4 _ _ _ h).trans rfl
theorem mayS_any (h:ScAt w x s):Calls Tryz.prog 182 #[.pointer (some ⟨x,0,none⟩)] w fun e w'=>e=.returned (.bool (mayH s.H))∧w'=w:=by
 obtain ⟨h0,h1,h2,h3,h4,h5,_⟩:=h.cells
 clear h
 unfold mayH
 by_cases q1:1≤s.H
 ·by_cases q2:s.H≤8
  ·go_enter Tryz.func182,Tryz.ntmps182
   go_wp2
   go_ret
   exact ⟨by first | (simp;done) | (simp;omega),rfl⟩
  ·go_enter Tryz.func182,Tryz.ntmps182
   go_wp2
   go_ret
   exact ⟨by first | (simp;done) | (simp;omega),rfl⟩
 ·go_enter Tryz.func182,Tryz.ntmps182
  go_wp2
  go_ret
  exact ⟨by first | (simp;done) | (simp;omega),rfl⟩
theorem overS_any (h:ScAt w x s):Calls Tryz.prog 181 #[.pointer (some ⟨x,0,none⟩)] w fun e w'=>e=.returned (.bool (mayH s.H && decide (s.P=s.H)))∧Below w.heap.size w w':=by
 obtain ⟨h0,h1,h2,h3,h4,h5,_⟩:=h.cells
 have HY:=Lib.hid (mayS_any (h.on (tb_drew (Below.refl _ _))))
 clear h
 cases hm:mayH s.H
 ·rw [hm] at HY
  have q:=hm
  go_enter Tryz.func181,Tryz.ntmps181
  go_wp2
  refine wp_region_seq (fun w'=>w'.cell? ⟨x,1,none⟩=some (.int .i64 s.H)∧w'.cell? ⟨x,3,none⟩=some (.int .i64 s.P)) ((0,true)::(1,false)::(2,true)::(3,true)::(4,true)::(5,true)::(6,true)::(7,true)::(8,true)::(9,true)::(10,true)::(11,true)::(12,true)::(13,true)::[]) follows13 (by kernel_rfl) (fun _ _ _ _ _ h=>h) ⟨h1,h3⟩ ?_
  repeat (first | (refine wpSeq_take (v:=?_) rfl (by rfl) (fun wq hSq=>?_) ?_;rotate_left;(focus ((try dsimp only at hSq);go_simp;try with_reducible rfl));simp only [Act.put,List.setIfInBounds_toArray,List.set_cons_zero,List.set_cons_succ]) | (refine wpSeq_skip rfl (by rfl) ?_;simp only [Act.put,List.setIfInBounds_toArray,List.set_cons_zero,List.set_cons_succ]))
  refine wpSeq_do rfl (by rfl) (fun KK hK=>?_)
  go_simp
  refine HY.out.mono ?_
  rintro e w1 ⟨rfl,hw⟩
  subst w1
  refine hK.out _ _ ⟨h1,h3⟩ ?_
  clear hK KK
  try simp only [Act.put,List.setIfInBounds_toArray,List.set_cons_zero,List.set_cons_succ]
  repeat (first | (refine wpSeq_take (v:=?_) rfl (by rfl) (fun wq hSq=>?_) ?_;rotate_left;(focus ((try dsimp only at hSq);go_simp;try with_reducible rfl));simp only [Act.put,List.setIfInBounds_toArray,List.set_cons_zero,List.set_cons_succ]) | (refine wpSeq_skip rfl (by rfl) ?_;simp only [Act.put,List.setIfInBounds_toArray,List.set_cons_zero,List.set_cons_succ]))
  refine wpSeq_nil ?_
  go_wp2
  go_ret
  exact ⟨by first | rfl | simp [q],tb_drew (Below.refl _ _)⟩
 ·rw [hm] at HY
  by_cases q:s.P=s.H
  ·rw [decide_eq_true q]
   go_enter Tryz.func181,Tryz.ntmps181
   go_wp2
   refine wp_region_seq (fun w'=>w'.cell? ⟨x,1,none⟩=some (.int .i64 s.H)∧w'.cell? ⟨x,3,none⟩=some (.int .i64 s.P)) ((0,true)::(1,false)::(2,true)::(3,true)::(4,true)::(5,true)::(6,true)::(7,true)::(8,true)::(9,true)::(10,true)::(11,true)::(12,true)::(13,true)::[]) follows13 (by kernel_rfl) (fun _ _ _ _ _ h=>h) ⟨h1,h3⟩ ?_
   repeat (first | (refine wpSeq_take (v:=?_) rfl (by rfl) (fun wq hSq=>?_) ?_;rotate_left;(focus ((try dsimp only at hSq);go_simp;try with_reducible rfl));simp only [Act.put,List.setIfInBounds_toArray,List.set_cons_zero,List.set_cons_succ]) | (refine wpSeq_skip rfl (by rfl) ?_;simp only [Act.put,List.setIfInBounds_toArray,List.set_cons_zero,List.set_cons_succ]))
   refine wpSeq_do rfl (by rfl) (fun KK hK=>?_)
   go_simp
   refine HY.out.mono ?_
   rintro e w1 ⟨rfl,hw⟩
   subst w1
   refine hK.out _ _ ⟨h1,h3⟩ ?_
   clear hK KK
   try simp only [Act.put,List.setIfInBounds_toArray,List.set_cons_zero,List.set_cons_succ]
   repeat (first | (refine wpSeq_take (v:=?_) rfl (by rfl) (fun wq hSq=>?_) ?_;rotate_left;(focus ((try dsimp only at hSq);go_simp;try with_reducible rfl));simp only [Act.put,List.setIfInBounds_toArray,List.set_cons_zero,List.set_cons_succ]) | (refine wpSeq_skip rfl (by rfl) ?_;simp only [Act.put,List.setIfInBounds_toArray,List.set_cons_zero,List.set_cons_succ]))
   refine wpSeq_nil ?_
   go_wp2
   go_ret
   exact ⟨by first | rfl | simp [q],tb_drew (Below.refl _ _)⟩
  ·rw [decide_eq_false q]
   go_enter Tryz.func181,Tryz.ntmps181
   go_wp2
   refine wp_region_seq (fun w'=>w'.cell? ⟨x,1,none⟩=some (.int .i64 s.H)∧w'.cell? ⟨x,3,none⟩=some (.int .i64 s.P)) ((0,true)::(1,false)::(2,true)::(3,true)::(4,true)::(5,true)::(6,true)::(7,true)::(8,true)::(9,true)::(10,true)::(11,true)::(12,true)::(13,true)::[]) follows13 (by kernel_rfl) (fun _ _ _ _ _ h=>h) ⟨h1,h3⟩ ?_
   repeat (first | (refine wpSeq_take (v:=?_) rfl (by rfl) (fun wq hSq=>?_) ?_;rotate_left;(focus ((try dsimp only at hSq);go_simp;try with_reducible rfl));simp only [Act.put,List.setIfInBounds_toArray,List.set_cons_zero,List.set_cons_succ]) | (refine wpSeq_skip rfl (by rfl) ?_;simp only [Act.put,List.setIfInBounds_toArray,List.set_cons_zero,List.set_cons_succ]))
   refine wpSeq_do rfl (by rfl) (fun KK hK=>?_)
   go_simp
   refine HY.out.mono ?_
   rintro e w1 ⟨rfl,hw⟩
   subst w1
   refine hK.out _ _ ⟨h1,h3⟩ ?_
   clear hK KK
   try simp only [Act.put,List.setIfInBounds_toArray,List.set_cons_zero,List.set_cons_succ]
   repeat (first | (refine wpSeq_take (v:=?_) rfl (by rfl) (fun wq hSq=>?_) ?_;rotate_left;(focus ((try dsimp only at hSq);go_simp;try with_reducible rfl));simp only [Act.put,List.setIfInBounds_toArray,List.set_cons_zero,List.set_cons_succ]) | (refine wpSeq_skip rfl (by rfl) ?_;simp only [Act.put,List.setIfInBounds_toArray,List.set_cons_zero,List.set_cons_succ]))
   refine wpSeq_nil ?_
   go_wp2
   go_ret
   exact ⟨by first | rfl | simp [q],tb_drew (Below.refl _ _)⟩
theorem lets_any (h:ScAt w x s) (v:Int):Calls Tryz.prog 198 #[.pointer (some ⟨x,0,none⟩),.int .u64 v] w fun e w'=>e=.returned (.bool (letB s.D v))∧w'=w:=by
 obtain ⟨h0,h1,h2,h3,h4,h5,_⟩:=h.cells
 clear h
 unfold letB
 by_cases q1:v=0
 ·rw [decide_eq_true q1,Bool.true_or]
  go_enter Tryz.func198,Tryz.ntmps198
  go_wp2
  go_ret
  exact ⟨by simp,rfl⟩
 ·rw [decide_eq_false q1,Bool.false_or]
  by_cases q2:s.D<v
  ·rw [decide_eq_true q2]
   go_enter Tryz.func198,Tryz.ntmps198
   go_wp2
   go_ret
   exact ⟨by simp,rfl⟩
  ·rw [decide_eq_false q2]
   go_enter Tryz.func198,Tryz.ntmps198
   go_wp2
   go_ret
   exact ⟨by simp [q1],rfl⟩
theorem look_any (a0 a1 a2 a3 a4 a5 t d:Int) (w:World):Calls Tryz.prog 142 #[plnV a0 a1 a2 a3 a4 a5,.int .i64 t,.int .u64 d] w fun e w'=>∃ x,e=.returned (.pointer (some ⟨x,0,none⟩))∧w.heap.size≤x∧ScAt w' x ⟨a3,t,d,0,0⟩∧Below w.heap.size w w':=by
 unfold plnV
 go_enter Tryz.func142,Tryz.ntmps142
 go_wp2
 go_ret
 exact ⟨_,rfl,by simp,alloc_at (by simp),tb_alloc (tb_alloc (Below.refl _ _) _) _⟩
theorem sclone_any (h:ScAt w x s):Calls Tryz.prog 33 #[.pointer (some ⟨x,0,none⟩)] w fun e w'=>∃ y,e=.returned (.pointer (some ⟨y,0,none⟩))∧w.heap.size≤y∧ScAt w' y s∧Below w.heap.size w w':=by
 obtain ⟨h0,h1,h2,h3,h4,h5,_⟩:=h.cells
 clear h
 go_enter Tryz.func33,Tryz.ntmps33
 go_wp2
 go_ret
 exact ⟨_,rfl,by simp,heap_alloc_new _ _,tb_alloc (Below.refl _ _) _⟩
end
section
variable {w:World} {b g x:Nat} {ws:List Int} {o:Bool} {n:Int} {s:Ss}
theorem ScAt.ne (h:ScAt w x s) (m:MemAt 95 w b g ws o n):x≠b∧x≠g:=⟨ne_ty h m.box rfl,ne_ty h m.row rfl⟩
theorem sacc_any (h:MemAt 95 w b g ws o n) (hx:ScAt w x s) {k m:Nat} (hk:s.P=k) (hm:s.H=m) (hkm:k<m) (hm8:m≤8) {er:Int} (her:errA ws o (plc s.B s.P)=er):Calls Tryz.prog 183 #[.pointer (some ⟨x,0,none⟩),.pointer (some ⟨b,0,none⟩)] w fun e w'=>e=.returned (.int .i64 er)∧MemAt 95 w' b g ws (spentO ws o (plc s.B s.P)) (spentC ws o (plc s.B s.P) n)∧ScAt w' x (if er=0 then sN s (toldW ws o (plc s.B s.P)) else s)∧Ch3 b g x w w':=by
 have HN:=Lib.hid (hx.ne h)
 have HM:=Lib.hid h
 have HX:=Lib.hid hx
 have HPL:=Lib.hid (splace_any s.B k (decide_eq_true (by omega)))
 obtain ⟨h0,h1,h2,h3,h4,h5,h6,h7⟩:=hx.cells
 rw [hk] at h3
 rw [hm] at h1
 have HLD:=Lib.hid (fun w1 (hb:Below w.heap.size w w1)=>load_any (h.on hb) (plc s.B k))
 have HHK:=Lib.hid hk
 rw [hk] at her ⊢
 rw [her] at HLD
 have HER:=Lib.hid her
 clear h hx hk hm her
 go_enter Tryz.func183,Tryz.ntmps183
 go_wp2
 go_step3
 go_wp2
 go_step3
 go_wp2
 go_loopw [12] (fun vi wr=>∃ i:Nat,vi=.int .i64 i∧wr=w∧i≤k) (fun vi _=>k - (intOf vi).toNat)
 case atStart=>exact ⟨0,rfl,rfl,Nat.zero_le _⟩
 case round =>
  obtain ⟨i,rfl,rfl,hi⟩:=hrel
  have him:(i:Int)<(m:Int):=by omega
  by_cases hlt:i<k
  ·have hlt':(i:Int)<(k:Int):=by omega
   go_wp2
   exact ⟨⟨i+1,by first | rfl | (congr 1),by trivial,by omega⟩,by simp [intOf];omega⟩
  ·have e:i=k:=by omega
   subst e
   have hlt':¬ (i:Int)<(i:Int):=by omega
   clear hlt hi
   by_cases q:er=0
   ·subst q
    obtain ⟨v,hv⟩:∃ v,toldW ws o (plc s.B i)=v:=⟨_,rfl⟩
    rw [hv] at HLD
    have HV:=Lib.hid hv
    clear hv
    cases hl:letB s.D v
    ·go_wp2_with (first
      | (go_at_call 197;refine (HPL.out _).mono ?_;rintro e w1 ⟨rfl,hb⟩;have HB:=Lib.hid hb;clear hb)
      | (go_at_call 108;refine (HLD.out _ HB.out).mono ?_;rintro e w2 ⟨rfl,hm,hc⟩;have HM2:=Lib.hid hm;have HC2:=Lib.hid (chg_from HB.out hc);have HX2:=Lib.hid (HX.out.keep (HC2.out.block x h5 HN.out.1 HN.out.2));obtain ⟨k0,k1,k2,k3,k4,k5,k6,k7⟩:=HX2.out.cells;clear hm hc)
      | (go_at_call 198;refine (lets_any HX2.out v).mono ?_;rw [hl];rintro e w3 ⟨rfl,hw⟩;subst w3))
     try rw [Exit.noGoto_ret]
     go_ret
     rw [if_pos rfl,HV.out,sN,hl]
     exact ⟨rfl,HM2.out.other HN.out.1.symm HN.out.2.symm _ _,HX2.out.setQ _,((Ch3.refl _ _ _ _).chg HC2.out).set _ _⟩
    ·go_wp2_with (first
      | (go_at_call 197;refine (HPL.out _).mono ?_;rintro e w1 ⟨rfl,hb⟩;have HB:=Lib.hid hb;clear hb)
      | (go_at_call 108;refine (HLD.out _ HB.out).mono ?_;rintro e w2 ⟨rfl,hm,hc⟩;have HM2:=Lib.hid hm;have HC2:=Lib.hid (chg_from HB.out hc);have HX2:=Lib.hid (HX.out.keep (HC2.out.block x h5 HN.out.1 HN.out.2));obtain ⟨k0,k1,k2,k3,k4,k5,k6,k7⟩:=HX2.out.cells;clear hm hc)
      | (go_at_call 198;refine (lets_any HX2.out v).mono ?_;rw [hl];rintro e w3 ⟨rfl,hw⟩;subst w3))
     try rw [Exit.noGoto_ret]
     go_ret
     rw [if_pos rfl,HV.out,sN,hl,HHK.out]
     exact ⟨rfl,HM2.out.other HN.out.1.symm HN.out.2.symm _ _,HX2.out.setP _,((Ch3.refl _ _ _ _).chg HC2.out).set _ _⟩
   ·go_wp2_with (first
     | (go_at_call 197;refine (HPL.out _).mono ?_;rintro e w1 ⟨rfl,hb⟩;have HB:=Lib.hid hb;clear hb)
     | (go_at_call 108;refine (HLD.out _ HB.out).mono ?_;rintro e w2 ⟨rfl,hm,hc⟩;have HM2:=Lib.hid hm;have HC2:=Lib.hid (chg_from HB.out hc);have HX2:=Lib.hid (HX.out.keep (HC2.out.block x h5 HN.out.1 HN.out.2));clear hm hc))
    try rw [Exit.noGoto_ret]
    go_ret
    rw [if_neg q]
    exact ⟨rfl,HM2.out,HX2.out,(Ch3.refl _ _ _ _).chg HC2.out⟩
end
end Go.Proofs.YteinilmecnlanabGreatDoor.Md.Cv
namespace Go.Proofs.YteinilmecnlanabGreatDoor.Md.Cv
open Go.ChangeShapes Go.WideShapes Go.ChangeAt Go.RowKit
section
variable {w:World} {b g x:Nat} {ws:List Int} {o:Bool} {n:Int} {s:Ss}
theorem sstep_over (hx:ScAt w x s) (hm:mayH s.H=true) (hp:s.P=s.H) (b:Nat):Calls Tryz.prog 156 #[.pointer (some ⟨x,0,none⟩),.pointer (some ⟨b,0,none⟩)] w fun e w'=>e=.returned (.tuple #[.bool false,.int .i64 3])∧Below w.heap.size w w':=by
 have HO:=Lib.hid (overS_any hx)
 rw [hm,decide_eq_true hp] at HO
 clear hx hm hp
 go_enter Tryz.func156,Tryz.ntmps156
 go_wp2_with (go_at_call 181;refine HO.out.mono ?_;rintro e w1 ⟨rfl,hb⟩;have HB:=Lib.hid hb;clear hb)
 go_ret2
 exact ⟨rfl,HB.out⟩
theorem sstep_may (hx:ScAt w x s) (hm:mayH s.H=false) (b:Nat):Calls Tryz.prog 156 #[.pointer (some ⟨x,0,none⟩),.pointer (some ⟨b,0,none⟩)] w fun e w'=>e=.returned (.tuple #[.bool false,.int .i64 100])∧Below w.heap.size w w':=by
 have HO:=Lib.hid (overS_any hx)
 rw [hm,Bool.false_and] at HO
 have HY:=Lib.hid (fun w1 (hb:Below w.heap.size w w1)=>mayS_any (hx.on hb))
 rw [hm] at HY
 clear hx hm
 go_enter Tryz.func156,Tryz.ntmps156
 go_wp2_with (first
  | (go_at_call 181;refine HO.out.mono ?_;rintro e w1 ⟨rfl,hb⟩;have HB:=Lib.hid hb;clear hb)
  | (go_at_call 182;refine (HY.out _ HB.out).mono ?_;rintro e w2 ⟨rfl,hw⟩;subst w2))
 go_ret2
 exact ⟨rfl,HB.out⟩
theorem sstep_go (h:MemAt 95 w b g ws o n) (hx:ScAt w x s) (hok:SOk s) (hm:mayH s.H=true) (hp:s.P≠s.H) {er:Int} (her:errA ws o (plc s.B s.P)=er):Calls Tryz.prog 156 #[.pointer (some ⟨x,0,none⟩),.pointer (some ⟨b,0,none⟩)] w fun e w'=>e=.returned (.tuple #[.bool (decide (er=0) && decide ((sN s (toldW ws o (plc s.B s.P))).P=s.H)),.int .i64 er])∧MemAt 95 w' b g ws (spentO ws o (plc s.B s.P)) (spentC ws o (plc s.B s.P) n)∧ScAt w' x (if er=0 then sN s (toldW ws o (plc s.B s.P)) else s)∧Ch3 b g x w w':=by
 have HO:=Lib.hid (overS_any hx)
 rw [hm,decide_eq_false hp] at HO
 have HY:=Lib.hid (fun w1 (hb:Below w.heap.size w w1)=>mayS_any (hx.on hb))
 rw [hm] at HY
 have h1:=of_decide_eq_true hm
 have h2:=hok.p
 have h3:=hok.h hm
 have HA:=Lib.hid (fun w1 (hb:Below w.heap.size w w1)=>sacc_any (h.on hb) (hx.on hb) (k:=s.P.toNat) (m:=s.H.toNat) (by omega) (by omega) (by omega) (by omega) her)
 have HS:=Lib.hid (sN_parts s (toldW ws o (plc s.B s.P)))
 have HM0:=Lib.hid hm
 generalize sN s (toldW ws o (plc s.B s.P))=s2 at *
 clear h hx hm her h1 h2 h3 hok hp
 by_cases q:er=0
 ·subst q
  rw [if_pos rfl] at HA
  rw [if_pos rfl,decide_eq_true rfl,Bool.true_and]
  go_enter Tryz.func156,Tryz.ntmps156
  go_wp2_with (first
   | (go_at_call 181;refine HO.out.mono ?_;rintro e w1 ⟨rfl,hb⟩;have HB:=Lib.hid hb;clear hb HO)
   | (go_at_call 182;refine (HY.out _ HB.out).mono ?_;rintro e w2 ⟨rfl,hw⟩;subst w2)
   | (go_at_call 183;refine (HA.out _ HB.out).mono ?_;rintro e w2 ⟨rfl,hm,hx,hc⟩;have HM2:=Lib.hid hm;have HX2:=Lib.hid hx;have HC2:=Lib.hid ((Ch3.refl _ _ _ _).on HB.out |>.trans hc);clear hm hx hc)
   | (go_at_call 181;refine (overS_any HX2.out).mono ?_;rw [HS.out.2.1,HM0.out,Bool.true_and];rintro e w3 ⟨rfl,hb⟩;have HB3:=Lib.hid hb;clear hb))
  go_ret2
  exact ⟨rfl,HM2.out.on HB3.out,HX2.out.on HB3.out,HC2.out.on HB3.out⟩
 ·rw [if_neg q] at HA
  rw [if_neg q,decide_eq_false q,Bool.false_and]
  go_enter Tryz.func156,Tryz.ntmps156
  go_wp2_with (first
   | (go_at_call 181;refine HO.out.mono ?_;rintro e w1 ⟨rfl,hb⟩;have HB:=Lib.hid hb;clear hb HO)
   | (go_at_call 182;refine (HY.out _ HB.out).mono ?_;rintro e w2 ⟨rfl,hw⟩;subst w2)
   | (go_at_call 183;refine (HA.out _ HB.out).mono ?_;rintro e w2 ⟨rfl,hm,hx,hc⟩;have HM2:=Lib.hid hm;have HX2:=Lib.hid hx;have HC2:=Lib.hid ((Ch3.refl _ _ _ _).on HB.out |>.trans hc);clear hm hx hc))
  go_ret2
  exact ⟨rfl,HM2.out,HX2.out,HC2.out⟩
theorem sstep_any (h:MemAt 95 w b g ws o n) (hx:ScAt w x s) (hok:SOk s):Calls Tryz.prog 156 #[.pointer (some ⟨x,0,none⟩),.pointer (some ⟨b,0,none⟩)] w fun e w'=>e=.returned (.tuple #[.bool (sO s ws o),.int .i64 (sE s ws o)])∧MemAt 95 w' b g ws (sP s ws o) (sQ s ws o n)∧ScAt w' x (sC s ws o)∧Ch3 b g x w w':=by
 cases hm:mayH s.H
 ·have e:sE s ws o=100:=by simp [sE,hm]
  unfold sO sP sQ sC
  rw [e]
  refine (sstep_may hx hm b).mono ?_
  rintro r w' ⟨rfl,hb⟩
  exact ⟨by simp,by simpa using h.on hb,by simpa using hx.on hb,(Ch3.refl _ _ _ _).on hb⟩
 ·by_cases h3:s.P=s.H
  ·have e:sE s ws o=3:=by simp [sE,hm,h3]
   unfold sO sP sQ sC
   rw [e]
   refine (sstep_over hx hm h3 b).mono ?_
   rintro r w' ⟨rfl,hb⟩
   exact ⟨by simp,by simpa using h.on hb,by simpa using hx.on hb,(Ch3.refl _ _ _ _).on hb⟩
  ·have e:sE s ws o=errA ws o (plc s.B s.P):=by simp [sE,h3,hm]
   unfold sO sP sQ sC
   rw [e]
   refine (sstep_go h hx hok hm h3 rfl).mono ?_
   rintro r w' ⟨rfl,hm',hx',hch⟩
   by_cases q:errA ws o (plc s.B s.P)=0
   ·have f:=ok_facts q
    rw [f.2.1,f.2.2.1] at hm'
    rw [if_pos q,f.2.2.2.1] at hx'
    rw [f.2.2.2.1,if_pos q,if_pos q,if_pos q]
    exact ⟨rfl,hm',hx',hch⟩
   ·have f:=no_facts q
    rw [f.2.1,f.2.2.1] at hm'
    rw [if_neg q] at hx'
    rw [decide_eq_false q,if_neg q,if_neg q,if_neg q]
    exact ⟨rfl,hm',hx',hch⟩
theorem stampM_any (h:MemAt 95 w b g ws o n) (a0 a1 a2 a3 a4 a5:Int):Calls Tryz.prog 109 #[.pointer (some ⟨b,0,none⟩),plnV a0 a1 a2 a3 a4 a5] w fun e w'=>e=.returned (.tuple #[.int .u64 (toldW ws o a2),.int .i64 (errA ws o a2)])∧MemAt 95 w' b g ws (spentO ws o a2) (spentC ws o a2 n)∧Chg b g w w':=by
 unfold plnV
 have HM:=Lib.hid h
 clear h
 go_enter Tryz.func109,Tryz.ntmps109
 go_wp2_with (go_at_call 108;refine (load_any (HM.out.alloc _) _).mono ?_;rintro e w' ⟨rfl,hm,hc⟩;have HX:=Lib.hid (And.intro hm (((Chg.refl b g w).alloc _).trans hc));clear hm hc)
 go_ret2
 exact ⟨rfl,HX.out⟩
theorem publish_any (h:MemAt 95 w b g ws o n) (a0 a1 a2 a3 a4 a5 v:Int):Calls Tryz.prog 199 #[.pointer (some ⟨b,0,none⟩),plnV a0 a1 a2 a3 a4 a5,.int .u64 v] w fun e w'=>e=.returned (.int .i64 (errA ws o a2))∧MemAt 95 w' b g (stored ws o a2 v) (spentO ws o a2) (spentC ws o a2 n)∧Chg b g w w':=by
 unfold plnV
 have HM:=Lib.hid h
 clear h
 go_enter Tryz.func199,Tryz.ntmps199
 go_wp2_with (go_at_call 180;refine (store_any (HM.out.alloc _) _ _).mono ?_;rintro e w' ⟨rfl,hm,hc⟩;have HX:=Lib.hid (And.intro hm (((Chg.refl b g w).alloc _).trans hc));clear hm hc)
 go_ret
 exact ⟨rfl,HX.out⟩
end
end Go.Proofs.YteinilmecnlanabGreatDoor.Md.Cv
namespace Go.Proofs.YteinilmecnlanabGreatDoor.Rr
open Go.ChangeShapes Go.WideShapes Go.ChangeAt Go.RowKit Num
def u64B (v:Int):Prop:=0≤v∧v<18446744073709551616
def okW (ws:List Int):Prop:=∀ v∈ws,u64B v
theorem okW.at {ws:List Int} (h:okW ws) (i:Int):u64B (wordAt ws i):=by
 unfold wordAt
 rw [List.getD_eq_getElem?_getD]
 cases e:ws[i.toNat]? with
 | none=>exact ⟨by decide,by decide⟩
 | some v=>exact h v (List.mem_of_getElem? e)
theorem okW.set {ws:List Int} (h:okW ws) (i:Nat) {v:Int} (hv:u64B v):okW (ws.set i v):=fun u hu=>(List.mem_or_eq_of_mem_set hu).elim (h u) (fun e=>e ▸ hv)
theorem pass_in (v:Int):u64B (Md.Cv.passV v):=by
 unfold Md.Cv.passV u64B
 rw [IntKind.wrap_u64]
 omega
end Go.Proofs.YteinilmecnlanabGreatDoor.Rr
namespace Go.Proofs.YteinilmecnlanabGreatDoor.Sx
open Go.ChangeShapes Go.WideShapes Go.ChangeAt Go.RowKit Num
theorem row_num {w:World} {p:Option Addr} {c:Nat} {l:List Nat} (h:RowAt 64 w p c (fls l)) (i:Nat) (hi:i<l.length):∃ g,p=some ⟨g,0,none⟩∧g<w.heap.size∧w.cell? ⟨g,i,none⟩=some (.float .f64 l[i])∧w.frozen? ⟨g,i,none⟩=false:=by
 have ho:=h.own
 rw [fls_len] at ho
 rcases ho.2 with ⟨_,q⟩ | ⟨g,cap,cur,hv,_,hg,_⟩
 ·omega
 ·cases hv
  refine ⟨g,rfl,lt_of_block hg,?_,frozen_of_row w g i _ _ hg⟩
  rw [ho.cellAt i (by omega)]
  simp [fls,hi]
def hasN (n:Nat) (i:Int):Bool:=decide (0≤i) && decide (i<(n:Int))
def getV (l:List Nat) (i:Int):Nat:=if hasN l.length i then l.getD i.toNat 0 else 0
end Go.Proofs.YteinilmecnlanabGreatDoor.Sx
namespace Go.Proofs.YteinilmecnlanabGreatDoor.Sx
open Go.ChangeShapes Go.WideShapes Go.ChangeAt Go.RowKit Num
attribute [local go_sem] run_store_float frombits_run bits_run
end Go.Proofs.YteinilmecnlanabGreatDoor.Sx
namespace Go.Proofs.YteinilmecnlanabGreatDoor.Sx
open Go.ChangeShapes Go.WideShapes Go.ChangeAt Go.RowKit Num
attribute [local go_sem] run_store_float frombits_run bits_run
end Go.Proofs.YteinilmecnlanabGreatDoor.Sx
namespace Go.Proofs.YteinilmecnlanabGreatDoor.Sx
open Go.ChangeShapes Go.WideShapes Go.ChangeAt Go.RowKit Num
attribute [local go_sem] run_store_float frombits_run bits_run
theorem row_getD {w:World} {p:Option Addr} {c:Nat} {l:List Nat} (h:RowAt 64 w p c (fls l)) (i:Nat) (hi:i<l.length):∃ g,p=some ⟨g,0,none⟩∧g<w.heap.size∧w.cell? ⟨g,i,none⟩=some (.float .f64 (l.getD i 0))∧w.frozen? ⟨g,i,none⟩=false:=by
 have:=row_num h i hi
 rwa [show l[i]=l.getD i 0 by simp [hi]] at this
end Go.Proofs.YteinilmecnlanabGreatDoor.Sx
namespace Go.Proofs.YteinilmecnlanabGreatDoor.Sx
open Go.ChangeShapes Go.WideShapes Go.ChangeAt Go.RowKit Num
attribute [local go_sem] run_store_float frombits_run bits_run
end Go.Proofs.YteinilmecnlanabGreatDoor.Sx
namespace Go.Proofs.YteinilmecnlanabGreatDoor
open Go.ChangeShapes Go.WideShapes Go.ChangeAt Go.RowKit Num
def goM (s:List Nat) (m:Mac):Mac:=if (stepM m).2.kind=1 then giveM (stepM m).1 (Sx.getV s (stepM m).2.cell) else (stepM m).1
def okS (s:List Nat):Prop:=∀ x∈s,okN x
theorem getV_ok {s:List Nat} (h:okS s) (i:Int):okN (Sx.getV s i):=by
 unfold Sx.getV
 split
 ·exact getD_all 0 okN_zero s h _
 ·exact okN_zero
structure Rest (m:Mac):Prop where
 inv:Inv m
 nw:¬ 0≤m.wait
 cel:∀ t∈m.buf,0≤t.1∧t.1<m.cells
 nod:(cellsOfL m.buf).Nodup
theorem step_over {m:Mac} (hw:¬ 0≤m.wait) (h0:m.how≠0):stepM m=(m,askEnd):=by
 unfold stepM
 rw [if_neg hw,if_neg h0]
theorem go_over {s:List Nat} {m:Mac} (hw:¬ 0≤m.wait) (h0:m.how≠0):goM s m=m:=by
 unfold goM
 rw [step_over hw h0]
 rfl
theorem go_inv {s:List Nat} {m:Mac} (h:Inv m) (hs:okS s):Inv (goM s m):=by
 unfold goM
 split
 ·exact inv_give (inv_step h) (getV_ok hs _).2
 ·exact inv_step h
theorem go_kind1 {s:List Nat} {m:Mac} (h:(stepM m).2.kind=1):goM s m=giveM (stepM m).1 (Sx.getV s (stepM m).2.cell):=if_pos h
theorem go_kindN {s:List Nat} {m:Mac} (h:(stepM m).2.kind≠1):goM s m=(stepM m).1:=if_neg h
theorem go_turns {s:List Nat} {m:Mac} (h:Inv m) (hw:¬ 0≤m.wait) (h0:m.how=0):Like m (goM s m)∧¬ 0≤(goM s m).wait∧(((stepM m).2.kind=4∧(goM s m).how≠0)∨((stepM m).2.kind≠4∧(goM s m).how=0∧(goM s m).used=m.used+1)):=by
 obtain ⟨hl,⟨k1,k2,k3⟩ | ⟨k1,k2,k3,k4,k5⟩ | ⟨k1,k2,k3,k4⟩⟩:=step_turns h hw h0
 ·rw [go_kindN (by rw [k1];decide)]
  exact ⟨hl,k3,.inl ⟨k1,k2⟩⟩
 ·rw [go_kind1 k1]
  obtain ⟨g1,g2,g3,g4⟩:=give_goes k3 (Sx.getV s (stepM m).2.cell)
  exact ⟨hl.trans g4,g1,.inr ⟨by rw [k1];decide,g2.trans k4,g3.trans k5⟩⟩
 ·rw [go_kindN (by rcases k1 with k | k | k <;> rw [k] <;> decide)]
  exact ⟨hl,k2,.inr ⟨by rcases k1 with k | k | k <;> rw [k] <;> decide,k3,k4⟩⟩
theorem go_buf {s:List Nat} {m:Mac}:(goM s m).buf=(stepM m).1.buf:=by
 unfold goM
 split
 ·exact give_bufs _
 ·rfl
theorem cells_mem {l:Wr} {c:Int}:c∈cellsOfL l ↔ ∃ t∈l,t.1=c:=by unfold cellsOfL;exact List.mem_map
theorem putC_cells {l:Wr} {c:Int} {y:Nat} {P:Int→Prop} (h:∀ t∈l,P t.1) (hc:P c):∀ t∈putC l c y,P t.1:=fun t ht=>by
 have h1:t.1∈cellsOfL (putC l c y):=cells_mem.2 ⟨t,ht,rfl⟩
 rw [cells_put] at h1
 have h2:t.1∈cellsOfL l∨t.1=c:=by
  split at h1
  ·exact .inl h1
  ·rcases List.mem_append.1 h1 with h | h
   ·exact .inl h
   ·exact .inr (by simpa using h)
 rcases h2 with h2 | h2
 ·obtain ⟨u,hu,e⟩:=cells_mem.1 h2
  exact e ▸ h u hu
 ·exact h2 ▸ hc
theorem Rest.go {s:List Nat} {m:Mac} (h:Rest m) (hs:okS s):Rest (goM s m):=by
 by_cases h0:m.how=0
 ·obtain ⟨hl,g1,_⟩:=go_turns (s:=s) h.inv h.nw h0
  have hb:=step_bufs h.inv h.nw h0
  refine ⟨go_inv h.inv hs,g1,?_,?_⟩
  ·rw [go_buf,hl.cells]
   rcases hb with ⟨_,e⟩ | ⟨_,e⟩ | ⟨_,e,_⟩ | ⟨_,e,_⟩ | ⟨_,e,_,c1,c2⟩
   iterate 4 (rw [e];exact h.cel)
   rw [e]
   exact putC_cells (P:=fun c=>0≤c∧c<m.cells) h.cel ⟨c1,c2⟩
  ·rw [go_buf]
   rcases hb with ⟨_,e⟩ | ⟨_,e⟩ | ⟨_,e,_⟩ | ⟨_,e,_⟩ | ⟨_,e,_,c1,c2⟩
   iterate 4 (rw [e];exact h.nod)
   rw [e]
   exact nodup_put h.nod
 ·rw [go_over h.nw h0]
  exact h
theorem new_rest {a b f e t:Int} {c:List Ins} {l:List Nat} (hc:Md.cfgB a b f e=true) (hx:∀ k,k<c.length→(ci c k).x<18446744073709551616) (hl:∀ x∈l,x<18446744073709551616):Rest (newM a f e t c l) :=
 ⟨inv_new hc hx hl,show ¬ (0:Int)≤-1 by decide,fun t ht=>by simp [newM] at ht,by simp [newM,cellsOfL]⟩
end Go.Proofs.YteinilmecnlanabGreatDoor
