import Derived.Test.YteinilmecnlanabGreatDoorJC3
import Derived.Test.YteinilmecnlanabGreatDoorJC2
import Derived.Laws.MakeOwn
import Derived.Deep.AppendSrc
import Derived.Deep.MidRow
import Derived.Deep.RegionLaw
import Derived.Deep.CutBlock
import Derived.Deep.DeepCutAuto
import Derived.Test.YteinilmecnlanabGreatDoorFl
import Derived.Test.YteinilmecnlanabGreatDoorWalkB
import Derived.Maps.AppendAt
import Derived.Test.YteinilmecnlanabGreatDoorTw
set_option maxRecDepth 100000
set_option maxHeartbeats 8000000
namespace Go.Proofs.YteinilmecnlanabGreatDoor
open Go.ChangeShapes Go.WideShapes Go.ChangeAt Go.RowKit Num
attribute [local go_sem] run_store_float
structure Fit (m:Mac):Prop where
 st:∀ x∈m.st,okN x
 high:m.st.length≤64
 cells:m.cells≤256
 reads:m.reads.length≤1024
 out:m.out.length≤1024
 buf:m.buf.length≤32
 few:(m.buf.length:Int)≤m.wmax
 deep:m.calls.length≤16
 how:m.how=0
 err:m.err=0
theorem fit_of {m:Mac} (h:Inv m) (h0:m.how=0):Fit m:=by
 have h1:=h.high
 have h2:=h.used
 have h3:=h.fuel
 have h4:=h.reads
 have h5:=h.out
 have h6:=h.few
 have h7:=h.wmax
 refine ⟨h.st,?_,h.cells.2,?_,by omega,by omega,h6,h.deep,h0,?_⟩
 ·split at h1 <;> omega
 ·split at h4 <;> omega
 ·have:=h.fail
  by_cases e:m.err=0
  ·exact e
  ·have:=this.2 e
   omega
theorem fit_begun {m:Mac} (h:Fit m):Fit (begM m):=⟨h.st,h.high,h.cells,h.reads,h.out,h.buf,h.few,h.deep,h.how,h.err⟩
theorem two_of {l:List Nat} (h:2≤l.length):∃ y z s,l=y::z::s:=by
 match l,h with
 | y::z::s,_=>exact ⟨y,z,s,rfl⟩
theorem one_of {l:List Nat} (h:1≤l.length):∃ y s,l=y::s:=by
 match l,h with
 | y::s,_=>exact ⟨y,s,rfl⟩
section
variable {W w:World} {br bl:Nat} {F0 K:List Nat} {m:Mac} {cs:List Ins}
theorem rread_any (h:Rg W F0 br bl K w m cs) (hf:Fit m) {y:Nat} {s:List Nat} (hs:m.st=y::s):Calls Tryz.prog 97 #[.pointer (some ⟨br,0,none⟩)] w fun r w'=>r=.returned (askV (readM m).2)∧Rg W F0 br bl K w' (readM m).1 cs:=by
 have hy:okN y:=hf.st y (by rw [hs];simp)
 unfold readM
 cases ha:addrB m with
 | false=>exact rread_no h hs hf.high hy.2 ha
 | true =>
  have e:m.st.drop 1=s:=by rw [hs];rfl
  cases hh:hasC m.buf (addrV m) with
  | false =>
   rw [if_pos rfl,if_neg Bool.false_ne_true,e]
   exact rread_wait h hs hf.high hy.2 hf.buf ha hh
  | true =>
   rw [if_pos rfl,if_pos rfl,e]
   exact rread_own h hs hf.high hy.2 hf.buf hf.reads ha hh
theorem rwrite_any (h:Rg W F0 br bl K w m cs) (hf:Fit m) {y z:Nat} {s:List Nat} (hs:m.st=y::z::s):Calls Tryz.prog 98 #[.pointer (some ⟨br,0,none⟩)] w fun r w'=>r=.returned (askV (writeM m).2)∧Rg W F0 br bl K w' (writeM m).1 cs:=by
 have hy:okN y:=hf.st y (by rw [hs];simp)
 unfold writeM
 cases hu:m.upd with
 | false=>exact rwrite_ro h hu
 | true =>
  cases ha:addrB m with
  | false=>exact rwrite_no h hs hf.high hy.2 hu ha
  | true =>
   have e:m.st.drop 2=s:=by rw [hs];rfl
   have e2:m.st.getD 1 0=z:=by rw [hs];rfl
   rw [if_pos rfl,if_pos rfl,e,e2]
   cases hh:hasC m.buf (addrV m) with
   | false =>
    by_cases hfull:(m.buf.length:Int)=m.wmax
    ·have hp:mayP m.wmax m.buf (addrV m)=false:=by unfold mayP;rw [hh];simp;omega
     rw [hp]
     exact rwrite_full h hs hf.high hy.2 hf.buf hu ha hh hfull
    ·have hp:mayP m.wmax m.buf (addrV m)=true:=by unfold mayP;rw [hh];simp;have:=hf.few;omega
     rw [hp,if_pos rfl]
     have:=rwrite_first h hs hf.high hy.2 hf.buf hu ha hh hfull
     rw [hu] at this
     exact this
   | true =>
    have hp:mayP m.wmax m.buf (addrV m)=true:=by unfold mayP;rw [hh];rfl
    rw [hp,if_pos rfl]
    have:=rwrite_again h hs hf.high hy.2 hf.buf hu ha hh
    rw [hu] at this
    exact this
theorem rdo_any (h:Rg W F0 br bl K w m cs) (hf:Fit m) {k many:Nat} {n:Int} {x:Nat} (hi:mayB ⟨k,n,x⟩ many=true) (hro:roomB m ⟨k,n,x⟩=true):Calls Tryz.prog 75 #[.pointer (some ⟨br,0,none⟩),insV ⟨k,n,x⟩] w fun r w'=>r=.returned (askV (doM m ⟨k,n,x⟩).2)∧Rg W F0 br bl K w' (doM m ⟨k,n,x⟩).1 cs:=by
 obtain ⟨hk,hlo,hhi⟩:=fits_parts hi
 clear hi
 unfold roomB at hro
 simp only [Bool.and_eq_true,decide_eq_true_eq] at hro
 obtain ⟨⟨r1,r2⟩,_⟩:=hro
 have hkk:k=1∨k=2∨k=3∨k=4∨k=5∨k=6∨k=7∨k=8∨k=9∨k=10∨k=11∨k=12∨k=13∨k=14∨k=15∨k=16∨k=17∨k=18∨k=19∨k=20:=by omega
 have hs2:=hf.high
 rcases hkk with rfl | rfl | rfl | rfl | rfl | rfl | rfl | rfl | rfl | rfl | rfl | rfl | rfl | rfl | rfl | rfl | rfl | rfl | rfl | rfl
 ·have r2':(m.st.length:Int) - 0+1≤64:=r2
  exact rdo_push h (by omega)
 ·have r1':(1:Int)≤(m.st.length:Int):=r1
  obtain ⟨y,s,hs⟩:=one_of (l:=m.st) (by omega)
  have:=rdo_drop h (n:=n) (x:=x) hs hs2
  rw [show s=m.st.drop 1 by rw [hs];rfl] at this
  exact this
 ·have r1':(1:Int)≤(m.st.length:Int):=r1
  obtain ⟨y,s,hs⟩:=one_of (l:=m.st) (by omega)
  have:=rdo_dup h (n:=n) (x:=x) hs hs2
  rw [show y=m.st.getD 0 0 by rw [hs];rfl] at this
  exact this
 ·have r1':(2:Int)≤(m.st.length:Int):=r1
  obtain ⟨y,z,s,hs⟩:=two_of (l:=m.st) (by omega)
  have:=rdo_swap h (n:=n) (x:=x) hs hs2
  have e:doM m ⟨(4:Nat),n,x⟩=({ m with st:=z::y::s },ask0):=by
   show ({ m with st:=m.st.getD 1 0::m.st.getD 0 0::m.st.drop 2 },ask0)=_
   rw [hs]
   rfl
  rw [e]
  exact this
 ·have r1':n+1≤(m.st.length:Int):=r1
  have h0:0≤n:=hlo
  obtain ⟨q,rfl⟩:∃ q:Nat,n=q:=⟨n.toNat,by omega⟩
  exact rdo_pick h (k:=q) rfl (by omega) hs2
 ·have h0:0≤n:=hlo
  have h7:n≤7:=hhi
  obtain ⟨q,rfl⟩:∃ q:Nat,n=q:=⟨n.toNat,by omega⟩
  have r2':(m.st.length:Int) - 0+1≤64:=r2
  exact rdo_arg h (k:=q) rfl (by omega) (by omega)
 ·have h0:0≤n:=hlo
  have h7:n≤7:=hhi
  obtain ⟨q,rfl⟩:∃ q:Nat,n=q:=⟨n.toNat,by omega⟩
  have r2':(m.st.length:Int) - 0+1≤64:=r2
  exact rdo_get h (k:=q) rfl (by omega) (by omega)
 ·have h0:0≤n:=hlo
  have h7:n≤7:=hhi
  obtain ⟨q,rfl⟩:∃ q:Nat,n=q:=⟨n.toNat,by omega⟩
  have r1':(1:Int)≤(m.st.length:Int):=r1
  obtain ⟨y,s,hs⟩:=one_of (l:=m.st) (by omega)
  have:=rdo_set h (x:=x) (n:=q) rfl (by omega) hs hs2
  have e:doM m ⟨(8:Nat),q,x⟩=({ m with loc:=updF m.loc q y,st:=s },ask0):=by
   show ({ m with loc:=updF m.loc q (m.st.getD 0 0),st:=m.st.drop 1 },ask0)=_
   rw [hs]
   rfl
  rw [e]
  exact this
 ·have h0:1≤n:=hlo
  have h7:n≤8:=hhi
  have r1':(1:Int)≤(m.st.length:Int):=r1
  obtain ⟨y,s,hs⟩:=one_of (l:=m.st) (by omega)
  have:=rdo_one h (x:=x) (n:=n) ⟨h0,h7⟩ hs hs2 (hf.st y (by rw [hs];simp))
  have e:doM m ⟨(9:Nat),n,x⟩=({ m with st:=oneV n y::s },ask0):=by
   show ({ m with st:=oneV n (m.st.getD 0 0)::m.st.drop 1 },ask0)=_
   rw [hs]
   rfl
  rw [e]
  exact this
 ·have h0:1≤n:=hlo
  have h7:n≤12:=hhi
  have r1':(2:Int)≤(m.st.length:Int):=r1
  obtain ⟨y,z,s,hs⟩:=two_of (l:=m.st) (by omega)
  have:=rdo_two h (x:=x) (n:=n) ⟨h0,h7⟩ hs hs2 (hf.st y (by rw [hs];simp)) (hf.st z (by rw [hs];simp))
  have e:doM m ⟨(10:Nat),n,x⟩=({ m with st:=twoV n z y::s },ask0):=by
   show ({ m with st:=twoV n (m.st.getD 1 0) (m.st.getD 0 0)::m.st.drop 2 },ask0)=_
   rw [hs]
   rfl
  rw [e]
  exact this
 ·exact rdo_jump h
 ·have r1':(1:Int)≤(m.st.length:Int):=r1
  obtain ⟨y,s,hs⟩:=one_of (l:=m.st) (by omega)
  have e:doM m ⟨(12:Nat),n,x⟩=({ m with place:=if trueB y then n else m.place,st:=s },ask0):=by
   show ({ m with place:=if trueB (m.st.getD 0 0) then n else m.place,st:=m.st.drop 1 },ask0)=_
   rw [hs]
   rfl
  rw [e]
  cases hy:trueB y with
  | true=>exact rdo_if1 h hs hs2 hy
  | false=>exact rdo_if0 h hs hs2 hy
 ·have r1':(1:Int)≤(m.st.length:Int):=r1
  obtain ⟨y,s,hs⟩:=one_of (l:=m.st) (by omega)
  have e:doM m ⟨(13:Nat),n,x⟩=({ m with place:=if trueB y then m.place else n,st:=s },ask0):=by
   show ({ m with place:=if trueB (m.st.getD 0 0) then m.place else n,st:=m.st.drop 1 },ask0)=_
   rw [hs]
   rfl
  rw [e]
  cases hy:trueB y with
  | true=>exact rdo_un1 h hs hs2 hy
  | false=>exact rdo_un0 h hs hs2 hy
 ·exact rdo_call h (by have:=hf.deep;omega)
 ·show Calls _ _ _ _ fun r w'=>r=.returned (askV (retM m).2)∧Rg W F0 br bl K w' (retM m).1 cs
  cases hc:m.calls with
  | nil =>
   rw [retM_nil hc]
   exact rdo_ret0 h hf.how hf.err hc
  | cons c q =>
   rw [retM_cons hc]
   exact rdo_ret h hc hf.deep
 ·have r1':(1:Int)≤(m.st.length:Int):=r1
  obtain ⟨y,s,hs⟩:=one_of (l:=m.st) (by omega)
  exact rdo_read h (fun F u hu=>rread_any hu hf hs)
 ·have r1':(2:Int)≤(m.st.length:Int):=r1
  obtain ⟨y,z,s,hs⟩:=two_of (l:=m.st) (by omega)
  exact rdo_write h (fun F u hu=>rwrite_any hu hf hs)
 ·have r1':(1:Int)≤(m.st.length:Int):=r1
  obtain ⟨y,s,hs⟩:=one_of (l:=m.st) (by omega)
  have e:doM m ⟨(18:Nat),n,x⟩=({ m with out:=m.out ++ [y],st:=s },ask0):=by
   show ({ m with out:=m.out ++ [m.st.getD 0 0],st:=m.st.drop 1 },ask0)=_
   rw [hs]
   rfl
  rw [e]
  exact rdo_emit h hs hs2 hf.out
 ·exact rdo_abort h
 ·exact rdo_halt h hf.how hf.err
end
end Go.Proofs.YteinilmecnlanabGreatDoor
namespace Go.Proofs.YteinilmecnlanabGreatDoor
open Go.ChangeShapes Go.WideShapes Go.ChangeAt Go.RowKit Num
attribute [local go_sem] run_store_float
section
variable {W w:World} {br bl:Nat} {F0 K:List Nat} {m:Mac} {cs:List Ins}
theorem Rg.looks (h:Rg W F0 br bl K w m cs):∃ (bad:Bool) (pk:Option Addr) (ck:Nat),(w.cell? ⟨br,2,none⟩=some (.int .i64 m.fuel)∧w.cell? ⟨br,5,none⟩=some (.slice pk cs.length ck)∧w.cell? ⟨br,6,none⟩=some (.bool bad)∧w.cell? ⟨br,11,none⟩=some (.int .i64 m.place)∧w.cell? ⟨br,12,none⟩=some (.int .i64 m.used)∧w.cell? ⟨br,13,none⟩=some (.int .i64 m.wait)∧w.cell? ⟨br,14,none⟩=some (.int .i64 m.how))∧(w.frozen? ⟨br,11,none⟩=false∧w.frozen? ⟨br,12,none⟩=false∧br<w.heap.size)∧((bad=false∧m.code=cs)∨(bad=true∧m.code=[]))∧CodeAt w pk cs:=by
 obtain ⟨q,hr,_⟩:=h
 exact ⟨q.bad,q.pk,q.ck,⟨(hr.cell 2).trans rfl,by rw [← hr.nk];exact (hr.cell 5).trans rfl,(hr.cell 6).trans rfl,(hr.cell 11).trans rfl,(hr.cell 12).trans rfl,(hr.cell 13).trans rfl,(hr.cell 14).trans rfl⟩,⟨hr.free 11,hr.free 12,hr.ltB⟩,hr.bad,hr.cod⟩
theorem Rg.begun (h:Rg W F0 br bl K w m cs):Rg W F0 br bl K ((w.setCell ⟨br,12,none⟩ (.int .i64 (m.used+1))).setCell ⟨br,11,none⟩ (.int .i64 (m.place+1))) (begM m) cs:=by
 have g1:=h.set 12 (.int .i64 (m.used+1)) { m with used:=m.used+1 } (fun q=>rfl) ⟨rfl,rfl,rfl,rfl,rfl,rfl,rfl,rfl,rfl⟩ id
 exact g1.set 11 (.int .i64 (m.place+1)) (begM m) (fun q=>rfl) ⟨rfl,rfl,rfl,rfl,rfl,rfl,rfl,rfl,rfl⟩ id
theorem rstep_waits (h:Rg W F0 br bl K w m cs) (hw:0≤m.wait):Calls Tryz.prog 51 #[.pointer (some ⟨br,0,none⟩)] w fun r w'=>r=.returned (askV (askRead m.wait))∧Rg W F0 br bl K w' m cs:=by
 obtain ⟨bad,pk,ck,⟨e1,e2,e3,e4,e5,e6,e7⟩,⟨f1,f2,f3⟩,_,_⟩:=h.looks
 have G9:=Lib.hid h
 clear h
 go_enter Tryz.func51,Tryz.ntmps51
 go_wp2
 exact ask_back rfl w.heap.size (askRead m.wait) rfl (heap_new (by simp)) rfl ⟨rfl,G9.out.alloc _⟩
theorem rstep_over (h:Rg W F0 br bl K w m cs) (hw:¬ 0≤m.wait) (hh:¬ m.how=0):Calls Tryz.prog 51 #[.pointer (some ⟨br,0,none⟩)] w fun r w'=>r=.returned (askV askEnd)∧Rg W F0 br bl K w' m cs:=by
 obtain ⟨bad,pk,ck,⟨e1,e2,e3,e4,e5,e6,e7⟩,⟨f1,f2,f3⟩,_,_⟩:=h.looks
 have G9:=Lib.hid h
 clear h
 go_enter Tryz.func51,Tryz.ntmps51
 go_wp2
 exact ask_back rfl w.heap.size askEnd rfl (heap_new (by simp)) rfl ⟨rfl,G9.out.alloc _⟩
theorem Rg.failN (h:Rg W F0 br bl K w m cs) (e:Int):∃ F,(∀ n,Calls Tryz.prog 73 #[.pointer (some ⟨br,0,none⟩),.int .i64 e] ((w.alloc (askO ask0)).drewN n) fun r w'=>r=.returned (askV askEnd)∧Rg (w.alloc (askO ask0)) F br bl K w' (failM m e).1 cs)∧∀ u m',Rg (w.alloc (askO ask0)) F br bl K u m' cs→u.heap[w.heap.size]?=some (askO ask0)∧∀ u',Turn [w.heap.size] [w.heap.size] u u'→Rg W F0 br bl K u' m' cs:=by
 obtain ⟨F,h1,hX⟩:=h.leave (askO ask0)
 exact ⟨F,fun n=>rfails_any (h1.same (Same.drewN _ n)) e,hX⟩
theorem rstep_bad (h:Rg W F0 br bl K w m cs) (hw:¬ 0≤m.wait) (hh:m.how=0) (hb:∃ pk ck,w.cell? ⟨br,5,none⟩=some (.slice pk cs.length ck)∧w.cell? ⟨br,6,none⟩=some (.bool true)):Calls Tryz.prog 51 #[.pointer (some ⟨br,0,none⟩)] w fun r w'=>r=.returned (askV askEnd)∧Rg W F0 br bl K w' (failM m 50).1 cs:=by
 obtain ⟨bad,pk,ck,⟨e1,e2,e3,e4,e5,e6,e7⟩,⟨f1,f2,f3⟩,_,_⟩:=h.looks
 obtain ⟨pk',ck',_,e3'⟩:=hb
 rw [e3] at e3'
 cases e3'
 obtain ⟨F,hF,hX⟩:=h.failN 50
 have HX:=Lib.hid hX
 have HFA:Hid (Calls Tryz.prog 73 #[.pointer (some ⟨br,0,none⟩),.int .i64 50] (w.alloc (askO ask0)) fun r w'=>r=.returned (askV askEnd)∧Rg (w.alloc (askO ask0)) F br bl K w' (failM m 50).1 cs):=hF 0
 clear h hF hX
 go_enter Tryz.func51,Tryz.ntmps51
 go_wp2_with (go_at_call 73;refine HFA.out.mono ?_;rintro e u1 ⟨rfl,q⟩;obtain ⟨r1,r2⟩:=HX.out _ _ q;obtain ⟨⟨c0,c1,c2,c3,c4⟩,d0,d1,d2,d3⟩:=askO_cells r1;have G1:=Lib.hid (And.intro r1 r2);clear q r1 r2;unfold askV)
 exact ask_back rfl w.heap.size askEnd rfl (askO_set G1.out.1) rfl ⟨rfl,G1.out.2 _ (turn4 _ _ _ _ _ _)⟩
theorem rstep_fuel (h:Rg W F0 br bl K w m cs) (hw:¬ 0≤m.wait) (hh:m.how=0) (hc:w.cell? ⟨br,6,none⟩=some (.bool false)) (hf:m.used=m.fuel):Calls Tryz.prog 51 #[.pointer (some ⟨br,0,none⟩)] w fun r w'=>r=.returned (askV askEnd)∧Rg W F0 br bl K w' (failM m 80).1 cs:=by
 obtain ⟨bad,pk,ck,⟨e1,e2,e3,e4,e5,e6,e7⟩,⟨f1,f2,f3⟩,_,_⟩:=h.looks
 rw [e3] at hc
 cases hc
 obtain ⟨F,hF,hX⟩:=h.failN 80
 have HX:=Lib.hid hX
 have HFA:=Lib.hid hF
 rw [← hf] at e1
 clear h hF hX hf
 generalize m.used=us at *
 go_enter Tryz.func51,Tryz.ntmps51
 go_wp2
 go_quiet (fail)
 go_wp2_with (go_at_call 73;refine (HFA.out _).mono ?_;rintro e u1 ⟨rfl,q⟩;obtain ⟨r1,r2⟩:=HX.out _ _ q;obtain ⟨⟨c0,c1,c2,c3,c4⟩,d0,d1,d2,d3⟩:=askO_cells r1;have G1:=Lib.hid (And.intro r1 r2);clear q r1 r2;unfold askV)
 exact ask_back rfl w.heap.size askEnd rfl (askO_set G1.out.1) rfl ⟨rfl,G1.out.2 _ (turn4 _ _ _ _ _ _)⟩
theorem rstep_far (h:Rg W F0 br bl K w m cs) (hw:¬ 0≤m.wait) (hh:m.how=0) (hc:w.cell? ⟨br,6,none⟩=some (.bool false)) (hf:¬ m.used=m.fuel) (hp:(cs.length:Int)≤m.place):Calls Tryz.prog 51 #[.pointer (some ⟨br,0,none⟩)] w fun r w'=>r=.returned (askV askEnd)∧Rg W F0 br bl K w' (failM m 50).1 cs:=by
 obtain ⟨bad,pk,ck,⟨e1,e2,e3,e4,e5,e6,e7⟩,⟨f1,f2,f3⟩,_,_⟩:=h.looks
 rw [e3] at hc
 cases hc
 obtain ⟨F,hF,hX⟩:=h.failN 50
 have HX:=Lib.hid hX
 have HFA:=Lib.hid hF
 have hfd:(m.used == m.fuel)=false:=by simpa using hf
 clear h hF hX
 generalize cs.length=n at *
 go_enter Tryz.func51,Tryz.ntmps51
 go_wp2
 go_quiet (fail)
 go_wp2
 go_quiet (fail)
 go_wp2_with (go_at_call 73;refine (HFA.out _).mono ?_;rintro e u1 ⟨rfl,q⟩;obtain ⟨r1,r2⟩:=HX.out _ _ q;obtain ⟨⟨c0,c1,c2,c3,c4⟩,d0,d1,d2,d3⟩:=askO_cells r1;have G1:=Lib.hid (And.intro r1 r2);clear q r1 r2;unfold askV)
 exact ask_back rfl w.heap.size askEnd rfl (askO_set G1.out.1) rfl ⟨rfl,G1.out.2 _ (turn4 _ _ _ _ _ _)⟩
end
end Go.Proofs.YteinilmecnlanabGreatDoor
namespace Go.Proofs.YteinilmecnlanabGreatDoor
open Go.ChangeShapes Go.WideShapes Go.ChangeAt Go.RowKit Num
attribute [local go_sem] run_store_float
theorem wpSeqE_end {P:Program} {ops:Array Oper} {Q:Exit→Act→World→Prop} {S:World→Prop} {a:Act} {w:World} (h:∀ u,u=w→Q .normal a u):wpSeqE P ops Q S [] a w:=h w rfl
section
variable {W w:World} {br bl:Nat} {F0 K:List Nat} {m:Mac} {cs:List Ins}
theorem rstep_do (h:Rg W F0 br bl K w m cs) (hI:Inv m) (hw:¬ 0≤m.wait) (hh:m.how=0) (hc:w.cell? ⟨br,6,none⟩=some (.bool false)) (hf:¬ m.used=m.fuel) (hcs:m.code=cs) {k:Nat} (hk0:m.place=k) (hp:k<cs.length):Calls Tryz.prog 51 #[.pointer (some ⟨br,0,none⟩)] w fun r w'=>r=.returned (askV (if roomB (begM m) (ci cs k) then doM (begM m) (ci cs k) else failM (begM m) 82).2)∧Rg W F0 br bl K w' (if roomB (begM m) (ci cs k) then doM (begM m) (ci cs k) else failM (begM m) 82).1 cs:=by
 obtain ⟨bad,pk,ck,⟨e1,e2,e3,e4,e5,e6,e7⟩,⟨f1,f2,f3⟩,_,hcode⟩:=h.looks
 rw [e3] at hc
 cases hc
 obtain ⟨g,o,hpk,hg,j0,j1,j2⟩:=hcode k hp
 have hmay:=hI.may k (by rw [hcs];exact hp)
 rw [hcs] at hmay
 have hlen:cs.length≤1024:=by rw [← hcs];exact hI.len
 have hus:=hI.used
 have hfu:=hI.fuel
 have hFit:=fit_begun (fit_of hI hh)
 rw [hpk] at e2
 rw [hk0] at e4
 rcases hci:ci cs k with ⟨op,n0,x0⟩
 rw [hci] at j0 j1 j2 hmay
 obtain ⟨p,rfl⟩:∃ p:Nat,op=p:=⟨op.toNat,by have:=hmay.1;unfold mayB knownB at this;simp at this;omega⟩
 obtain ⟨F,h1,hX⟩:=h.leave (askO ask0)
 have HX:=Lib.hid hX
 have hn:0≤n0∧n0≤1023:=by
  obtain ⟨⟨q1,q2⟩,q3,q4⟩:=fits_parts hmay.1
  have q5:∀ j,j<21→0≤(shp j).lo∧(shp j).hi≤1023:=by decide
  have:=q5 p q2
  omega
 have HRO:Hid (∀ u,Rg (w.alloc (askO ask0)) F br bl K u (begM m) cs→Calls Tryz.prog 74 #[.pointer (some ⟨br,0,none⟩),insV ⟨p,n0,x0⟩] u fun e w'=>e=.returned (.bool (roomB (begM m) ⟨p,n0,x0⟩))∧Below u.heap.size u w'):=fun u hu=>rroom_any hu (fits_parts hmay.1).1 hFit.high hFit.deep hn
 have HDO:Hid (roomB (begM m) ⟨p,n0,x0⟩=true→∀ u,Rg (w.alloc (askO ask0)) F br bl K u (begM m) cs→Calls Tryz.prog 75 #[.pointer (some ⟨br,0,none⟩),insV ⟨p,n0,x0⟩] u fun r w'=>r=.returned (askV (doM (begM m) ⟨p,n0,x0⟩).2)∧Rg (w.alloc (askO ask0)) F br bl K w' (doM (begM m) ⟨p,n0,x0⟩).1 cs):=fun hro u hu=>rdo_any hu hFit hmay.1 hro
 have HFA:Hid (∀ u,Rg (w.alloc (askO ask0)) F br bl K u (begM m) cs→Calls Tryz.prog 73 #[.pointer (some ⟨br,0,none⟩),.int .i64 82] u fun r w'=>r=.returned (askV askEnd)∧Rg (w.alloc (askO ask0)) F br bl K w' (failM (begM m) 82).1 cs):=fun u hu=>rfails_any hu 82
 have HBG:Hid (∀ u,Rg (w.alloc (askO ask0)) F br bl K u m cs→(u.cell? ⟨br,12,none⟩=some (.int .i64 m.used)∧u.cell? ⟨br,11,none⟩=some (.int .i64 (k:Int))∧u.frozen? ⟨br,11,none⟩=false∧u.frozen? ⟨br,12,none⟩=false∧br<u.heap.size)∧Hid (Rg (w.alloc (askO ask0)) F br bl K ((u.setCell ⟨br,12,none⟩ (.int .i64 (m.used+1))).setCell ⟨br,11,none⟩ (.int .i64 ((k:Int)+1))) (begM m) cs)):=fun u hu=>by
  obtain ⟨_,_,_,⟨_,_,_,z4,z5,_,_⟩,⟨z6,z7,z8⟩,_,_⟩:=hu.looks
  rw [hk0] at z4
  refine ⟨⟨z5,z4,z6,z7,z8⟩,?_⟩
  have:=hu.begun
  rw [hk0] at this
  exact this
 have G0:=Lib.hid h1
 have HS:Hid (∀ u,Below w.heap.size w u→u.cell? ⟨br,5,none⟩=some (.slice (some ⟨g,o,none⟩) cs.length ck)∧u.cell? ⟨br,11,none⟩=some (.int .i64 (k:Int))∧u.cell? ⟨g,o+k*3,none⟩=some (.int .i64 p)∧u.cell? ⟨g,o+k*3+1,none⟩=some (.int .i64 n0)∧u.cell? ⟨g,o+k*3+2,none⟩=some (.float .f64 x0)):=fun u hu=>⟨(hu.cell (p:=⟨br,5,none⟩) f3).trans e2,(hu.cell (p:=⟨br,11,none⟩) f3).trans e4,(hu.cell (p:=⟨g,o+k*3,none⟩) hg).trans j0,(hu.cell (p:=⟨g,o+k*3+1,none⟩) hg).trans j1,(hu.cell (p:=⟨g,o+k*3+2,none⟩) hg).trans j2⟩
 have hkn:(k:Int)<(cs.length:Int):=by omega
 have hkn2:¬ (cs.length:Int)≤(k:Int):=by omega
 have hfd:(m.used == m.fuel)=false:=by simpa using hf
 clear h h1 hX hmay hFit hcode hI hpk hk0 hn hcs
 generalize cs.length=n at *
 clear hci
 cases hro:roomB (begM m) ⟨p,n0,x0⟩
 ·rw [if_neg Bool.false_ne_true]
  rw [hro] at HRO
  clear hro HDO
  go_enter Tryz.func51,Tryz.ntmps51
  go_wp2
  go_quiet (fail)
  go_wp2
  go_quiet (fail)
  go_wp2
  refine wp_region_seqE (fun u=>u.cell? ⟨br,5,none⟩=some (.slice (some ⟨g,o,none⟩) n ck)∧u.cell? ⟨br,11,none⟩=some (.int .i64 (k:Int))∧u.cell? ⟨g,o+k*3,none⟩=some (.int .i64 p)∧u.cell? ⟨g,o+k*3+1,none⟩=some (.int .i64 n0)∧u.cell? ⟨g,o+k*3+2,none⟩=some (.float .f64 x0)) ((0,true)::(1,true)::(2,true)::(3,true)::(4,true)::(5,true)::(6,true)::(7,true)::(8,true)::(9,true)::(10,true)::(11,false)::(12,false)::[]) (by kernel_rfl) (by kernel_rfl) (fun _ _ _ _ _ h=>h) (HS.out _ ((((below_alloc w (askO ask0)).trans ((Same.drewN _ _).below _)).trans ((Same.drewN _ _).below _)).trans ((Same.drew _).below _))) ?_
  repeat (first
   | (refine wpSeqE_take (v:=?_) rfl (by rfl) (fun wq hSq=>?_) ?_;rotate_left;(focus ((try dsimp only at hSq);go_simp;try with_reducible rfl));simp only [Act.put,List.setIfInBounds_toArray,List.set_cons_zero,List.set_cons_succ]))
  refine wpSeqE_do rfl (by rfl) (fun K hK=>?_)
  go_simp
  refine hK.out _ _ (fun _=>HS.out _ (bl_new ((below_alloc w (askO ask0)).trans ((Same.drewN _ _).below _)) _)) ?_
  clear hK K
  try simp only [Act.put,List.setIfInBounds_toArray,List.set_cons_zero,List.set_cons_succ]
  refine wpSeqE_do rfl (by rfl) (fun K hK=>?_)
  go_simp
  refine hK.out _ _ (fun z=>absurd rfl z) ?_
  clear hK K
  refine wpSeqE_end (fun u hu=>?_)
  have hG:Rg (w.alloc (askO ask0)) F br bl K u m cs:=by rw [hu];exact (G0.out.same (Same.drewN _ _)).alloc (insO ⟨p,n0,x0⟩)
  have hI1:u.heap[w.heap.size+1]?=some (insO ⟨p,n0,x0⟩):=by rw [hu];exact heap_new (by simp)
  clear hu
  obtain ⟨i0,i1,i2,i3⟩:=cells3_of hI1
  obtain ⟨⟨z1,z2,z3,z4,z5⟩,G2⟩:=HBG.out u hG
  have hne:br≠w.heap.size+1:=by omega
  have hI2:Hid (((u.setCell ⟨br,12,none⟩ (.int .i64 (m.used+1))).setCell ⟨br,11,none⟩ (.int .i64 ((k:Int)+1))).heap[w.heap.size+1]?=some (insO ⟨p,n0,x0⟩)):=by
   show _=_
   rw [heap_setCell_other _ _ _ _ (by simp;omega),heap_setCell_other _ _ _ _ (by simp;omega)]
   exact hI1
  clear hG hI1 HBG
  go_wp2_with (first
   | (go_at_call 73;refine (HFA.out _ G3.out).mono ?_;rintro e u4 ⟨rfl,q⟩;obtain ⟨r1,r2⟩:=HX.out _ _ q;obtain ⟨⟨c0,c1,c2,c3,c4⟩,d0,d1,d2,d3⟩:=askO_cells r1;have G9:=Lib.hid (And.intro r1 r2);clear q r1 r2;unfold askV)
   | (go_at_call 74;refine (HRO.out _ G2.out).mono ?_;rintro e u3 ⟨rfl,q⟩;have G3:=Lib.hid (G2.out.on q);clear q))
  exact ask_back rfl w.heap.size askEnd rfl (askO_set G9.out.1) rfl ⟨rfl,G9.out.2 _ (turn4 _ _ _ _ _ _)⟩
 ·rw [if_pos rfl]
  rw [hro] at HRO
  have HD2:=Lib.hid (HDO.out hro)
  clear HDO
  generalize hdm:doM (begM m) ⟨p,n0,x0⟩=dm at *
  obtain ⟨M,ak,ac,ax,af⟩:=dm
  clear hro hdm
  go_enter Tryz.func51,Tryz.ntmps51
  go_wp2
  go_quiet (fail)
  go_wp2
  go_quiet (fail)
  go_wp2
  refine wp_region_seqE (fun u=>u.cell? ⟨br,5,none⟩=some (.slice (some ⟨g,o,none⟩) n ck)∧u.cell? ⟨br,11,none⟩=some (.int .i64 (k:Int))∧u.cell? ⟨g,o+k*3,none⟩=some (.int .i64 p)∧u.cell? ⟨g,o+k*3+1,none⟩=some (.int .i64 n0)∧u.cell? ⟨g,o+k*3+2,none⟩=some (.float .f64 x0)) ((0,true)::(1,true)::(2,true)::(3,true)::(4,true)::(5,true)::(6,true)::(7,true)::(8,true)::(9,true)::(10,true)::(11,false)::(12,false)::[]) (by kernel_rfl) (by kernel_rfl) (fun _ _ _ _ _ h=>h) (HS.out _ ((((below_alloc w (askO ask0)).trans ((Same.drewN _ _).below _)).trans ((Same.drewN _ _).below _)).trans ((Same.drew _).below _))) ?_
  repeat (first
   | (refine wpSeqE_take (v:=?_) rfl (by rfl) (fun wq hSq=>?_) ?_;rotate_left;(focus ((try dsimp only at hSq);go_simp;try with_reducible rfl));simp only [Act.put,List.setIfInBounds_toArray,List.set_cons_zero,List.set_cons_succ]))
  refine wpSeqE_do rfl (by rfl) (fun K hK=>?_)
  go_simp
  refine hK.out _ _ (fun _=>HS.out _ (bl_new ((below_alloc w (askO ask0)).trans ((Same.drewN _ _).below _)) _)) ?_
  clear hK K
  try simp only [Act.put,List.setIfInBounds_toArray,List.set_cons_zero,List.set_cons_succ]
  refine wpSeqE_do rfl (by rfl) (fun K hK=>?_)
  go_simp
  refine hK.out _ _ (fun z=>absurd rfl z) ?_
  clear hK K
  refine wpSeqE_end (fun u hu=>?_)
  have hG:Rg (w.alloc (askO ask0)) F br bl K u m cs:=by rw [hu];exact (G0.out.same (Same.drewN _ _)).alloc (insO ⟨p,n0,x0⟩)
  have hI1:u.heap[w.heap.size+1]?=some (insO ⟨p,n0,x0⟩):=by rw [hu];exact heap_new (by simp)
  clear hu
  obtain ⟨i0,i1,i2,i3⟩:=cells3_of hI1
  obtain ⟨⟨z1,z2,z3,z4,z5⟩,G2⟩:=HBG.out u hG
  have hne:br≠w.heap.size+1:=by omega
  have hI2:Hid (((u.setCell ⟨br,12,none⟩ (.int .i64 (m.used+1))).setCell ⟨br,11,none⟩ (.int .i64 ((k:Int)+1))).heap[w.heap.size+1]?=some (insO ⟨p,n0,x0⟩)):=by
   show _=_
   rw [heap_setCell_other _ _ _ _ (by simp;omega),heap_setCell_other _ _ _ _ (by simp;omega)]
   exact hI1
  clear hG hI1 HBG
  go_wp2_with (first
   | (go_at_call 75;refine (HD2.out _ G3.out).mono ?_;rintro e u4 ⟨rfl,q⟩;obtain ⟨r1,r2⟩:=HX.out _ _ q;obtain ⟨⟨c0,c1,c2,c3,c4⟩,d0,d1,d2,d3⟩:=askO_cells r1;have G9:=Lib.hid (And.intro r1 r2);clear q r1 r2;unfold askV)
   | (go_at_call 74;refine (HRO.out _ G2.out).mono ?_;rintro e u3 ⟨rfl,q⟩;obtain ⟨k0,k1,k2,k3⟩:=cells3_of ((q.block _ (lt_of_block hI2.out)).trans hI2.out);have G3:=Lib.hid (G2.out.on q);clear q))
  exact ask_back rfl w.heap.size ⟨ak,ac,ax,af⟩ rfl (askO_set (k':=⟨ak,ac,ax,af⟩) G9.out.1) rfl ⟨rfl,G9.out.2 _ (turn4 _ _ (.int .i64 ak) (.int .i64 ac) (.float .f64 ax) (.bool af))⟩
end
end Go.Proofs.YteinilmecnlanabGreatDoor
namespace Go.Proofs.YteinilmecnlanabGreatDoor
open Go.ChangeShapes Go.WideShapes Go.ChangeAt Go.RowKit Num
section
variable {W w:World} {br bl:Nat} {F0 K:List Nat} {m:Mac} {cs:List Ins}
theorem rstep_any (h:Rg W F0 br bl K w m cs) (hI:Inv m):Calls Tryz.prog 51 #[.pointer (some ⟨br,0,none⟩)] w fun r w'=>r=.returned (askV (stepM m).2)∧Rg W F0 br bl K w' (stepM m).1 cs:=by
 unfold stepM
 by_cases hw:0≤m.wait
 ·rw [if_pos hw]
  exact rstep_waits h hw
 ·rw [if_neg hw]
  by_cases hh:m.how=0
  ·rw [if_pos hh]
   obtain ⟨bad,pk,ck,⟨_,e2,e3,_⟩,_,hbad,_⟩:=h.looks
   have hus:=hI.used
   have hfu:=hI.fuel
   have hpl:=hI.place
   rcases hbad with ⟨rfl,hcs⟩ | ⟨rfl,hcs⟩
   ·by_cases hf:m.used=m.fuel
    ·rw [if_neg (by omega)]
     exact rstep_fuel h hw hh e3 hf
    ·rw [if_pos (by omega)]
     by_cases hp:m.place<(m.code.length:Int)
     ·rw [if_pos hp]
      obtain ⟨k,hk⟩:∃ k:Nat,m.place=k:=⟨m.place.toNat,by omega⟩
      have hk2:k<cs.length:=by rw [hk,hcs] at hp;omega
      have:=rstep_do h hI hw hh e3 hf hcs hk hk2
      have e:insM m=ci cs k:=by unfold insM;rw [hk,hcs];rfl
      rw [e]
      exact this
     ·rw [if_neg hp]
      rw [hcs] at hp
      exact rstep_far h hw hh e3 hf (by omega)
   ·have h0:=hI.idle hcs
    rw [if_pos (by omega),if_neg (by rw [hcs];simp;omega)]
    exact rstep_bad h hw hh ⟨pk,ck,e2,e3⟩
  ·rw [if_neg hh]
   exact rstep_over h hw hh
theorem rgive_any (h:Rg W F0 br bl K w m cs) (hI:Inv m) (x:Nat):Calls Tryz.prog 52 #[.pointer (some ⟨br,0,none⟩),.float .f64 x] w fun r w'=>r=.returned (.int .i64 (giveE m))∧Rg W F0 br bl K w' (giveM m x) cs:=by
 unfold giveE giveM
 by_cases hw:0≤m.wait
 ·rw [if_pos hw,if_pos hw]
  have h1:=hI.high
  have h2:=hI.reads
  rw [if_pos hw] at h1 h2
  have:=hI.used
  have:=hI.fuel
  exact rgive_yes h hw (by omega) (by omega) x
 ·rw [if_neg hw,if_neg hw]
  exact (rgive_no h (by omega) x).mono fun e w' ⟨a,b⟩=>⟨a,by rw [b];exact h⟩
end
end Go.Proofs.YteinilmecnlanabGreatDoor
namespace Go.Proofs.YteinilmecnlanabGreatDoor
open Go.ChangeShapes Go.WideShapes Go.ChangeAt Go.RowKit Num
attribute [local go_sem] run_store_float
def TlAt (w:World) (p:Option Addr) (l:Wr):Prop:=∀ k,k<l.length→∃ g o,p=some ⟨g,o,none⟩∧g<w.heap.size∧w.cell? ⟨g,o+k*2,none⟩=some (.int .i64 (l.getD k (0,0)).1)∧w.cell? ⟨g,o+k*2+1,none⟩=some (.float .f64 (l.getD k (0,0)).2)
theorem Ro.fl {w:World} {p:Option Addr} {l:List Nat} (h:Ro w p (fls l)):FlAt w p l:=fun k hk=>by
 obtain ⟨g,o,e,c,hg⟩:=h.get (j:=k) (v:=.float .f64 (l.getD k 0)) (by unfold fls;rw [List.getElem?_map,List.getD_eq_getElem?_getD,List.getElem?_eq_getElem hk];rfl)
 exact ⟨g,o,e,hg,c⟩
theorem Ro.tl {w:World} {p:Option Addr} {l:Wr} (h:Ro w p (l.flatMap tchC)):TlAt w p l:=fun k hk=>by
 obtain ⟨a1,a2⟩:=tch_at l hk
 obtain ⟨g,o,e,c,hg⟩:=h.get a1
 obtain ⟨g',o',e',c',_⟩:=h.get a2
 rw [e] at e'
 cases e'
 exact ⟨g,o,e,hg,c,c'⟩
theorem RowAt.fl {w:World} {p:Option Addr} {c:Nat} {l:List Nat} (h:RowAt 64 w p c (fls l)):FlAt w p l:=fun k hk=>by
 obtain ⟨g,e,hg,c⟩:=row_at h rfl k hk
 exact ⟨g,0,e,hg,by rw [Nat.zero_add];exact c⟩
theorem TRow.tl {w:World} {p:Option Addr} {c:Nat} {l:Wr} (h:TRow w p c l):TlAt w p l:=fun k hk=>by
 obtain ⟨g,e,hg,c0,c1⟩:=trow_at h rfl k hk
 exact ⟨g,0,e,hg,by rw [Nat.zero_add];exact c0,by rw [Nat.zero_add];exact c1⟩
theorem TlAt.on {w w':World} {p:Option Addr} {l:Wr} (h:TlAt w p l) (hb:Below w.heap.size w w'):TlAt w' p l:=fun k hk=>by
 obtain ⟨g,o,e,hlt,c0,c1⟩:=h k hk
 exact ⟨g,o,e,Nat.lt_of_lt_of_le hlt hb.size,(hb.cell (p:=⟨g,o+k*2,none⟩) hlt).trans c0,(hb.cell (p:=⟨g,o+k*2+1,none⟩) hlt).trans c1⟩
def Wide (B w:World) (T:TypeId) (sz:Nat) (t:Option Addr × Nat × Nat):Prop:=(t.1=none∧t.2.2=0)∨∃ g arr,t.1=some ⟨g,0,none⟩∧B.heap.size≤g∧w.heap[g]?=some (.cells arr T (0,0))∧arr.size=t.2.2*sz∧t.2.2≤9223372036854775807
theorem RowAt.wide {B w:World} {p:Option Addr} {c:Nat} {l:List Nat} (h:RowAt 64 w p c (fls l)) (hA:Abv B.heap.size (fpR p)):Wide B w 64 1 (p,l.length,c):=by
 rcases h.own.2 with ⟨e,_⟩ | ⟨g,cap,cur,e,_,hg,_,hm,hs,_⟩
 ·injection e with e1 _ e3
  exact .inl ⟨e1,e3⟩
 ·injection e with e1 _ e3
  subst e1 e3
  exact .inr ⟨g,cur,rfl,hA g (by simp [fpR]),hg,hs,by unfold maxLen at hm;exact Nat.le_trans hm (by decide)⟩
theorem TRow.wide {B w:World} {p:Option Addr} {c:Nat} {l:Wr} (h:TRow w p c l) (hA:Abv B.heap.size (fpR p)):Wide B w 99 2 (p,l.length,c):=by
 rcases h.own.2 with ⟨e,_⟩ | ⟨g,cap,cur,e,_,hg,_,hm,hs,_⟩
 ·injection e with e1 _ e3
  exact .inl ⟨e1,e3⟩
 ·injection e with e1 _ e3
  subst e1 e3
  exact .inr ⟨g,cur,rfl,hA g (by simp [fpR]),hg,hs,by unfold maxLen at hm;exact Nat.le_trans hm (by decide)⟩
theorem Wide.on {B w w':World} {T:TypeId} {sz:Nat} {t:Option Addr × Nat × Nat} (h:Wide B w T sz t) (k:Below w.heap.size w w'):Wide B w' T sz t:=by
 rcases h with h | ⟨g,arr,h1,h2,h3,h4⟩
 ·exact .inl h
 ·exact .inr ⟨g,arr,h1,h2,(k.block g (lt_of_block h3)).trans h3,h4⟩
theorem Wide.put {B w:World} {T:TypeId} {sz:Nat} {t:Option Addr × Nat × Nat} (h:Wide B w T sz t) (g i:Nat) (v:Value):Wide B (w.setCell ⟨g,i,none⟩ v) T sz t:=by
 rcases h with h | ⟨g',arr,h1,h2,h3,h4⟩
 ·exact .inl h
 ·by_cases e:g'=g
  ·subst e
   exact .inr ⟨g',_,h1,h2,heap_setCell_same w g' i _ _ v h3,by simpa using h4⟩
  ·exact .inr ⟨g',arr,h1,h2,(heap_setCell_other _ _ _ _ (by simpa using e)).trans h3,h4⟩
end Go.Proofs.YteinilmecnlanabGreatDoor
namespace Go.Proofs.YteinilmecnlanabGreatDoor
open Go.ChangeShapes Go.WideShapes Go.ChangeAt Go.RowKit Num
attribute [local go_sem] run_store_float
end Go.Proofs.YteinilmecnlanabGreatDoor
namespace Go.Proofs.YteinilmecnlanabGreatDoor
open Go.ChangeShapes Go.WideShapes Go.ChangeAt Go.RowKit Num
attribute [local go_sem] run_store_float
end Go.Proofs.YteinilmecnlanabGreatDoor
namespace Go.Proofs.YteinilmecnlanabGreatDoor
open Go.ChangeShapes Go.WideShapes Go.ChangeAt Go.RowKit Num
theorem RowAt.ro {E:TypeId} {w:World} {p:Option Addr} {c:Nat} {xs:List Value} (h:RowAt E w p c xs):Ro w p xs:=by
 rcases h.own.2 with ⟨q,hn⟩ | ⟨g,cap,cur,hv,_,hg,_,_,hsz,hx⟩
 ·exact .inl ⟨(Value.slice.inj q).1,List.length_eq_zero_iff.1 hn⟩
 ·refine .inr ⟨g,0,(Value.slice.inj hv).1,fun j v hv=>?_⟩
  rw [← hx,List.getElem?_take] at hv
  split at hv
  ·show w.cell? ⟨g,0+j,none⟩=some v
   rw [Nat.zero_add,cell_of_row w g j _ _ _ hg]
   simpa using hv
  ·cases hv
theorem loc_row {w:World} {b:Nat} (h:w.heap[b]?=some locO):RowAt 64 w (some ⟨b,0,none⟩) 8 (fls (eight fun _=>0)) :=
 ⟨⟨rfl,.inr ⟨b,8,_,rfl,Nat.zero_le _,h,Nat.le_refl _,by unfold maxLen;omega,rfl,rfl⟩⟩⟩
theorem fpK_blw {w:World} {q:Rp} {cs:List Ins} (h:CodeAt w q.pk cs):Blw w (fpK q cs):=fun x hx=>by
 unfold fpK at hx
 split at hx
 ·cases hx
 ·obtain ⟨a,ha,rfl⟩:=mem_fpR.1 hx
  obtain ⟨g,o,e,hlt,_⟩:=h 0 (List.length_pos_iff.2 (by assumption))
  rw [ha] at e
  cases e
  exact hlt
theorem RNew.ref {N w wr:World} {a b c e t:Int} {ao:Option Addr} {n cap:Nat} {l:List Nat} {br bl ca:Nat} {pa:Option Addr} {cs:List Ins} (h:RNew w wr (newM a c e t cs l) { rq0 b t ao n cap (!checkB t cs) bl with pa:=pa,na:=8,ca:=ca } br (eight (argF l))) (hN:Below N.heap.size N w) (hC:CodeAt N ao cs) (hn:cs.length=n):RefAt wr br { rq0 b t ao n cap (!checkB t cs) bl with pa:=pa,na:=8,ca:=ca } (newM a c e t cs l) cs:=by
 have hk:Blw N (fpK { rq0 b t ao n cap (!checkB t cs) bl with pa:=pa,na:=8,ca:=ca } cs):=fpK_blw hC
 have hs:=hN.size
 exact {
  box:=h.box
  loc:=loc_row h.loc
  arg:=h.row.ro
  st:=Ro.nil _
  cal:=Ro.nil _
  out:=Ro.nil _
  rds:=Ro.nil _
  buf:=Ro.nil _
  cod:=(hC.on hN).on h.bl
  na:=rfl
  nk:=hn.symm
  bad:=by
   by_cases q:checkB t cs=true
   ·exact .inl ⟨by simp [rq0,q],by simp [newM,q]⟩
   ·exact .inr ⟨by simp [rq0,q],by simp [newM,q]⟩
  tag:=rfl
  zc:=fun _=>rfl
  ne:=h.ne
  ap:=fun p hp=>by
   simp only [Rp.rows,rq0,List.mem_cons,List.not_mem_nil,or_false] at hp
   rcases hp with rfl | rfl | rfl | rfl | rfl | rfl
   ·exact ⟨h.n1,h.n2⟩
   all_goals exact ⟨by simp [fpR],by simp [fpR]⟩
  apk:=⟨fun x=>absurd (hk _ x) (Nat.not_lt.2 (Nat.le_trans hs h.a1)),fun x=>absurd (hk _ x) (Nat.not_lt.2 (Nat.le_trans hs h.a2))⟩
  lt:=fun x hx=>by
   simp only [Fr,Rp.rows,rq0,List.flatMap_cons,List.flatMap_nil,List.mem_cons,List.mem_append] at hx
   rcases hx with rfl | rfl | hx
   ·exact lt_of_block h.box
   ·exact lt_of_block h.loc
   ·exact h.row.blw x (by simpa [fpR] using hx)
  ltk:=fun x hx=>Nat.lt_of_lt_of_le (hk x hx) (Nat.le_trans hs h.bl.size)
  c1:=Nat.le_refl _
  c2:=Nat.le_refl _
  c3:=Nat.le_refl _
  c4:=Nat.le_refl _
  c5:=Nat.le_refl _
  nd:=List.nodup_nil }
theorem RNew.abv {w wr:World} {b t:Int} {ao:Option Addr} {n cap:Nat} {l:List Nat} {br bl ca:Nat} {pa:Option Addr} {m:Mac} {bad:Bool} (h:RNew w wr m { rq0 b t ao n cap bad bl with pa:=pa,na:=8,ca:=ca } br l):Abv w.heap.size (Fr br { rq0 b t ao n cap bad bl with pa:=pa,na:=8,ca:=ca }):=fun x hx=>by
 simp only [Fr,Rp.rows,rq0,List.flatMap_cons,List.flatMap_nil,List.mem_cons,List.mem_append] at hx
 rcases hx with rfl | rfl | hx
 ·exact h.a1
 ·exact h.a2
 ·exact h.a3 x (by simpa [fpR] using hx)
end Go.Proofs.YteinilmecnlanabGreatDoor
namespace Go.Proofs.YteinilmecnlanabGreatDoor
open Go.ChangeShapes Go.WideShapes Go.ChangeAt Go.RowKit Num
attribute [local go_sem] run_store_float
def insC (i:Ins):List Value:=[.int .i64 i.op,.int .i64 i.n,.float .f64 i.x]
theorem flat_at {α:Type} (f:α→List Value) (s:Nat) (hf:∀ a,(f a).length=s):∀ (n:Nat) (l:List α) (m:α),l[n]?=some m→∀ j,j<s→(l.flatMap f)[n*s+j]?=(f m)[j]?
 | 0,l,m,hm,j,hj=>by
  cases l with
  | nil=>simp at hm
  | cons a t =>
   simp at hm
   subst hm
   rw [List.flatMap_cons,Nat.zero_mul,Nat.zero_add,List.getElem?_append_left (by rw [hf];exact hj)]
 | n+1,l,m,hm,j,hj=>by
  cases l with
  | nil=>simp at hm
  | cons a t =>
   rw [List.flatMap_cons,List.getElem?_append_right (by rw [hf,Nat.add_mul];omega)]
   have e:(n+1)*s+j - (f a).length=n*s+j:=by rw [hf,Nat.add_mul];omega
   rw [e]
   exact flat_at f s hf n t m (by simpa using hm) j hj
theorem insC_len (c:List Ins):(c.flatMap insC).length=c.length*3:=by
 induction c with
 | nil=>rfl
 | cons i c ih=>rw [List.flatMap_cons,List.length_append,ih];simp [insC];omega
theorem insC_one (c:List Ins):∀ u∈c.flatMap insC,u.oneCell'=true:=by
 intro u hu
 obtain ⟨i,_,h⟩:=List.mem_flatMap.1 hu
 simp [insC] at h
 rcases h with rfl | rfl | rfl <;> rfl
theorem codeAt_range {w:World} {g off:Nat} {c:List Ins} (hg:g<w.heap.size) (h:w.rangeAt g off (c.flatMap insC)):CodeAt w (some ⟨g,off,none⟩) c:=fun k hk=>by
 have e:∀ j,j<3→w.cell? ⟨g,off+(k*3+j),none⟩=(insC (ci c k))[j]?:=fun j hj=>by
  have h2:=flat_at insC 3 (fun _=>rfl) k c (ci c k) (ci_lt hk) j hj
  cases hq:(insC (ci c k))[j]? with
  | none =>
   rw [List.getElem?_eq_none_iff] at hq
   simp [insC] at hq
   omega
  | some v=>exact h _ _ (h2.trans hq)
 exact ⟨g,off,rfl,hg,e 0 (by decide),e 1 (by decide),e 2 (by decide)⟩
theorem range_codeAt {w:World} {b off:Nat} {c:List Ins} (h:CodeAt w (some ⟨b,off,none⟩) c):w.rangeAt b off (c.flatMap insC):=fun j v hv=>by
 have hj:j<c.length*3:=by
  have:=(List.getElem?_eq_some_iff.1 hv).1
  rwa [insC_len] at this
 have hk:j / 3<c.length:=by omega
 obtain ⟨b',off',e,_,c0,c1,c2⟩:=h (j / 3) hk
 cases e
 have hr:j % 3<3:=Nat.mod_lt _ (by decide)
 have e2:=flat_at insC 3 (fun _=>rfl) (j / 3) c (ci c (j / 3)) (ci_lt hk) (j % 3) hr
 rw [show j / 3*3+j % 3=j by omega,hv] at e2
 have h3:j % 3=0∨j % 3=1∨j % 3=2:=by omega
 rcases h3 with q | q | q
 ·rw [show off+j=off+j / 3*3 by omega,c0,e2,q];rfl
 ·rw [show off+j=off+j / 3*3+1 by omega,c1,e2,q];rfl
 ·rw [show off+j=off+j / 3*3+2 by omega,c2,e2,q];rfl
theorem src_code {w:World} {ao:Option Addr} {c:List Ins} (cap:Nat) (h:CodeAt w ao c):Src Tryz.prog 3 24 (.slice ao c.length cap) c.length (c.flatMap insC) w:=by
 cases ao with
 | none =>
  cases c with
  | nil=>exact Src.ofNil w Tryz.underlying24 cap
  | cons i c =>
   obtain ⟨b,off,e,_⟩:=h 0 (by simp)
   cases e
 | some a =>
  refine Src.ofSlice w Tryz.underlying24 a c.length cap _ (insC_len c) (fun j u hu=>?_) (insC_one c)
  cases c with
  | nil=>simp at hu
  | cons i c =>
   obtain ⟨b,off,e,_⟩:=h 0 (by simp)
   cases e
   rw [Addr.add_mid]
   exact range_codeAt h j u hu
theorem fls_get {l:List Nat} {j:Nat} (hj:j<l.length):(fls l)[j]?=some (.float .f64 (l.getD j 0)):=by
 unfold fls
 rw [List.getElem?_map,List.getElem?_eq_getElem hj,List.getD_eq_getElem?_getD,List.getElem?_eq_getElem hj]
 rfl
theorem src_fl {w:World} {po:Option Addr} {l:List Nat} (co:Nat) (h:FlAt w po l):Src Tryz.prog 1 27 (.slice po l.length co) l.length (fls l) w:=by
 cases po with
 | none =>
  cases l with
  | nil=>exact Src.ofNil w Tryz.underlying27 co
  | cons i c =>
   obtain ⟨b,off,e,_⟩:=h 0 (by simp)
   cases e
 | some a =>
  refine Src.ofSlice w Tryz.underlying27 a l.length co _ (by rw [fls_len,Nat.mul_one]) (fun j u hu=>?_) (fls_one l)
  have hj:j<l.length:=by
   have:=(List.getElem?_eq_some_iff.1 hu).1
   rwa [fls_len] at this
  obtain ⟨b,off,e,_,c⟩:=h j hj
  cases e
  rw [Addr.add_mid,c,← hu,fls_get hj]
end Go.Proofs.YteinilmecnlanabGreatDoor
namespace Go.Proofs.YteinilmecnlanabGreatDoor.Ww
open Go.ChangeShapes Go.WideShapes Go.ChangeAt Go.RowKit Num Rr
attribute [local go_sem] run_store_float Md.Ce.run_store_func Md.Ce.run_store_nilFunc
theorem end_how (a b c:Int) (w:World):(Instr.field 57 (.agg #[.int .i64 a,.int .i64 b,.int .i64 c]) 0).run Tryz.prog w=.ok (.int .i64 a) w:=by kernel_rfl
attribute [local go_sem] end_how
section
variable {W w:World} {G0:List Nat} {b mb mg:Nat} {x:Wx} {z:Wz} {v:Wv} {ws:List Int} {o:Bool} {n:Int}
theorem load_any (h:Mid W G0 b z mb mg w x v ws true n) (ha:1≤x.a∧x.a≤256) (hb8:1≤x.b∧x.b≤8) (hl:plY x≤(ws.length:Int)) {c:Int} (h0:0≤c) (h1:c<x.a) {y:Nat} (hy:nowN x ws c=y):Calls Tryz.prog 127 #[.pointer (some ⟨b,0,none⟩),.pointer (some ⟨mb,0,none⟩),.int .i64 c] w fun e w'=>e=.returned (.float .f64 y)∧Mid W G0 b z mb mg w' x v ws false (up n)∧Chg mb mg w w':=by
 obtain ⟨f1,f2,f3,f4⟩:=now_rel ha hb8 hl h0 h1 n
 have HD:=Lib.hid (Md.Ce.cnow_any h.mem 0 1 2 3 (3+x.b) (3+x.b+3*x.a) c)
 unfold Md.Ce.planV at HD
 rw [f2,f3,f4,f1,hy] at HD
 have HM:Hid (∀ w',MemAt 95 w' mb mg ws false (up n)→Chg mb mg w w'→Mid W G0 b z mb mg w' x v ws false (up n)∧Chg mb mg w w'):=fun w' k1 k2=>⟨h.memb k2 k1,k2⟩
 obtain ⟨h0,h1,h2,h3,h4,h5⟩:=h.plan rfl rfl
 have hb:=h.ltB
 clear h f1 f2 f3 f4 hl ha hb8 hy
 generalize 3+x.b+3*x.a=p5 at *
 generalize 3+x.b=p4 at *
 go_enter Tryz.func127,Tryz.ntmps127
 go_wp2_with (go_at_call 140;refine HD.out.mono ?_;rintro e w1 ⟨rfl,k1,k2⟩;have HQ:=Lib.hid (HM.out _ k1 k2);clear k1 k2 HD HM)
 go_ret
 exact ⟨rfl,HQ.out⟩
theorem wend_no (h:Mid W G0 b z mb mg w x v ws o n) (hh:(x.m.how != 1)=true):Calls Tryz.prog 128 #[.pointer (some ⟨b,0,none⟩)] w fun e w'=>e=.returned (.tuple #[])∧Mid W G0 b z mb mg w' { x with part:=8 } { v with nx:=fnV 141 } ws o n:=by
 have HE:Hid (Calls Tryz.prog 39 #[.pointer (some ⟨z.bm,0,none⟩)] w fun e w'=>e=.returned (.agg #[.int .i64 x.m.how,.int .i64 x.m.cod,.int .i64 x.m.err])∧Below w.heap.size w w'):=Go.Proofs.YteinilmecnlanabGreatDoor.end_any h.raw.mac.gm
 have HT:Hid (∀ w',Below w.heap.size w w'→Calls Tryz.prog 45 #[.pointer (some ⟨b,0,none⟩),.int .i64 8,.func (.func 141) #[] #[]] w' fun e w'=>e=.returned (.tuple #[])∧Mid W G0 b z mb mg w' { x with part:=8 } { v with nx:=fnV 141 } ws o n):=fun w' k=>turnTo_fn (h.on k) 8 rfl 141
 have h9:w.cell? ⟨b,9,none⟩=some (.pointer (some ⟨z.bm,0,none⟩)):=(h.cell 9).trans rfl
 have hb:=h.ltB
 clear h
 generalize x.m.how=hw at HE hh
 generalize x.m.cod=cd at HE
 generalize x.m.err=er at HE
 go_enter Tryz.func128,Tryz.ntmps128
 go_wp2_with (first
  | (go_at_call 45;refine (HT.out _ HQ.out).mono ?_;rintro e w2 ⟨rfl,k⟩;have HR:=Lib.hid k;clear k HT)
  | (go_at_call 39;refine HE.out.mono ?_;rintro e w1 ⟨rfl,k⟩;have HQ:=Lib.hid k;clear k HE))
 refine bodyPost_ret (results_none rfl _ _ _) rfl ?_
 exact ⟨rfl,HR.out⟩
theorem wend_yes (h:Mid W G0 b z mb mg w x v ws o n) (hh:(x.m.how != 1)=false):Calls Tryz.prog 128 #[.pointer (some ⟨b,0,none⟩)] w fun e w'=>e=.returned (.tuple #[])∧Hid (∃ i,Mid W G0 b z mb mg w' { x with part:=5 } { v with nx:=fnV 143,qs:=some i,s:=⟨3,x.b,x.stamp,0,0⟩ } ws o n):=by
 have HE:Hid (Calls Tryz.prog 39 #[.pointer (some ⟨z.bm,0,none⟩)] w fun e w'=>e=.returned (.agg #[.int .i64 x.m.how,.int .i64 x.m.cod,.int .i64 x.m.err])∧Below w.heap.size w w'):=Go.Proofs.YteinilmecnlanabGreatDoor.end_any h.raw.mac.gm
 have HM:=Lib.hid h
 have HL:Hid (∀ u,Calls Tryz.prog 142 #[.agg #[.int .i64 0,.int .i64 1,.int .i64 2,.int .i64 3,.int .i64 (3+x.b),.int .i64 (3+x.b+3*x.a)],.int .i64 x.b,.int .u64 x.stamp] u fun e w'=>∃ i,e=.returned (.pointer (some ⟨i,0,none⟩))∧u.heap.size≤i∧Md.Cv.ScAt w' i ⟨3,x.b,x.stamp,0,0⟩∧Below u.heap.size u w'):=fun u=>Md.Cv.look_any 0 1 2 3 (3+x.b) (3+x.b+3*x.a) x.b x.stamp u
 have HT:Hid (∀ i w',Mid W G0 b z mb mg w' x { v with qs:=some i,s:=⟨3,x.b,x.stamp,0,0⟩ } ws o n→Calls Tryz.prog 45 #[.pointer (some ⟨b,0,none⟩),.int .i64 5,.func (.func 143) #[] #[]] w' fun e w'=>e=.returned (.tuple #[])∧Mid W G0 b z mb mg w' { x with part:=5 } { v with nx:=fnV 143,qs:=some i,s:=⟨3,x.b,x.stamp,0,0⟩ } ws o n):=fun i w' k=>turnTo_fn k 5 rfl 143
 have h9:w.cell? ⟨b,9,none⟩=some (.pointer (some ⟨z.bm,0,none⟩)):=(h.cell 9).trans rfl
 have hb:=h.ltB
 have HPL:Hid (∀ w' v',Mid W G0 b z mb mg w' x v' ws o n→(w'.cell? ⟨b,0,none⟩=some (.int .i64 0)∧w'.cell? ⟨b,1,none⟩=some (.int .i64 1)∧w'.cell? ⟨b,2,none⟩=some (.int .i64 2)∧w'.cell? ⟨b,3,none⟩=some (.int .i64 3)∧w'.cell? ⟨b,4,none⟩=some (.int .i64 (3+x.b))∧w'.cell? ⟨b,5,none⟩=some (.int .i64 (3+x.b+3*x.a)))∧w'.cell? ⟨b,6,none⟩=some (.int .i64 x.b)∧w'.cell? ⟨b,14,none⟩=some (.int .u64 x.stamp)):=fun w' v' k=>⟨k.plan rfl rfl,(k.cell 6).trans rfl,(k.cell 14).trans rfl⟩
 clear h
 generalize x.m.how=hw at HE hh
 generalize x.m.cod=cd at HE
 generalize x.m.err=er at HE
 generalize 3+x.b+3*x.a=p5 at *
 generalize 3+x.b=p4 at *
 go_enter Tryz.func128,Tryz.ntmps128
 go_wp2_with (go_at_call 39;refine HE.out.mono ?_;rintro e w1 ⟨rfl,k⟩;have HQ:=Lib.hid (HM.out.on k);clear k HE)
 clear h9 hb HM
 obtain ⟨⟨h0,h1,h2,h3,h4,h5⟩,h6,h14⟩:=HPL.out _ _ HQ.out
 have hb:=HQ.out.ltB
 refine wp_region_seq (fun u=>(u.cell? ⟨b,0,none⟩=some (.int .i64 0)∧u.cell? ⟨b,1,none⟩=some (.int .i64 1)∧u.cell? ⟨b,2,none⟩=some (.int .i64 2)∧u.cell? ⟨b,3,none⟩=some (.int .i64 3)∧u.cell? ⟨b,4,none⟩=some (.int .i64 p4)∧u.cell? ⟨b,5,none⟩=some (.int .i64 p5))∧u.cell? ⟨b,6,none⟩=some (.int .i64 x.b)∧u.cell? ⟨b,14,none⟩=some (.int .u64 x.stamp) )  ((0,true)::(1,true)::(2,true)::(3,true)::(4,true)::(5,true)::(6,true)::(7,true)::(8,true)::(9,true)::(10,true)::(11,true)::(12,true)::(13,false)::(14,true)::(15,true)::(16,false)::[])  Md.Cv.follows13 (by kernel_rfl) (fun _ _ _ _ _ h=>h)  ⟨⟨h0,h1,h2,h3,h4,h5⟩,h6,h14⟩ ?_
 (repeat ((first | (refine wpSeq_take (v:=?_) rfl (by rfl) (fun wq hSq=>?_) ?_;rotate_left;(focus ((try dsimp only at hSq);go_simp;try with_reducible rfl))) | refine wpSeq_skip rfl (by rfl) ?_);simp only [Act.put,List.setIfInBounds_toArray,List.set_cons_zero,List.set_cons_succ]))
 (refine wpSeq_do rfl (by rfl) (fun KK hK=>?_);go_simp)
 refine (HL.out _).mono ?_
 rintro e w2 ⟨i0,rfl,k1,k2,k3⟩
 have HV:=Lib.hid (HQ.out.drew.on k3)
 have HN:=Lib.hid (HQ.out.drew.scanNew k3 k1 k2)
 have e16:w2.cell? ⟨b,16,none⟩=some (ptrV v.qs):=(HV.out.cell 16).trans rfl
 have f16:=HV.out.free 16
 have lb:=HV.out.ltB
 clear k1 k2 k3
 refine hK.out _ _ (HPL.out _ _ HV.out) ?_
 (clear hK KK;try simp only [Act.put,List.setIfInBounds_toArray,List.set_cons_zero,List.set_cons_succ])
 (repeat ((first | (refine wpSeq_take (v:=?_) rfl (by rfl) (fun wq hSq=>?_) ?_;rotate_left;(focus ((try dsimp only at hSq);go_simp;try with_reducible rfl))) | refine wpSeq_skip rfl (by rfl) ?_);simp only [Act.put,List.setIfInBounds_toArray,List.set_cons_zero,List.set_cons_succ]))
 (refine wpSeq_do rfl (by rfl) (fun KK hK=>?_);go_simp)
 refine hK.out _ _ (HPL.out _ _ HN.out) ?_
 (clear hK KK;try simp only [Act.put,List.setIfInBounds_toArray,List.set_cons_zero,List.set_cons_succ])
 refine wpSeq_nil ?_
 go_wp2_with (go_at_call 45;refine (HT.out _ _ HN.out).mono ?_;rintro e w3 ⟨rfl,k⟩;have HR:=Lib.hid k;clear k HT)
 go_end0
 exact ⟨rfl,i0,HR.out⟩
theorem run_end (h:Mid W G0 b z mb mg w x v ws o n) (hT:TabAt W G0) (hI:Inv x.m) {M:Mac} {A:Ask} (hM:(stepM x.m).1=M) (hA:(stepM x.m).2=A) (hk:A.kind=4) {Q:World→Prop} (HE:Hid (∀ u F,Mid W G0 b z mb mg u { x with m:=M } { v with F:=F } ws o n→Calls Tryz.prog 128 #[.pointer (some ⟨b,0,none⟩)] u fun e w'=>e=.returned (.tuple #[])∧Q w')):Calls Tryz.prog 110 #[.pointer (some ⟨b,0,none⟩),.pointer (some ⟨mb,0,none⟩)] w fun e w'=>e=.returned (.tuple #[])∧Q w':=by
 have HS:=Lib.hid (h.step hT hI hM hA)
 rw [hk] at HS
 have h9:w.cell? ⟨b,9,none⟩=some (.pointer (some ⟨z.bm,0,none⟩)):=(h.cell 9).trans rfl
 have hb:=h.ltB
 clear h hM hA hT hI hk
 go_enter Tryz.func110,Tryz.ntmps110
 go_wp2_with (first
  | (go_at_call 128;refine (HE.out _ _ HU.out).mono ?_;rintro e w3 ⟨rfl,k⟩;have HR:=Lib.hid k;clear k)
  | (go_at_call 125;refine HS.out.mono ?_;rintro e w1 ⟨rfl,k⟩;obtain ⟨F,k⟩:=k.out;have HU:=Lib.hid (k.alloc (.cells #[.int .i64 4,.int .i64 A.cell,.float .f64 A.x,.bool A.first] 111));have lb:=k.ltB;clear k HS))
 go_end0
 exact ⟨rfl,HR.out⟩
theorem run_go (h:Mid W G0 b z mb mg w x v ws o n) (hT:TabAt W G0) (hI:Inv x.m) {M:Mac} {A:Ask} (hM:(stepM x.m).1=M) (hA:(stepM x.m).2=A) (h1:(A.kind == 1)=false) (h3:(A.kind == 3)=false∨((A.kind == 3)=true∧A.first=false)) (h4:(A.kind == 4)=false):Calls Tryz.prog 110 #[.pointer (some ⟨b,0,none⟩),.pointer (some ⟨mb,0,none⟩)] w fun e w'=>e=.returned (.tuple #[])∧Hid (∃ F,Mid W G0 b z mb mg w' { x with m:=M } { v with F:=F } ws o n):=by
 have HS:=Lib.hid (h.step hT hI hM hA)
 have h9:w.cell? ⟨b,9,none⟩=some (.pointer (some ⟨z.bm,0,none⟩)):=(h.cell 9).trans rfl
 have hb:=h.ltB
 clear h hM hA hT hI
 obtain ⟨ak,ac,ax,af⟩:=A
 dsimp only at *
 rcases h3 with h3 | ⟨h3,rfl⟩
 ·go_enter Tryz.func110,Tryz.ntmps110
  go_wp2_with (go_at_call 125;refine HS.out.mono ?_;rintro e w1 ⟨rfl,k⟩;obtain ⟨F,k⟩:=k.out;have HU:=Lib.hid (k.alloc (.cells #[.int .i64 ak,.int .i64 ac,.float .f64 ax,.bool af] 111));have lb:=k.ltB;clear k HS)
  go_end0
  exact ⟨rfl,F,HU.out⟩
 ·go_enter Tryz.func110,Tryz.ntmps110
  go_wp2_with (go_at_call 125;refine HS.out.mono ?_;rintro e w1 ⟨rfl,k⟩;obtain ⟨F,k⟩:=k.out;have HU:=Lib.hid (k.alloc (.cells #[.int .i64 ak,.int .i64 ac,.float .f64 ax,.bool false] 111));have lb:=k.ltB;clear k HS)
  go_end0
  exact ⟨rfl,F,HU.out⟩
theorem run_read (h:Mid W G0 b z mb mg w x v ws true n) (hT:TabAt W G0) (hI:Inv x.m) (hI2:Inv (stepM x.m).1) (ha:1≤x.a∧x.a≤256) (hb8:1≤x.b∧x.b≤8) (hl:plY x≤(ws.length:Int)) {M:Mac} {A:Ask} (hM:(stepM x.m).1=M) (hA:(stepM x.m).2=A) (hk:A.kind=1) (h0:0≤A.cell) (h1:A.cell<x.a) {y:Nat} (hy:nowN x ws A.cell=y):Calls Tryz.prog 110 #[.pointer (some ⟨b,0,none⟩),.pointer (some ⟨mb,0,none⟩)] w fun e w'=>e=.returned (.tuple #[])∧Hid (∃ F,Mid W G0 b z mb mg w' { x with m:=giveM M y } { v with F:=F } ws false (up n)):=by
 have HS:=Lib.hid (h.step hT hI hM hA)
 rw [hk] at HS
 have h9:w.cell? ⟨b,9,none⟩=some (.pointer (some ⟨z.bm,0,none⟩)):=(h.cell 9).trans rfl
 have hb:=h.ltB
 have HLD:Hid (∀ u F,Mid W G0 b z mb mg u { x with m:=M } { v with F:=F } ws true n→Calls Tryz.prog 127 #[.pointer (some ⟨b,0,none⟩),.pointer (some ⟨mb,0,none⟩),.int .i64 A.cell] u fun e w'=>e=.returned (.float .f64 y)∧Mid W G0 b z mb mg w' { x with m:=M } { v with F:=F } ws false (up n)∧Chg mb mg u w'):=fun u F k=>load_any k ha hb8 hl h0 h1 hy
 have HGV:Hid (∀ u F,Mid W G0 b z mb mg u { x with m:=M } { v with F:=F } ws false (up n)→Calls Tryz.prog 126 #[.pointer (some ⟨z.bm,0,none⟩),.float .f64 y] u fun e w'=>e=.returned (.int .i64 (giveE M))∧Hid (∃ F,Mid W G0 b z mb mg w' { x with m:=giveM M y } { v with F:=F } ws false (up n))):=fun u F k=>k.give (hM ▸ hI2) y rfl
 generalize giveE M=gE at HGV
 clear h hM hA hT hI hk hl ha hb8 h0 h1 hy hI2
 go_enter Tryz.func110,Tryz.ntmps110
 go_wp2_with (go_at_call 125;refine HS.out.mono ?_;rintro e w1 ⟨rfl,k⟩;obtain ⟨F,k⟩:=k.out;have HQ:=Lib.hid k;have lb:=k.ltB;clear k HS)
 obtain ⟨w2,hw2⟩:∃ w2,w2=w1.alloc (.cells #[.int .i64 1,.int .i64 A.cell,.float .f64 A.x,.bool A.first] 111):=⟨_,rfl⟩
 rw [← hw2]
 have HU:=Lib.hid ((HQ.out.alloc (.cells #[.int .i64 1,.int .i64 A.cell,.float .f64 A.x,.bool A.first] 111)).drew)
 rw [← hw2] at HU
 have eA:w2.cell? ⟨w1.heap.size,1,none⟩=some (.int .i64 A.cell):=by rw [hw2];simp [go_sem]
 have lA:w1.heap.size<w2.heap.size:=by rw [hw2];simp
 have HNE:Hid (w1.heap.size≠mb∧w1.heap.size≠mg):=⟨(HQ.out.new (Nat.le_refl _)).2.2.1,(HQ.out.new (Nat.le_refl _)).2.2.2⟩
 clear hw2 HQ
 have e9:w2.cell? ⟨b,9,none⟩=some (.pointer (some ⟨z.bm,0,none⟩)):=(HU.out.cell 9).trans rfl
 have eb:b<w2.heap.size:=HU.out.ltB
 refine wp_region_seqE (fun u=>u.cell? ⟨b,9,none⟩=some (.pointer (some ⟨z.bm,0,none⟩))∧u.cell? ⟨w1.heap.size,1,none⟩=some (.int .i64 A.cell) )  ((0,true)::(1,true)::(2,true)::(3,true)::(4,true)::(5,true)::(6,true)::(7,true)::(8,false)::(9,false)::[])  Md.Cv.follows13 (by kernel_rfl) (fun _ _ _ _ _ h=>h)  ⟨e9,eA⟩ ?_
 (repeat (refine wpSeqE_take (v:=?_) rfl (by rfl) (fun wq hSq=>?_) ?_;rotate_left;(focus ((try dsimp only at hSq);go_simp;try with_reducible rfl));simp only [Act.put,List.setIfInBounds_toArray,List.set_cons_zero,List.set_cons_succ]))
 (refine wpSeqE_do rfl (by rfl) (fun KK hK=>?_);go_simp)
 refine (HLD.out _ _ HU.out).mono ?_
 rintro e w3 ⟨rfl,k1,k2⟩
 have HV:=Lib.hid k1
 have g9:w3.cell? ⟨b,9,none⟩=some (.pointer (some ⟨z.bm,0,none⟩)):=(k1.cell 9).trans rfl
 have gA:w3.cell? ⟨w1.heap.size,1,none⟩=some (.int .i64 A.cell):=(Md.Cv.cell_kept (k2.block _ lA HNE.out.1 HNE.out.2) 1).trans eA
 clear k1 k2
 refine hK.out _ _ (fun _=>⟨g9,gA⟩) ?_
 (clear hK KK;try simp only [Act.put,List.setIfInBounds_toArray,List.set_cons_zero,List.set_cons_succ])
 (refine wpSeqE_do rfl (by rfl) (fun KK hK=>?_);go_simp)
 refine (HGV.out _ _ HV.out).mono ?_
 rintro e w4 ⟨rfl,k⟩
 refine hK.out _ _ (fun hn=>absurd rfl hn) ?_
 (clear hK KK;try simp only [Act.put,List.setIfInBounds_toArray,List.set_cons_zero,List.set_cons_succ])
 refine wpSeqE_nil ?_
 go_wp2_with fail
 go_end0
 exact ⟨rfl,k.out⟩
theorem Mid.hads2 (h:Mid W G0 b z mb mg w x v ws o n) {k:Nat} (hk:x.was.length=k) {ob:Obj} {w3:World} {u:Value} {y:Nat} (hown:w3.ownsRow 0 64 1 u (k+1) (fls x.was ++ [.float .f64 y])) (hg:(w.alloc ob).grownBy w3 (Value.slice v.ph k v.ch).ownBlock) (hat:u.ownBlock=(Value.slice v.ph k v.ch).ownBlock∨u.ownBlock=some (w.alloc ob).heap.size) :
  ∃ p' c',u=.slice p' (k+1) c'∧w3.heap[b]?=some (.cells (boxY x z v) 83 (0,0))∧Mid W G0 b z mb mg (w3.setCell ⟨b,15,none⟩ (.slice p' (k+1) c')) { x with was:=x.was ++ [y] } { v with ph:=p',ch:=c' } ws o n:=by
 subst hk
 obtain ⟨p',c',e,k1,k2⟩:=h.hads hown ((World.grownBy_alloc w ob _).trans hg) (hat.imp id fun q=>⟨_,q,by simp⟩)
 exact ⟨p',c',e,k1,e ▸ k2⟩
theorem run_first (h:Mid W G0 b z mb mg w x v ws true n) (hT:TabAt W G0) (hI:Inv x.m) (ha:1≤x.a∧x.a≤256) (hb8:1≤x.b∧x.b≤8) (hl:plY x≤(ws.length:Int)) (hfew:x.was.length≤1000) {M:Mac} {A:Ask} (hM:(stepM x.m).1=M) (hA:(stepM x.m).2=A) (hk:A.kind=3) (hf:A.first=true) (h0:0≤A.cell) (h1:A.cell<x.a) {y:Nat} (hy:nowN x ws A.cell=y):Calls Tryz.prog 110 #[.pointer (some ⟨b,0,none⟩),.pointer (some ⟨mb,0,none⟩)] w fun e w'=>e=.returned (.tuple #[])∧Hid (∃ F p' c',Mid W G0 b z mb mg w' { x with m:=M,was:=x.was ++ [y] } { v with F:=F,ph:=p',ch:=c' } ws false (up n)):=by
 have HS:=Lib.hid (h.step hT hI hM hA)
 rw [hk,hf] at HS
 have h9:w.cell? ⟨b,9,none⟩=some (.pointer (some ⟨z.bm,0,none⟩)):=(h.cell 9).trans rfl
 have hb:=h.ltB
 have HLD:Hid (∀ u F,Mid W G0 b z mb mg u { x with m:=M } { v with F:=F } ws true n→Calls Tryz.prog 127 #[.pointer (some ⟨b,0,none⟩),.pointer (some ⟨mb,0,none⟩),.int .i64 A.cell] u fun e w'=>e=.returned (.float .f64 y)∧Mid W G0 b z mb mg w' { x with m:=M } { v with F:=F } ws false (up n)∧Chg mb mg u w'):=fun u F k=>load_any k ha hb8 hl h0 h1 hy
 obtain ⟨j,hj⟩:∃ j,x.was.length=j:=⟨_,rfl⟩
 have HJ:=Lib.hid hj
 rw [hj] at hfew
 have HC15:Hid (∀ u F ws o n,Mid W G0 b z mb mg u { x with m:=M } { v with F:=F } ws o n→u.cell? ⟨b,15,none⟩=some (.slice v.ph j v.ch)∧u.ownsRow 0 64 1 (.slice v.ph j v.ch) j (fls x.was)):=fun u F ws o n k=>⟨(k.cell 15).trans (by show some (Value.slice v.ph x.was.length v.ch)=_;rw [hj]),by
  have:=k.raw.had.own
  dsimp only at this
  rw [fls_len,hj] at this
  exact this⟩
 obtain ⟨i0,hi,hz0,hz1,hz2⟩:=info_parts fInfo
 have HZI:=Lib.hid (And.intro hi (And.intro hz0 (And.intro hz1 hz2)))
 clear h hM hA hT hI hk hl ha hb8 h0 h1 hy hf hi hz0 hz1 hz2 hj
 go_enter Tryz.func110,Tryz.ntmps110
 go_wp2_with (go_at_call 125;refine HS.out.mono ?_;rintro e w1 ⟨rfl,k⟩;obtain ⟨F,k⟩:=k.out;have HQ:=Lib.hid k;have lb:=k.ltB;clear k HS)
 obtain ⟨w2,hw2⟩:∃ w2,w2=w1.alloc (.cells #[.int .i64 3,.int .i64 A.cell,.float .f64 A.x,.bool true] 111):=⟨_,rfl⟩
 rw [← hw2]
 have HU:=Lib.hid ((HQ.out.alloc (.cells #[.int .i64 3,.int .i64 A.cell,.float .f64 A.x,.bool true] 111)).drew)
 rw [← hw2] at HU
 have eA:w2.cell? ⟨w1.heap.size,1,none⟩=some (.int .i64 A.cell):=by rw [hw2];simp [go_sem]
 have lA:w1.heap.size<w2.heap.size:=by rw [hw2];simp
 have HNE:Hid (w1.heap.size≠mb∧w1.heap.size≠mg):=⟨(HQ.out.new (Nat.le_refl _)).2.2.1,(HQ.out.new (Nat.le_refl _)).2.2.2⟩
 have HNF:Hid (w1.heap.size∉fpR v.ph):=fun q=>(HQ.out.new (Nat.le_refl _)).1 (in_h q)
 clear hw2 HQ
 have e15:w2.cell? ⟨b,15,none⟩=some (.slice v.ph j v.ch):=(HC15.out _ _ _ _ _ HU.out).1
 have eb:b<w2.heap.size:=HU.out.ltB
 refine wp_region_seqE (fun u=>u.cell? ⟨b,15,none⟩=some (.slice v.ph j v.ch)∧u.cell? ⟨w1.heap.size,1,none⟩=some (.int .i64 A.cell) )  ((0,true)::(1,true)::(2,true)::(3,true)::(4,true)::(5,true)::(6,true)::(7,true)::(8,true)::(9,false)::(10,false)::(11,false)::(12,true)::(13,true)::(14,false)::[])  Md.Cv.follows13 (by kernel_rfl) (fun _ _ _ _ _ h=>h)  ⟨e15,eA⟩ ?_
 (repeat (refine wpSeqE_take (v:=?_) rfl (by rfl) (fun wq hSq=>?_) ?_;rotate_left;(focus ((try dsimp only at hSq);go_simp;try with_reducible rfl));simp only [Act.put,List.setIfInBounds_toArray,List.set_cons_zero,List.set_cons_succ]))
 (refine wpSeqE_do rfl (by rfl) (fun KK hK=>?_);go_simp)
 refine (HLD.out _ _ HU.out).mono ?_
 rintro e w3 ⟨rfl,k1,k2⟩
 have HV:=Lib.hid k1
 obtain ⟨g15,OD⟩:=HC15.out _ _ _ _ _ k1
 have HOD:=Lib.hid OD
 have gA:w3.cell? ⟨w1.heap.size,1,none⟩=some (.int .i64 A.cell):=(Md.Cv.cell_kept (k2.block _ lA HNE.out.1 HNE.out.2) 1).trans eA
 have l3:w1.heap.size<w3.heap.size:=Nat.lt_of_lt_of_le lA k2.size
 have b3:b<w3.heap.size:=k1.ltB
 have HMR:Hid (∀ w4 v4 ob,w4.ownsRow 0 64 1 v4 (j+1) (fls x.was ++ [.float .f64 y])→(w3.alloc ob).grownBy w4 (Value.slice v.ph j v.ch).ownBlock→(v4.ownBlock=(Value.slice v.ph j v.ch).ownBlock∨v4.ownBlock=some (w3.alloc ob).heap.size)→∃ p' c',v4=.slice p' (j+1) c'∧w4.heap[b]?=some (.cells (boxY { x with m:=M } z { v with F:=F }) 83 (0,0))∧Mid W G0 b z mb mg (w4.setCell ⟨b,15,none⟩ (.slice p' (j+1) c')) { x with m:=M,was:=x.was ++ [y] } { v with F:=F,ph:=p',ch:=c' } ws false (up n)):=fun w4 v4 ob q1 q2 q3=>HV.out.hads2 HJ.out q1 q2 q3
 clear k1 k2 OD HC15
 refine hK.out _ _ (fun _=>⟨g15,gA⟩) ?_
 (clear hK KK;try simp only [Act.put,List.setIfInBounds_toArray,List.set_cons_zero,List.set_cons_succ])
 (refine wpSeqE_do rfl (by rfl) (fun KK hK=>?_);go_simp)
 have g15a:(w3.alloc (.cells #[.float .f64 y] 64)).cell? ⟨b,15,none⟩=some (.slice v.ph j v.ch):=(World.cell?_alloc_old _ _ _ (Nat.ne_of_lt b3)).trans g15
 have gAa:(w3.alloc (.cells #[.float .f64 y] 64)).cell? ⟨w1.heap.size,1,none⟩=some (.int .i64 A.cell):=(World.cell?_alloc_old _ _ _ (Nat.ne_of_lt l3)).trans gA
 refine hK.out _ _ (fun _=>⟨g15a,gAa⟩) ?_
 (clear hK KK;try simp only [Act.put,List.setIfInBounds_toArray,List.set_cons_zero,List.set_cons_succ])
 refine wpSeqE_do rfl (by rfl) (fun KK hK=>?_)
 refine wp_append_ex _ _ 27 27 rfl (.slice v.ph j v.ch) (.slice (some ⟨w3.heap.size,0,none⟩) 1 1) rfl rfl (run_append_own_at (P:=Tryz.prog) (w3.alloc (.cells #[.float .f64 y] 64)) 0 27 27 64 i0 (.float .f64 0) 1 8 Tryz.underlying27 HZI.out.1 HZI.out.2.1 HZI.out.2.2.1 HZI.out.2.2.2 rfl (by decide) _ j (fls x.was) (World.ownsRow.alloc (HOD.out) _) ⟨w3.heap.size,0,none⟩ 1 1 [.float .f64 y] rfl (cell_one_new w3 _ _) (fun u hu=>by simp at hu;subst hu;rfl) (by unfold maxLen;omega) (by omega) (Nat.zero_le _)) ?_
 rintro v4 w4 ⟨hown4,hgrow4,hnil4,hat4⟩
 have gB:w4.cell? ⟨w1.heap.size,1,none⟩=some (.int .i64 A.cell):=(Md.Cv.cell_kept (hgrow4.block _ (by simp;omega) (fun q=>HNF.out (own_fpR.2 q.symm))) 1).trans gAa
 obtain ⟨p',c',hv4,k1,k2⟩:=HMR.out _ _ _ hown4 hgrow4 hat4
 subst hv4
 have c15:w4.cell? ⟨b,15,none⟩=some (.slice v.ph j v.ch):=by
  rw [cell_of_row w4 _ 15 _ _ _ k1]
  show some (Value.slice v.ph x.was.length v.ch)=_
  rw [HJ.out]
 have f15:=frozen_of_row w4 _ 15 _ _ k1
 have b4:=lt_of_block k1
 have HKK:=Lib.hid k2
 clear hown4 hgrow4 hnil4 hat4 k1 k2 HMR
 refine hK.out _ _ (fun _=>⟨c15,gB⟩) ?_
 (clear hK KK;try simp only [Act.put,List.setIfInBounds_toArray,List.set_cons_zero,List.set_cons_succ])
 (repeat (refine wpSeqE_take (v:=?_) rfl (by rfl) (fun wq hSq=>?_) ?_;rotate_left;(focus ((try dsimp only at hSq);go_simp;try with_reducible rfl));simp only [Act.put,List.setIfInBounds_toArray,List.set_cons_zero,List.set_cons_succ]))
 (refine wpSeqE_do rfl (by rfl) (fun KK hK=>?_);go_simp)
 refine hK.out _ _ (fun hn=>absurd rfl hn) ?_
 (clear hK KK;try simp only [Act.put])
 refine wpSeqE_nil ?_
 go_wp2_with fail
 go_end0
 exact ⟨rfl,F,p',c',HKK.out⟩
end
end Go.Proofs.YteinilmecnlanabGreatDoor.Ww
namespace Go.Proofs.YteinilmecnlanabGreatDoor.Ww
open Go.ChangeShapes Go.WideShapes Go.ChangeAt Go.RowKit Num Rr
attribute [local go_sem] run_store_float Md.Ce.run_store_func Md.Ce.run_store_nilFunc
section
variable {W w:World} {G0:List Nat} {b mb mg:Nat} {x:Wx} {z:Wz} {v:Wv} {ws:List Int} {o:Bool} {n:Int}
theorem wnext_end (h:Mid W G0 b z mb mg w x v ws o n) (hbg:v.bg=(x.m.buf.length:Int)):Calls Tryz.prog 157 #[.pointer (some ⟨b,0,none⟩)] w fun e w'=>e=.returned (.tuple #[])∧Mid W G0 b z mb mg w' { x with part:=7 } { v with nx:=fnV 184 } ws o n:=by
 have HW:Hid (Calls Tryz.prog 37 #[.pointer (some ⟨z.bm,0,none⟩)] w fun e w'=>e=.returned (.slice (some ⟨w.heap.size,0,none⟩) x.m.buf.length x.m.buf.length)∧TRow w' (some ⟨w.heap.size,0,none⟩) x.m.buf.length x.m.buf∧Below w.heap.size w w'):=writes_any h.raw.mac.gm
 have HT:Hid (∀ w',Below w.heap.size w w'→Calls Tryz.prog 45 #[.pointer (some ⟨b,0,none⟩),.int .i64 7,.func (.func 184) #[] #[]] w' fun e w'=>e=.returned (.tuple #[])∧Mid W G0 b z mb mg w' { x with part:=7 } { v with nx:=fnV 184 } ws o n):=fun w' k=>turnTo_fn (h.on k) 7 rfl 184
 have h9:w.cell? ⟨b,9,none⟩=some (.pointer (some ⟨z.bm,0,none⟩)):=(h.cell 9).trans rfl
 have HC:Hid (∀ u,Below w.heap.size w u→u.cell? ⟨b,17,none⟩=some (.int .i64 (x.m.buf.length:Int))∧b<u.heap.size):=fun u k=>⟨((h.on k).cell 17).trans (by show some (Value.int .i64 v.bg)=_;rw [hbg]),(h.on k).ltB⟩
 have hb:=h.ltB
 clear h
 generalize x.m.buf.length=bl at *
 go_enter Tryz.func157,Tryz.ntmps157
 go_wp2_with (first
  | (go_at_call 45;refine (HT.out _ HQ.out).mono ?_;rintro e w2 ⟨rfl,k⟩;have HR:=Lib.hid k;clear k HT)
  | (go_at_call 37;refine HW.out.mono ?_;rintro e w1 ⟨rfl,k1,k2⟩;have HQ:=Lib.hid k2;obtain ⟨e17,lb⟩:=HC.out _ k2;clear k1 k2 HW))
 refine bodyPost_ret (results_none rfl _ _ _) rfl ?_
 exact ⟨rfl,HR.out⟩
theorem wnext_more (h:Mid W G0 b z mb mg w x v ws o n) (hI:InY x) {k:Nat} (hk:k<x.m.buf.length) (hbg:v.bg=(k:Int)):Calls Tryz.prog 157 #[.pointer (some ⟨b,0,none⟩)] w fun e w'=>e=.returned (.tuple #[])∧Hid (∃ i,Mid W G0 b z mb mg w' { x with part:=6 } { v with nx:=fnV 187,bg:=(k:Int)+1,qw:=some i,t:=wtK x k 0 } ws o n):=by
 have hfew:(x.m.buf.length:Int)≤32:=by have h1:=hI.rest.inv.few;have h2:=hI.rest.inv.wmax;omega
 have hwl:k<x.was.length:=by rw [hI.wlen];exact hk
 have HW:Hid (Calls Tryz.prog 37 #[.pointer (some ⟨z.bm,0,none⟩)] w fun e w'=>e=.returned (.slice (some ⟨w.heap.size,0,none⟩) x.m.buf.length x.m.buf.length)∧TRow w' (some ⟨w.heap.size,0,none⟩) x.m.buf.length x.m.buf∧Below w.heap.size w w'):=writes_any h.raw.mac.gm
 have HTC:Hid (∀ u,TRow u (some ⟨w.heap.size,0,none⟩) x.m.buf.length x.m.buf→w.heap.size<u.heap.size∧u.cell? ⟨w.heap.size,k*2,none⟩=some (.int .i64 (bufC x k))∧u.cell? ⟨w.heap.size,k*2+1,none⟩=some (.float .f64 (bufX x k))):=fun u q=>by
  obtain ⟨g,e,l,c1,c2⟩:=trow_at q rfl k hk
  cases e
  exact ⟨l,c1,c2⟩
 have h9:w.cell? ⟨b,9,none⟩=some (.pointer (some ⟨z.bm,0,none⟩)):=(h.cell 9).trans rfl
 obtain ⟨g,hph,_⟩:=Sx.row_getD h.raw.had k hwl
 have HC:Hid (∀ u,Below w.heap.size w u→Mid W G0 b z mb mg u x v ws o n∧(u.cell? ⟨b,0,none⟩=some (.int .i64 0)∧u.cell? ⟨b,1,none⟩=some (.int .i64 1)∧u.cell? ⟨b,2,none⟩=some (.int .i64 2)∧u.cell? ⟨b,3,none⟩=some (.int .i64 3)∧u.cell? ⟨b,4,none⟩=some (.int .i64 (3+x.b))∧u.cell? ⟨b,5,none⟩=some (.int .i64 (3+x.b+3*x.a)))∧u.cell? ⟨b,15,none⟩=some (.slice (some ⟨g,0,none⟩) x.was.length v.ch)∧u.cell? ⟨b,17,none⟩=some (.int .i64 (k:Int))∧u.cell? ⟨g,k,none⟩=some (.float .f64 (x.was.getD k 0))∧g<u.heap.size∧b<u.heap.size):=fun u q=>by
  have hu:=h.on q
  obtain ⟨g',e,l,c,_⟩:=Sx.row_getD hu.raw.had k hwl
  rw [hph] at e
  cases e
  exact ⟨hu,hu.plan rfl rfl,(hu.cell 15).trans (by show some (Value.slice v.ph x.was.length v.ch)=_;rw [hph]),(hu.cell 17).trans (by show some (Value.int .i64 v.bg)=_;rw [hbg]),c,l,hu.ltB⟩
 have HNS:Hid (∀ u,Below w.heap.size w u→Calls Tryz.prog 186 #[.pointer (some ⟨b,0,none⟩)] u fun e w'=>e=.returned (.int .u64 (Md.Cv.passV x.stamp))∧w'=u):=fun u q=>nextStamp_any (h.on q)
 have HWR:Hid (∀ u,Calls Tryz.prog 185 #[.agg #[.int .i64 0,.int .i64 1,.int .i64 2,.int .i64 3,.int .i64 (3+x.b),.int .i64 (3+x.b+3*x.a)],.int .i64 (bufC x k),.int .u64 (Md.Cv.passV x.stamp),.float .f64 (x.was.getD k 0),.float .f64 (bufX x k)] u fun e w'=>∃ i,e=.returned (.pointer (some ⟨i,0,none⟩))∧u.heap.size≤i∧Md.Ce.WtAt w' i (wtK x k 0)∧Below u.heap.size u w'):=fun u=>by
  have:=Md.Ce.write_any u 0 1 2 3 (3+x.b) (3+x.b+3*x.a) (bufC x k) (Md.Cv.passV x.stamp) (x.was.getD k 0) (bufX x k)
  rw [newW_is hI hk] at this
  exact this
 have HT:Hid (∀ i w',Mid W G0 b z mb mg w' x { v with bg:=(k:Int)+1,qw:=some i,t:=wtK x k 0 } ws o n→Calls Tryz.prog 45 #[.pointer (some ⟨b,0,none⟩),.int .i64 6,.func (.func 187) #[] #[]] w' fun e w'=>e=.returned (.tuple #[])∧Mid W G0 b z mb mg w' { x with part:=6 } { v with nx:=fnV 187,bg:=(k:Int)+1,qw:=some i,t:=wtK x k 0 } ws o n):=fun i w' q=>turnTo_fn q 6 rfl 187
 have HP:Hid (∀ i w',Mid W G0 b z mb mg w' x { v with qw:=some i,t:=wtK x k 0 } ws o n→Mid W G0 b z mb mg (w'.setCell ⟨b,17,none⟩ (.int .i64 ((k:Int)+1))) x { v with bg:=(k:Int)+1,qw:=some i,t:=wtK x k 0 } ws o n∧w'.cell? ⟨b,17,none⟩=some (.int .i64 (k:Int))∧w'.frozen? ⟨b,17,none⟩=false∧b<w'.heap.size):=fun i w' q=>⟨q.put 17 _ x _ rfl ⟨rfl,rfl,rfl⟩ ⟨rfl,rfl,rfl,rfl,rfl,rfl,rfl⟩,(q.cell 17).trans (by show some (Value.int .i64 v.bg)=_;rw [hbg]),q.free 17,q.ltB⟩
 have hb:=h.ltB
 have hwl2:(k:Int)<(x.was.length:Int):=by omega
 have hk2:(k:Int)<(x.m.buf.length:Int):=by omega
 have hne:((k:Int) == (x.m.buf.length:Int))=false:=by simp;omega
 have hk32:(k:Int)<1000:=by omega
 clear h hI hbg hk hwl hph
 generalize x.m.buf.length=bl at *
 generalize x.was.length=wl at *
 generalize x.was.getD k 0=u0 at *
 generalize bufC x k=c0 at *
 generalize bufX x k=y0 at *
 generalize wtK x k 0=t0 at *
 generalize Md.Cv.passV x.stamp=s0 at *
 generalize 3+x.b+3*x.a=p5 at *
 generalize 3+x.b=p4 at *
 go_enter Tryz.func157,Tryz.ntmps157
 go_upto_region 4 with (go_at_call 37;refine HW.out.mono ?_;rintro e w1 ⟨rfl,k1,k2⟩;have HQ:=Lib.hid k2;obtain ⟨lg,d0,d1⟩:=HTC.out _ k1;obtain ⟨_,⟨h0,h1,h2,h3,h4,h5⟩,h15,h17,hg,lg2,lb⟩:=HC.out _ k2;clear k1 k2 HW HTC)
 clear h0 h1 h2 h3 h4 h5 h15 h17 hg lg2 lb h9
 obtain ⟨w2,hw2⟩:∃ w2,w2=w1.alloc (.cells #[.int .i64 c0,.float .f64 y0] 99):=⟨_,rfl⟩
 rw [← hw2]
 have HB2:Hid (Below w.heap.size w w2.drew):=by rw [hw2];exact (HQ.out.alloc HQ.out.size _).trans ((Same.drew _).below _)
 have a0:w2.cell? ⟨w1.heap.size,0,none⟩=some (.int .i64 c0):=by rw [hw2];simp [go_sem]
 have a1:w2.cell? ⟨w1.heap.size,1,none⟩=some (.float .f64 y0):=by rw [hw2];simp [go_sem]
 have la:w1.heap.size<w2.heap.size:=by rw [hw2];simp
 clear hw2 lg d0 d1 HQ
 obtain ⟨hm,⟨h0,h1,h2,h3,h4,h5⟩,h15,h17,hg,lg2,lb⟩:=HC.out _ HB2.out
 have HM:=Lib.hid hm
 clear hm
 have lg3:g<w2.heap.size:=lg2
 have lb3:b<w2.heap.size:=lb
 refine wp_region_seqE (fun u=>(u.cell? ⟨b,0,none⟩=some (.int .i64 0)∧u.cell? ⟨b,1,none⟩=some (.int .i64 1)∧u.cell? ⟨b,2,none⟩=some (.int .i64 2)∧u.cell? ⟨b,3,none⟩=some (.int .i64 3)∧u.cell? ⟨b,4,none⟩=some (.int .i64 p4)∧u.cell? ⟨b,5,none⟩=some (.int .i64 p5))∧u.cell? ⟨b,15,none⟩=some (.slice (some ⟨g,0,none⟩) wl v.ch)∧u.cell? ⟨b,17,none⟩=some (.int .i64 (k:Int))∧u.cell? ⟨g,k,none⟩=some (.float .f64 u0)∧u.cell? ⟨w1.heap.size,0,none⟩=some (.int .i64 c0)∧u.cell? ⟨w1.heap.size,1,none⟩=some (.float .f64 y0) )  ((0,true)::(1,true)::(2,true)::(3,true)::(4,true)::(5,true)::(6,true)::(7,true)::(9,true)::(10,true)::(11,true)::(12,true)::(13,true)::(14,true)::(15,true)::(16,true)::(17,true)::(18,true)::(19,true)::(20,true)::(8,false)::(21,false)::(22,true)::(23,true)::(24,false)::[])  Md.Cv.follows13 (by kernel_rfl) (fun _ _ _ _ _ h=>h)  ⟨⟨h0,h1,h2,h3,h4,h5⟩,h15,h17,hg,a0,a1⟩ ?_
 (repeat (refine wpSeqE_take (v:=?_) rfl (by rfl) (fun wq hSq=>?_) ?_;rotate_left;(focus ((try dsimp only at hSq);go_simp;try with_reducible rfl));simp only [Act.put,List.setIfInBounds_toArray,List.set_cons_zero,List.set_cons_succ]))
 (refine wpSeqE_do rfl (by rfl) (fun KK hK=>?_);go_simp)
 refine (HNS.out _ HB2.out).mono ?_
 rintro e u1 ⟨rfl,hw⟩
 subst u1
 refine hK.out _ _ (fun _=>⟨⟨h0,h1,h2,h3,h4,h5⟩,h15,h17,hg,a0,a1⟩) ?_
 (clear hK KK;try simp only [Act.put,List.setIfInBounds_toArray,List.set_cons_zero,List.set_cons_succ])
 (refine wpSeqE_do rfl (by rfl) (fun KK hK=>?_);go_simp)
 refine (HWR.out _).mono ?_
 rintro e w3 ⟨i0,rfl,k1,k2,k3⟩
 have HN:=Lib.hid (HM.out.writeNew k3 k1 k2)
 have HV:=Lib.hid (HM.out.on k3)
 obtain ⟨q1,q2,q3,q4⟩:=HP.out _ _ HN.out
 have HN2:=Lib.hid q1
 have e18:w3.cell? ⟨b,18,none⟩=some (ptrV v.qw):=(HV.out.cell 18).trans rfl
 have f18:=HV.out.free 18
 have l18:=HV.out.ltB
 have ck:∀ (g j:Nat) (y:Value),g<w2.heap.size→w2.cell? ⟨g,j,none⟩=some y→w3.cell? ⟨g,j,none⟩=some y:=fun g j y hg hv=>(k3.cell (p:=⟨g,j,none⟩) hg).trans hv
 refine hK.out _ _ (fun _=>⟨⟨ck _ _ _ lb3 h0,ck _ _ _ lb3 h1,ck _ _ _ lb3 h2,ck _ _ _ lb3 h3,ck _ _ _ lb3 h4,ck _ _ _ lb3 h5⟩,ck _ _ _ lb3 h15,ck _ _ _ lb3 h17,ck _ _ _ lg3 hg,ck _ _ _ la a0,ck _ _ _ la a1⟩) ?_
 clear k1 k2 k3 ck q1
 (clear hK KK;try simp only [Act.put,List.setIfInBounds_toArray,List.set_cons_zero,List.set_cons_succ])
 (repeat (refine wpSeqE_take (v:=?_) rfl (by rfl) (fun wq hSq=>?_) ?_;rotate_left;(focus ((try dsimp only at hSq);go_simp;try with_reducible rfl));simp only [Act.put,List.setIfInBounds_toArray,List.set_cons_zero,List.set_cons_succ]))
 (refine wpSeqE_do rfl (by rfl) (fun KK hK=>?_);go_simp)
 refine hK.out _ _ (fun hn=>absurd rfl hn) ?_
 (clear hK KK;try simp only [Act.put])
 refine wpSeqE_nil ?_
 clear h0 h1 h2 h3 h4 h5 h15 h17 hg lg2 lb a0 a1 la lg3 lb3 e18 f18 l18
 go_wp2_with (go_at_call 45;refine (HT.out _ _ HN2.out).mono ?_;rintro e w4 ⟨rfl,k⟩;have HR:=Lib.hid k;clear k HT)
 go_end0
 exact ⟨rfl,i0,HR.out⟩
theorem scan_any (h:Mid W G0 b z mb mg w x v ws true n) {i0:Nat} (hq:v.qs=some i0) (hok:Md.Cv.SOk v.s) (hE:Md.Cv.sE v.s ws true=0) (hP:Md.Cv.sP v.s ws true=false) (hQ:Md.Cv.sQ v.s ws true n=up n) {s':Md.Cv.Ss} (hC:Md.Cv.sC v.s ws true=s') {dn:Bool} (hO:Md.Cv.sO v.s ws true=dn) {Q:World→Prop} (HQ:Hid (∀ u,Mid W G0 b z mb mg u x { v with s:=s' } ws false (up n)→dn=false→Q u)) (HN:Hid (∀ u,Mid W G0 b z mb mg u x { v with s:=s' } ws false (up n)→dn=true→Calls Tryz.prog 157 #[.pointer (some ⟨b,0,none⟩)] u fun e w'=>e=.returned (.tuple #[])∧Q w')):Calls Tryz.prog 143 #[.pointer (some ⟨b,0,none⟩),.pointer (some ⟨mb,0,none⟩)] w fun e w'=>e=.returned (.tuple #[])∧Q w':=by
 have HS:=Lib.hid (Md.Cv.sstep_any h.mem (h.raw.sc i0 hq) hok)
 rw [hE,hP,hQ,hC,hO] at HS
 have HM:Hid (∀ w',MemAt 95 w' mb mg ws false (up n)→Md.Cv.ScAt w' i0 s'→Md.Cv.Ch3 mb mg i0 w w'→Mid W G0 b z mb mg w' x { v with s:=s' } ws false (up n)):=fun w' k1 k2 k3=>h.scans hq k3 k1 k2
 have h16:w.cell? ⟨b,16,none⟩=some (.pointer (some ⟨i0,0,none⟩)):=(h.cell 16).trans (by show some (ptrV v.qs)=_;rw [hq];rfl)
 have hb:=h.ltB
 clear h hok hE hP hQ hC hO hq
 cases dn
 ·have HQ2:=Lib.hid (fun u k=>HQ.out u k rfl)
  clear HN HQ
  go_enter Tryz.func143,Tryz.ntmps143
  go_wp2_with (go_at_call 156;refine HS.out.mono ?_;rintro e w1 ⟨rfl,k1,k2,k3⟩;have HR:=Lib.hid (HQ2.out _ (HM.out _ k1 k2 k3));clear k1 k2 k3 HS HM)
  go_end0
  exact ⟨rfl,HR.out⟩
 ·have HN2:=Lib.hid (fun u k=>HN.out u k rfl)
  clear HN HQ
  go_enter Tryz.func143,Tryz.ntmps143
  go_wp2_with (first
   | (go_at_call 157;refine (HN2.out _ HR.out).mono ?_;rintro e w2 ⟨rfl,k⟩;have HZ:=Lib.hid k;clear k HN2)
   | (go_at_call 156;refine HS.out.mono ?_;rintro e w1 ⟨rfl,k1,k2,k3⟩;have HR:=Lib.hid (HM.out _ k1 k2 k3);clear k1 k2 k3 HS HM))
  go_end0
  exact ⟨rfl,HZ.out⟩
theorem write_any (h:Mid W G0 b z mb mg w x v ws true n) {i0:Nat} (hq:v.qw=some i0) (hE:Md.Ce.errW v.t ws true=0) {ws':List Int} (hL:Md.Ce.laidW v.t ws true=ws') (hO:Md.Ce.aftO (Md.Ce.errW v.t ws true) true=false) (hN:Md.Ce.aftN (Md.Ce.errW v.t ws true) n=up n) {t':Md.Ce.Wt} (hC:Md.Ce.stepW v.t ws true=t') {dn:Bool} (hD:Md.Ce.endW v.t ws true=dn) {Q:World→Prop} (HQ:Hid (∀ u,Mid W G0 b z mb mg u x { v with t:=t' } ws' false (up n)→dn=false→Q u)) (HN:Hid (∀ u,Mid W G0 b z mb mg u x { v with t:=t' } ws' false (up n)→dn=true→Calls Tryz.prog 157 #[.pointer (some ⟨b,0,none⟩)] u fun e w'=>e=.returned (.tuple #[])∧Q w')):Calls Tryz.prog 187 #[.pointer (some ⟨b,0,none⟩),.pointer (some ⟨mb,0,none⟩)] w fun e w'=>e=.returned (.tuple #[])∧Q w':=by
 have hne:i0≠mb∧i0≠mg:=by
  obtain ⟨_,_,h3,_⟩:=h
  exact ⟨fun e=>h3 mb (by simp) (e ▸ in_w hq),fun e=>h3 mg (by simp) (e ▸ in_w hq)⟩
 have HS:=Lib.hid (Md.Ce.wstep_any h.mem (h.raw.wr i0 hq) hne.1 hne.2)
 rw [hO,hN,hL,hC,hD,hE] at HS
 have HM:Hid (∀ w',MemAt 95 w' mb mg ws' false (up n)→Md.Ce.WtAt w' i0 t'→Md.Ce.Ch [mb,mg,i0] w w'→Mid W G0 b z mb mg w' x { v with t:=t' } ws' false (up n)):=fun w' k1 k2 k3=>h.writes hq k3 k1 k2
 have h18:w.cell? ⟨b,18,none⟩=some (.pointer (some ⟨i0,0,none⟩)):=(h.cell 18).trans (by show some (ptrV v.qw)=_;rw [hq];rfl)
 have hb:=h.ltB
 clear h hE hL hO hN hC hD hq hne
 cases dn
 ·have HQ2:=Lib.hid (fun u k=>HQ.out u k rfl)
  clear HN HQ
  go_enter Tryz.func187,Tryz.ntmps187
  go_wp2_with (go_at_call 200;refine HS.out.mono ?_;rintro e w1 ⟨rfl,k1,k2,k3⟩;have HR:=Lib.hid (HQ2.out _ (HM.out _ k1 k2 k3));clear k1 k2 k3 HS HM)
  go_end0
  exact ⟨rfl,HR.out⟩
 ·have HN2:=Lib.hid (fun u k=>HN.out u k rfl)
  clear HN HQ
  go_enter Tryz.func187,Tryz.ntmps187
  go_wp2_with (first
   | (go_at_call 157;refine (HN2.out _ HR.out).mono ?_;rintro e w2 ⟨rfl,k⟩;have HZ:=Lib.hid k;clear k HN2)
   | (go_at_call 200;refine HS.out.mono ?_;rintro e w1 ⟨rfl,k1,k2,k3⟩;have HR:=Lib.hid (HM.out _ k1 k2 k3);clear k1 k2 k3 HS HM))
  go_end0
  exact ⟨rfl,HZ.out⟩
end
end Go.Proofs.YteinilmecnlanabGreatDoor.Ww
namespace Go.Proofs.YteinilmecnlanabGreatDoor.Ww
open Go.ChangeShapes Go.WideShapes Go.ChangeAt Go.RowKit Num Rr
attribute [local go_sem] run_store_float Md.Ce.run_store_func Md.Ce.run_store_nilFunc
def Full (W:World) (G0:List Nat) (b:Nat) (z:Wz) (mb mg:Nat) (w:World) (x:Wx) (ws:List Int) (o:Bool) (n:Int):Prop:=∃ v,Mid W G0 b z mb mg w x v ws o n∧VOk x v
section
variable {W w w':World} {G0:List Nat} {b mb mg:Nat} {x:Wx} {z:Wz} {ws:List Int} {o:Bool} {n:Int}
theorem Full.on (h:Full W G0 b z mb mg w x ws o n) (k:Below w.heap.size w w'):Full W G0 b z mb mg w' x ws o n:=by
 obtain ⟨v,h,h2⟩:=h
 exact ⟨v,h.on k,h2⟩
theorem Full.raw (h:Full W G0 b z mb mg w x ws o n):∃ v,RawAt w b x z v∧VOk x v:=by
 obtain ⟨v,h,h2⟩:=h
 exact ⟨v,h.1,h2⟩
theorem wnext_any {v:Wv} (h:Mid W G0 b z mb mg w x v ws o n) (hI:InY x) {k:Nat} (hk:k≤x.m.buf.length) (hbg:v.bg=(k:Int)) (hnb:wrap64 v.nb=x.num):Calls Tryz.prog 157 #[.pointer (some ⟨b,0,none⟩)] w fun e w'=>e=.returned (.tuple #[])∧Full W G0 b z mb mg w' { x with at_:=3*k,part:=if k=x.m.buf.length then 7 else 6 } ws o n:=by
 by_cases e:k=x.m.buf.length
 ·rw [if_pos e]
  refine (wnext_end h (by rw [hbg,e])).mono ?_
  rintro r w' ⟨rfl,q⟩
  exact ⟨rfl,_,q.like rfl rfl rfl rfl,⟨rfl,(fun y=>by dsimp only at y;omega),(fun y=>by dsimp only at y;omega),(fun y=>by dsimp only at y;omega),hnb⟩⟩
 ·rw [if_neg e]
  refine (wnext_more h hI (by omega) hbg).mono ?_
  rintro r w' ⟨rfl,q⟩
  obtain ⟨i,q⟩:=q.out
  refine ⟨rfl,_,q.like rfl rfl rfl rfl,⟨rfl,(fun y=>by dsimp only at y;omega),(fun y=>by dsimp only at y;omega),fun _=>⟨⟨i,rfl⟩,?_,?_⟩,hnb⟩⟩
  ·dsimp only
   rw [show 3*k / 3=k by omega]
   rfl
  ·dsimp only
   rw [show 3*k / 3=k by omega,show 3*k % 3=0 by omega]
   rfl
theorem VOk.of {v v':Wv} {x x':Wx} (h:VOk x v) (h4:x.part≤4) (h4':x'.part≤4) (hn:v'.nx=nextV x'.part) (hb:v'.bg=v.bg) (hnb:v'.nb=v.nb) (hnum:x'.num=x.num):VOk x' v' :=
 ⟨hn,(fun y=>by omega),(fun _=>by rw [hb];exact h.b5 (by omega)),(fun y=>by omega),by rw [hnb,hnum];exact h.nb⟩
theorem part1_any (h:Full W G0 b z mb mg w x ws true n) (hI:InY x) (hp:x.part=1) (hl:plY x≤(ws.length:Int)):Calls Tryz.prog 46 #[.pointer (some ⟨b,0,none⟩),.pointer (some ⟨mb,0,none⟩)] w fun e w'=>e=.returned (.tuple #[])∧Full W G0 b z mb mg w' { x with tick:=wordAt ws 0,part:=2 } (ws.set 0 (Md.Cv.passV (wordAt ws 0))) false (up n):=by
 obtain ⟨v,h,hv⟩:=h
 have hb:=hI.cb
 have ha:=hI.ca
 unfold plY at hl
 refine (draw_any h (by omega)).mono ?_
 rintro r w' ⟨rfl,q⟩
 exact ⟨rfl,_,q,hv.of (by omega) (by show 2≤4;omega) rfl rfl rfl rfl⟩
theorem part2_any (h:Full W G0 b z mb mg w x ws true n) (hI:InY x) (hp:x.part=2) (hl:plY x≤(ws.length:Int)):Calls Tryz.prog 70 #[.pointer (some ⟨b,0,none⟩),.pointer (some ⟨mb,0,none⟩)] w fun e w'=>e=.returned (.tuple #[])∧Full W G0 b z mb mg w' (if wordAt ws 1=x.tick then { x with part:=3 } else x) ws false (up n):=by
 obtain ⟨v,h,hv⟩:=h
 have hb:=hI.cb
 have ha:=hI.ca
 unfold plY at hl
 by_cases e:wordAt ws 1=x.tick
 ·rw [if_pos e]
  refine (wait_any h (by omega) (decide_eq_true e)).mono ?_
  rintro r w' ⟨rfl,q⟩
  exact ⟨rfl,_,q,hv.of (by omega) (by show 3≤4;omega) rfl rfl rfl rfl⟩
 ·rw [if_neg e]
  refine (wait_any h (by omega) (decide_eq_false e)).mono ?_
  rintro r w' ⟨rfl,q⟩
  exact ⟨rfl,_,q,hv⟩
theorem part3_any (h:Full W G0 b z mb mg w x ws true n) (hI:InY x) (hp:x.part=3) (hl:plY x≤(ws.length:Int)):Calls Tryz.prog 90 #[.pointer (some ⟨b,0,none⟩),.pointer (some ⟨mb,0,none⟩)] w fun e w'=>e=.returned (.tuple #[])∧Full W G0 b z mb mg w' { x with stamp:=wordAt ws 2,part:=4 } ws false (up n):=by
 obtain ⟨v,h,hv⟩:=h
 have hb:=hI.cb
 have ha:=hI.ca
 unfold plY at hl
 refine (mark_any h (by omega)).mono ?_
 rintro r w' ⟨rfl,q⟩
 exact ⟨rfl,_,q,hv.of (by omega) (by show 4≤4;omega) rfl rfl rfl rfl⟩
theorem ask_cell (hI:InY x) (hp:x.part=4) (hk:(stepM x.m).2.kind=1∨(stepM x.m).2.kind=3):0≤(stepM x.m).2.cell∧(stepM x.m).2.cell<x.a:=by
 have h0:=hI.run (by omega)
 have hR:=hI.rest
 obtain ⟨lk,tr⟩:=step_turns hR.inv hR.nw h0
 have hb:=step_bufs hR.inv hR.nw h0
 have hc:=hI.cel
 rcases hk with hk | hk
 ·rcases tr with ⟨k4,_⟩ | ⟨_,e1,e2,e3,e4⟩ | ⟨k0,_⟩
  ·omega
  ·have hw:=(inv_step hR.inv).wait
   have:=lk.cells
   omega
  ·omega
 ·have:=rest_step hR (by omega)
  rcases hb with ⟨q,_⟩ | ⟨q,_⟩ | ⟨q,_⟩ | ⟨q,_⟩ | ⟨_,e,f,_⟩
  ·omega
  ·omega
  ·omega
  ·omega
  ·have m:(stepM x.m).2.cell∈cellsOfL (stepM x.m).1.buf:=by
    rw [e]
    exact hasC_mem.1 (by rw [hasC_put];simp)
   obtain ⟨t,ht,et⟩:=List.mem_map.1 m
   have:=this.cel t ht
   have:=lk.cells
   omega
theorem part4_any (h:Full W G0 b z mb mg w x ws true n) (hT:TabAt W G0) (hI:InY x) (hp:x.part=4) (hl:plY x≤(ws.length:Int)):Calls Tryz.prog 110 #[.pointer (some ⟨b,0,none⟩),.pointer (some ⟨mb,0,none⟩)] w fun e w'=>e=.returned (.tuple #[])∧Full W G0 b z mb mg w' (runY x ws).1 ws (!(runY x ws).2) (if (runY x ws).2 then up n else n):=by
 obtain ⟨v,h,hv⟩:=h
 have hR:=hI.rest
 have hfew:x.was.length≤1000:=by rw [hI.wlen];have h1:=hR.inv.few;have h2:=hR.inv.wmax;omega
 unfold runY
 by_cases k1:(stepM x.m).2.kind=1
 ·rw [if_pos k1]
  have hc:=ask_cell hI hp (.inl k1)
  refine (run_read h hT hR.inv (inv_step hR.inv) hI.ca hI.cb hl rfl rfl k1 hc.1 hc.2 rfl).mono ?_
  rintro r w' ⟨rfl,q⟩
  obtain ⟨F,q⟩:=q.out
  exact ⟨rfl,_,q,hv.of (by omega) (by show x.part≤4;omega) hv.nx rfl rfl rfl⟩
 ·rw [if_neg k1]
  by_cases k3:(stepM x.m).2.kind=3∧(stepM x.m).2.first=true
  ·rw [if_pos k3]
   have hc:=ask_cell hI hp (.inr k3.1)
   refine (run_first h hT hR.inv hI.ca hI.cb hl hfew rfl rfl k3.1 k3.2 hc.1 hc.2 rfl).mono ?_
   rintro r w' ⟨rfl,q⟩
   obtain ⟨F,p',c',q⟩:=q.out
   exact ⟨rfl,_,q,hv.of (by omega) (by show x.part≤4;omega) hv.nx rfl rfl rfl⟩
  ·rw [if_neg k3]
   by_cases k4:(stepM x.m).2.kind=4
   ·rw [if_pos k4]
    refine run_end h hT hR.inv rfl rfl k4 (Q:=fun w'=>Full W G0 b z mb mg w' _ ws true n) (Lib.hid fun u F hu=>?_)
    by_cases hh:(stepM x.m).1.how=1
    ·rw [if_pos hh]
     refine (wend_yes hu (by simp [hh])).mono ?_
     rintro r w' ⟨rfl,q⟩
     obtain ⟨i,q⟩:=q.out
     refine ⟨rfl,_,q,⟨rfl,fun _=>⟨⟨i,rfl⟩,rfl,rfl,rfl,?_⟩,fun _=>hv.b5 (by omega),(fun y=>by dsimp only at y;omega),hv.nb⟩⟩
     show (0:Int)=(x.at_:Int)
     rw [hI.at4 (by omega)]
     rfl
    ·rw [if_neg hh]
     refine (wend_no hu (by simp [hh])).mono ?_
     rintro r w' ⟨rfl,q⟩
     exact ⟨rfl,_,q,⟨rfl,(fun y=>by dsimp only at y;omega),(fun y=>by dsimp only at y;omega),(fun y=>by dsimp only at y;omega),hv.nb⟩⟩
   ·rw [if_neg k4]
    refine (run_go h hT hR.inv rfl rfl (by simpa using k1) ?_ (by simpa using k4)).mono ?_
    ·by_cases q3:(stepM x.m).2.kind=3
     ·refine .inr ⟨by simpa using q3,?_⟩
      cases hf:(stepM x.m).2.first with
      | false=>rfl
      | true=>exact absurd ⟨q3,hf⟩ k3
     ·exact .inl (by simpa using q3)
    ·rintro r w' ⟨rfl,q⟩
     obtain ⟨F,q⟩:=q.out
     exact ⟨rfl,_,q,hv.of (by omega) (by show x.part≤4;omega) hv.nx rfl rfl rfl⟩
theorem part5_any (h:Full W G0 b z mb mg w x ws true n) (hI:InY x) (hp:x.part=5) (hl:plY x≤(ws.length:Int)):Calls Tryz.prog 143 #[.pointer (some ⟨b,0,none⟩),.pointer (some ⟨mb,0,none⟩)] w fun e w'=>e=.returned (.tuple #[])∧Full W G0 b z mb mg w' (scanY x ws) ws false (up n):=by
 obtain ⟨v,h,hv⟩:=h
 obtain ⟨⟨i0,hq⟩,e1,e2,e3,e4⟩:=hv.s5 hp
 obtain ⟨g1,g2,g3,g4,g5,g6,g7⟩:=scan_rel (ws:=ws) hI hp hl e1 e2 e3 e4 n
 cases hL:letsY x ws with
 | false =>
  refine scan_any h hq g4 g1 g2 g3 (g7 hL) (dn:=false) (by rw [g5,hL];rfl) (Lib.hid fun u k _=>?_) (Lib.hid fun u k y=>by cases y)
  rw [scanY_no hL]
  exact ⟨_,k,⟨hv.nx,fun _=>⟨⟨i0,hq⟩,rfl,rfl,rfl,rfl⟩,hv.b5,(fun y=>by omega),hv.nb⟩⟩
 | true =>
  by_cases hb:((x.at_+1:Nat):Int)=x.b
  ·refine scan_any h hq g4 g1 g2 g3 (g6 hL) (dn:=true) (by rw [g5,hL];exact decide_eq_true hb) (Lib.hid fun u k y=>by cases y) (Lib.hid fun u k _=>?_)
   rw [scanY_end hL hb]
   have:=wnext_any k hI (k:=0) (Nat.zero_le _) (hv.b5 (by omega)) hv.nb
   have e:(if x.m.buf.length=0 then 7 else 6)=(if 0=x.m.buf.length then 7 else 6):=by
    by_cases q:x.m.buf.length=0
    ·rw [if_pos q,if_pos q.symm]
    ·rw [if_neg q,if_neg (fun y=>q y.symm)]
   rw [e]
   exact this
  ·refine scan_any h hq g4 g1 g2 g3 (g6 hL) (dn:=false) (by rw [g5,hL];exact decide_eq_false hb) (Lib.hid fun u k _=>?_) (Lib.hid fun u k y=>by cases y)
   rw [scanY_on hL hb]
   exact ⟨_,k.like rfl rfl rfl rfl,⟨hv.nx,fun _=>⟨⟨i0,hq⟩,rfl,rfl,rfl,rfl⟩,hv.b5,(fun y=>by dsimp only at y;omega),hv.nb⟩⟩
theorem part6_any (h:Full W G0 b z mb mg w x ws true n) (hI:InY x) (hp:x.part=6) (hl:plY x≤(ws.length:Int)):Calls Tryz.prog 187 #[.pointer (some ⟨b,0,none⟩),.pointer (some ⟨mb,0,none⟩)] w fun e w'=>e=.returned (.tuple #[])∧Full W G0 b z mb mg w' (backY x) (backW x ws) false (up n):=by
 obtain ⟨v,h,hv⟩:=h
 obtain ⟨⟨i0,hq⟩,e1,e2⟩:=hv.w6 hp
 have h6:=hI.at6 hp
 obtain ⟨g1,g2,g3,g4,g5,g6⟩:=write_rel (ws:=ws) hI hp hl n
 rw [← e2] at g1 g2 g3 g4 g5 g6
 unfold backY
 by_cases d:x.at_ % 3=2
 ·refine write_any h hq g1 g2 g5 g6 g3 (dn:=true) (by rw [g4];exact decide_eq_true d) (Lib.hid fun u k y=>by cases y) (Lib.hid fun u k _=>?_)
  have:=wnext_any k hI (k:=x.at_ / 3+1) (by omega) e1 hv.nb
  rw [show 3*(x.at_ / 3+1)=x.at_+1 by omega] at this
  have e:(if x.at_+1=3*x.m.buf.length then 7 else 6)=(if x.at_ / 3+1=x.m.buf.length then 7 else 6):=by
   by_cases q:x.at_+1=3*x.m.buf.length
   ·rw [if_pos q,if_pos (by omega)]
   ·rw [if_neg q,if_neg (by omega)]
  rw [e]
  exact this
 ·refine write_any h hq g1 g2 g5 g6 g3 (dn:=false) (by rw [g4];exact decide_eq_false d) (Lib.hid fun u k _=>?_) (Lib.hid fun u k y=>by cases y)
  rw [if_neg (by omega)]
  have a1:(x.at_+1) / 3=x.at_ / 3:=by omega
  have a2:(x.at_+1) % 3=x.at_ % 3+1:=by omega
  refine ⟨_,k.like (by unfold boxY;dsimp only;rw [hp]) rfl rfl rfl,⟨by rw [hv.nx,hp],(fun y=>by dsimp only at y;omega),(fun y=>by dsimp only at y;omega),fun _=>⟨⟨i0,hq⟩,?_,?_⟩,hv.nb⟩⟩
  ·dsimp only
   rw [a1]
   exact e1
  ·dsimp only
   rw [a1,a2]
   rfl
theorem part7_any (h:Full W G0 b z mb mg w x ws true n) (hI:InY x) (hl:plY x≤(ws.length:Int)):Calls Tryz.prog 184 #[.pointer (some ⟨b,0,none⟩),.pointer (some ⟨mb,0,none⟩)] w fun e w'=>e=.returned (.tuple #[])∧Full W G0 b z mb mg w' { x with num:=wrap64 (Md.Cv.passV x.stamp),part:=8 } (ws.set 2 (Md.Cv.passV x.stamp)) false (up n):=by
 obtain ⟨v,h,hv⟩:=h
 have hb:=hI.cb
 have ha:=hI.ca
 unfold plY at hl
 refine (publish_any h (by omega)).mono ?_
 rintro r w' ⟨rfl,q⟩
 exact ⟨rfl,_,q.like rfl rfl rfl rfl,⟨rfl,(fun y=>by dsimp only at y;omega),(fun y=>by dsimp only at y;omega),(fun y=>by dsimp only at y;omega),rfl⟩⟩
theorem part8_any (h:Full W G0 b z mb mg w x ws true n) (hI:InY x) (hl:plY x≤(ws.length:Int)):Calls Tryz.prog 141 #[.pointer (some ⟨b,0,none⟩),.pointer (some ⟨mb,0,none⟩)] w fun e w'=>e=.returned (.tuple #[])∧Full W G0 b z mb mg w' { x with part:=9 } (ws.set 1 (Md.Cv.passV x.tick)) false (up n):=by
 obtain ⟨v,h,hv⟩:=h
 have hb:=hI.cb
 have ha:=hI.ca
 unfold plY at hl
 refine (pass_any h (by omega)).mono ?_
 rintro r w' ⟨rfl,q⟩
 exact ⟨rfl,_,q,⟨rfl,(fun y=>by dsimp only at y;omega),(fun y=>by dsimp only at y;omega),(fun y=>by dsimp only at y;omega),hv.nb⟩⟩
theorem part_any (h:Full W G0 b z mb mg w x ws true n) (hT:TabAt W G0) (hI:InY x) (hp:x.part≠9) (hl:plY x≤(ws.length:Int)) {y:Wx} {ws':List Int} {ac:Bool} (hy:stepY0 x ws=(y,ws',ac)):Calls Tryz.prog (partF x.part) #[.pointer (some ⟨b,0,none⟩),.pointer (some ⟨mb,0,none⟩)] w fun e w'=>e=.returned (.tuple #[])∧Full W G0 b z mb mg w' y ws' (!ac) (if ac then up n else n):=by
 have hP:=hI.part
 unfold stepY0 at hy
 rcases (by omega:x.part=1∨x.part=2∨x.part=3∨x.part=4∨x.part=5∨x.part=6∨x.part=7∨x.part=8) with e | e | e | e | e | e | e | e
 ·rw [if_pos e] at hy
  cases hy
  rw [e]
  exact part1_any h hI e hl
 ·rw [if_neg (by omega),if_pos e] at hy
  cases hy
  rw [e]
  exact part2_any h hI e hl
 ·rw [if_neg (by omega),if_neg (by omega),if_pos e] at hy
  cases hy
  rw [e]
  exact part3_any h hI e hl
 ·rw [if_neg (by omega),if_neg (by omega),if_neg (by omega),if_pos e] at hy
  cases hy
  rw [e]
  exact part4_any h hT hI e hl
 ·rw [if_neg (by omega),if_neg (by omega),if_neg (by omega),if_neg (by omega),if_pos e] at hy
  cases hy
  rw [e]
  exact part5_any h hI e hl
 ·rw [if_neg (by omega),if_neg (by omega),if_neg (by omega),if_neg (by omega),if_neg (by omega),if_pos e] at hy
  cases hy
  rw [e]
  exact part6_any h hI e hl
 ·rw [if_neg (by omega),if_neg (by omega),if_neg (by omega),if_neg (by omega),if_neg (by omega),if_neg (by omega),if_pos e] at hy
  cases hy
  rw [e]
  exact part7_any h hI hl
 ·rw [if_neg (by omega),if_neg (by omega),if_neg (by omega),if_neg (by omega),if_neg (by omega),if_neg (by omega),if_neg (by omega)] at hy
  cases hy
  rw [e]
  exact part8_any h hI hl
end
section
variable {W w:World} {G0:List Nat} {b mb mg:Nat} {x:Wx} {z:Wz} {v:Wv} {ws:List Int} {o:Bool} {n:Int}
theorem Mid.lens (h:Mid W G0 b z mb mg w x v ws o n):w.cell? ⟨b,5,none⟩=some (.int .i64 (plY x)):=(h.cell 5).trans rfl
theorem step_over (h:Full W G0 b z mb mg w x ws o n) (hl:plY x≤(ws.length:Int)) (hp:x.part=9):Calls Tryz.prog 8 #[.pointer (some ⟨b,0,none⟩),.pointer (some ⟨mb,0,none⟩)] w fun e w'=>e=.returned (.tuple #[.bool false,.int .i64 3])∧Same w w':=by
 obtain ⟨v,h,hv⟩:=h
 have h5:=h.lens
 have hb:=h.ltB
 have HL:=Lib.hid (Md.len_any h.drew.mem)
 have HO:=Lib.hid (over_raw h.drew.raw hv.nx)
 rw [decide_eq_true (by omega)] at HO
 generalize plY x=pl at h5 hl
 have hlt:¬ (ws.length:Int)<pl:=by omega
 clear h hl hv hp
 go_enter Tryz.func8,Tryz.ntmps8
 go_wp2_with fail
 refine wp_region_seq (fun u=>u.cell? ⟨b,5,none⟩=some (.int .i64 pl) )  ((0,true)::(2,true)::(3,true)::(4,true)::(5,true)::(6,true)::(1,false)::(7,true)::[])  Md.Cv.follows13 (by kernel_rfl) (fun _ _ _ _ _ h=>h)  h5 ?_
 (repeat ((first | (refine wpSeq_take (v:=?_) rfl (by rfl) (fun wq hSq=>?_) ?_;rotate_left;(focus ((try dsimp only at hSq);go_simp;try with_reducible rfl))) | refine wpSeq_skip rfl (by rfl) ?_);simp only [Act.put,List.setIfInBounds_toArray,List.set_cons_zero,List.set_cons_succ]))
 (refine wpSeq_do rfl (by rfl) (fun KK hK=>?_);go_simp)
 refine HL.out.mono ?_
 rintro e w1 ⟨rfl,hw⟩
 subst w1
 refine hK.out _ _ h5 ?_
 (clear hK KK;try simp only [Act.put,List.setIfInBounds_toArray,List.set_cons_zero,List.set_cons_succ])
 (repeat ((first | (refine wpSeq_take (v:=?_) rfl (by rfl) (fun wq hSq=>?_) ?_;rotate_left;(focus ((try dsimp only at hSq);go_simp;try with_reducible rfl))) | refine wpSeq_skip rfl (by rfl) ?_);simp only [Act.put,List.setIfInBounds_toArray,List.set_cons_zero,List.set_cons_succ]))
 refine wpSeq_nil ?_
 go_wp2_with (go_at_call 25;refine HO.out.mono ?_;rintro e w2 ⟨rfl,hw⟩;subst w2)
 go_ret2
 exact ⟨rfl,Same.drew _⟩
theorem step_any (h:Full W G0 b z mb mg w x ws o n) (hT:TabAt W G0) (hI:InY x) (hp:x.part≠9) (hl:plY x≤(ws.length:Int)) (h0:0≤x.steps) (h1:x.steps≤1000000) {y:Wx} {ws':List Int} {ac:Bool} (hy:stepY x ws=(y,ws',ac)) :
  Calls Tryz.prog 8 #[.pointer (some ⟨b,0,none⟩),.pointer (some ⟨mb,0,none⟩)] w fun e w'=>e=.returned (.tuple #[.bool (decide ((y.part:Int)=9)),.int .i64 0])∧Full W G0 b z mb mg w' y ws' (!ac) (if ac then up n else n):=by
 obtain ⟨v,h,hv⟩:=h
 have h5:=h.lens
 have hb:=h.ltB
 have HL:=Lib.hid (Md.len_any h.drew.mem)
 have HO:=Lib.hid (over_raw h.drew.raw hv.nx)
 rw [decide_eq_false (by omega)] at HO
 have HOP:Hid (Calls Tryz.prog 26 #[.pointer (some ⟨mb,0,none⟩)] w.drew fun e w'=>e=.returned (.tuple #[])∧MemAt 95 w' mb mg ws true n∧Chg mb mg w.drew w'):=Md.open_any h.drew.mem
 have HM:Hid (∀ w',MemAt 95 w' mb mg ws true n→Chg mb mg w.drew w'→Mid W G0 b z mb mg w' x v ws true n):=fun w' k1 k2=>h.drew.memb k2 k1
 have HP:Hid (∀ w',Mid W G0 b z mb mg w' x v ws true n→Full W G0 b z mb mg (w'.setCell ⟨b,10,none⟩ (.int .i64 (x.steps+1))) (tickY x) ws true n):=fun w' k=>⟨v,k.put 10 _ (tickY x) v rfl ⟨rfl,rfl,rfl⟩ ⟨rfl,rfl,rfl,rfl,rfl,rfl,rfl⟩,hv.tick⟩
 obtain ⟨ff,hff⟩:∃ ff,partF x.part=ff:=⟨_,rfl⟩
 have hcall:=part_enter x.part
 have h12:Hid (∀ w',Mid W G0 b z mb mg w' x v ws true n→(w'.setCell ⟨b,10,none⟩ (.int .i64 (x.steps+1))).cell? ⟨b,12,none⟩=some (.func (.func ff) #[] #[])∧w'.cell? ⟨b,10,none⟩=some (.int .i64 x.steps)∧w'.frozen? ⟨b,10,none⟩=false∧b<w'.heap.size):=fun w' k=>by
  have q:=k.put 10 (.int .i64 (x.steps+1)) (tickY x) v rfl ⟨rfl,rfl,rfl⟩ ⟨rfl,rfl,rfl,rfl,rfl,rfl,rfl⟩
  refine ⟨(q.cell 12).trans ?_,(k.cell 10).trans rfl,k.free 10,k.ltB⟩
  show some v.nx=_
  rw [hv.nx,nextV_ne hp,hff]
  rfl
 have HF:Hid (∀ w',Full W G0 b z mb mg w' (tickY x) ws true n→Calls Tryz.prog ff #[.pointer (some ⟨b,0,none⟩),.pointer (some ⟨mb,0,none⟩)] w' fun e w2=>e=.returned (.tuple #[])∧Full W G0 b z mb mg w2 y ws' (!ac) (if ac then up n else n)):=fun w' k=>by
  have:=part_any k hT hI.tick hp hl hy
  rw [show partF (tickY x).part=ff from hff] at this
  exact this
 have HZ:Hid (∀ w',Full W G0 b z mb mg w' y ws' (!ac) (if ac then up n else n)→Calls Tryz.prog 25 #[.pointer (some ⟨b,0,none⟩)] w' fun e w2=>e=.returned (.bool (decide ((y.part:Int)=9)))∧w2=w'):=fun w' k=>by
  obtain ⟨v',k,kv⟩:=k.raw
  exact over_raw k kv.nx
 obtain ⟨o',ho⟩:∃ o',o'=!ac:=⟨_,rfl⟩
 obtain ⟨n',hn⟩:∃ n',n'=if ac then up n else n:=⟨_,rfl⟩
 rw [← ho,← hn] at HF HZ ⊢
 rw [hff] at hcall
 generalize plY x=pl at h5 hl
 have hlt:¬ (ws.length:Int)<pl:=by omega
 clear h hl hv hp hy hT hI hff ho hn
 go_enter Tryz.func8,Tryz.ntmps8
 go_wp2_with fail
 refine wp_region_seq (fun u=>u.cell? ⟨b,5,none⟩=some (.int .i64 pl) )  ((0,true)::(2,true)::(3,true)::(4,true)::(5,true)::(6,true)::(1,false)::(7,true)::[])  Md.Cv.follows13 (by kernel_rfl) (fun _ _ _ _ _ h=>h)  h5 ?_
 (repeat ((first | (refine wpSeq_take (v:=?_) rfl (by rfl) (fun wq hSq=>?_) ?_;rotate_left;(focus ((try dsimp only at hSq);go_simp;try with_reducible rfl))) | refine wpSeq_skip rfl (by rfl) ?_);simp only [Act.put,List.setIfInBounds_toArray,List.set_cons_zero,List.set_cons_succ]))
 (refine wpSeq_do rfl (by rfl) (fun KK hK=>?_);go_simp)
 refine HL.out.mono ?_
 rintro e w1 ⟨rfl,hw⟩
 subst w1
 refine hK.out _ _ h5 ?_
 (clear hK KK;try simp only [Act.put,List.setIfInBounds_toArray,List.set_cons_zero,List.set_cons_succ])
 (repeat ((first | (refine wpSeq_take (v:=?_) rfl (by rfl) (fun wq hSq=>?_) ?_;rotate_left;(focus ((try dsimp only at hSq);go_simp;try with_reducible rfl))) | refine wpSeq_skip rfl (by rfl) ?_);simp only [Act.put,List.setIfInBounds_toArray,List.set_cons_zero,List.set_cons_succ]))
 refine wpSeq_nil ?_
 go_wp2_with (first
  | (go_at_call 25;refine (HZ.out _ H4.out).mono ?_;rintro e w5 ⟨rfl,hw⟩;subst w5;clear HZ)
  | (go_at_call 25;refine HO.out.mono ?_;rintro e w2 ⟨rfl,hw⟩;subst w2;clear HO)
  | (go_at_call 26;refine HOP.out.mono ?_;rintro e w3 ⟨rfl,k1,k2⟩;have H3:=Lib.hid (HM.out _ k1 k2);obtain ⟨e12,e10,f10,l10⟩:=h12.out _ H3.out;clear k1 k2 HOP HM h12)
  | (refine (HF.out _ (HP.out _ H3.out)).mono ?_;rintro e w4 ⟨rfl,k⟩;have H4:=Lib.hid k;clear k HF HP H3))
 go_ret2
 exact ⟨rfl,H4.out⟩
end
end Go.Proofs.YteinilmecnlanabGreatDoor.Ww
namespace Go.Proofs.YteinilmecnlanabGreatDoor.Ww
open Go.ChangeShapes Go.WideShapes Go.ChangeAt Go.RowKit Num Rr
attribute [local go_sem] run_store_float frombits_run bits_run Md.Ce.run_store_func Md.Ce.run_store_nilFunc
def rowL (l:List Nat) (k n:Nat):List Nat:=(List.range n).map fun i=>if i<k then fixB (l.getD i 0) else 0
theorem rowL_len (l:List Nat) (k n:Nat):(rowL l k n).length=n:=by simp [rowL]
theorem rowL_zero (l:List Nat) (n:Nat):rowL l 0 n=List.replicate n 0:=by
 apply List.ext_getElem
 ·simp [rowL]
 ·intro i h1 h2
  simp [rowL]
theorem rowL_all {l:List Nat} {n:Nat} (h:l.length=n):rowL l n n=l.map fixB:=by
 apply List.ext_getElem
 ·simp [rowL,h]
 ·intro i h1 h2
  have hi:i<n:=by simpa [rowL] using h1
  simp [rowL,hi,h]
theorem rowL_set (l:List Nat) (k n:Nat):(rowL l k n).set k (fixB (l.getD k 0))=rowL l (k+1) n:=by
 apply List.ext_getElem
 ·simp [rowL]
 ·intro i h1 h2
  rw [List.getElem_set]
  by_cases e:k=i
  ·subst e
   simp [rowL]
  ·rw [if_neg e]
   simp only [rowL,List.getElem_map,List.getElem_range]
   by_cases q:i<k
   ·rw [if_pos q,if_pos (by omega)]
   ·rw [if_neg q,if_neg (by omega)]
theorem fMk (n:Nat) (hn:n≤256) (w:World):(Instr.makeSlice 27 (.int .i64 (n:Int)) (.int .i64 (n:Int))).run Tryz.prog w=.ok (.slice (some ⟨w.heap.size,0,none⟩) n n) (w.alloc (.cells (fls (List.replicate n 0)).toArray 64)):=by
 obtain ⟨i,hi,hz0,hz1,hz2⟩:=info_parts fInfo
 rw [run_make w 27 64 i (.float .f64 0) Tryz.underlying27 hi hz0 .i64 .i64 n n (by omega) (Int.le_refl _) (by rw [hz2];omega) (by omega)]
 have e:(madeCells (.float .f64 0:Value).cells (((n:Int)).toNat*i.size))=(fls (List.replicate n 0)).toArray:=by
  rw [hz1,Nat.mul_one,Int.toNat_natCast]
  apply Array.toList_inj.1
  rw [show (.float .f64 0:Value).cells=#[.float .f64 0] from rfl,toList_madeCells_one]
  simp [fls]
 rw [e,Int.toNat_natCast]
theorem row_made {w:World} {l:List Nat} {n:Nat} (hl:l.length=n) (hn:n≤256):RowAt 64 (w.alloc (.cells (fls l).toArray 64)) (some ⟨w.heap.size,0,none⟩) n (fls l):=⟨by
 rw [fls_len,hl]
 exact World.ownsRow_lit w _ n (Nat.zero_le _) (by unfold maxLen;omega) (by rw [List.size_toArray,fls_len,hl,Nat.mul_one])⟩
theorem fixed_any {w:World} {po:Option Addr} {l:List Nat} {k co:Nat} (hk:l.length=k) (hL:FlAt w po l) (hk8:k≤8):Calls Tryz.prog 44 #[.slice po k co] w fun e w'=>e=.returned (.slice (some ⟨w.heap.size,0,none⟩) k k)∧RowAt 64 w' (some ⟨w.heap.size,0,none⟩) k (fls (l.map fixB))∧Below w.heap.size w w':=by
 have hmk:=fMk k (by omega) w
 have HL0:Hid (∀ wr,Below w.heap.size w wr→FlAt wr po l):=fun wr h=>hL.on h
 have HE:Hid (rowL l k k=l.map fixB):=rowL_all hk
 have HS0:Hid (RowAt 64 (w.alloc (.cells (fls (List.replicate k 0)).toArray 64)) (some ⟨w.heap.size,0,none⟩) k (fls (rowL l 0 k))):=by
  have:=row_made (w:=w) (rowL_len l 0 k) (by omega)
  rw [rowL_zero] at this ⊢
  exact this
 have HAT:Hid (∀ (v x y s:Int) (w:World),Calls Tryz.prog 68 #[.agg #[.int .u64 v,.int .u64 x,.int .u64 y],.int .u64 s] w fun e w'=>e=.returned (.float .f64 (Md.Ce.atV v x y s))∧Below w.heap.size w w'):=Md.Ce.cat_any
 have HK:Hid (l.length=k):=hk
 clear hL hk
 go_enter Tryz.func44,Tryz.ntmps44
 go_wp2
 go_loopw [11] (fun vi wr=>∃ i:Nat,vi=.int .i64 i∧i≤k∧Hid (RowAt 64 wr (some ⟨w.heap.size,0,none⟩) k (fls (rowL l i k)))∧Hid (Below w.heap.size w wr)) (fun vi _=>k - (intOf vi).toNat)
 case atStart=>exact ⟨0,rfl,Nat.zero_le _,HS0.out,below_alloc w _⟩
 case round =>
  obtain ⟨i,rfl,hi,HR,HB⟩:=hrel
  by_cases hlt:i<k
  ·have hlt':(i:Int)<(k:Int):=by omega
   obtain ⟨g,o,rfl,hg,hx⟩:=HL0.out _ HB.out i (by rw [HK.out];exact hlt)
   have hAt:Hid (∀ y:Nat,Md.Ce.atV 0 (y:Int) 0 0=fixB y):=fun y=>by unfold Md.Ce.atV;rw [if_neg (by omega)];rfl
   have HS1:=Lib.hid (rowL_set l i k)
   generalize l.getD i 0=y at hx HS1
   obtain ⟨r0,r1,r2⟩:=row_get HR.out (j:=i) (v:=.float .f64 ((rowL l i k).getD i 0)) (by rw [fls_get (by rw [rowL_len];exact hlt)])
   have HD:Hid (∀ u,Below wr.heap.size wr u→u.cell? ⟨w.heap.size,i,none⟩=some (.float .f64 ((rowL l i k).getD i 0))∧u.frozen? ⟨w.heap.size,i,none⟩=false∧w.heap.size<u.heap.size∧RowAt 64 (u.setCell ⟨w.heap.size,i,none⟩ (.float .f64 (fixB y))) (some ⟨w.heap.size,0,none⟩) k (fls (rowL l (i+1) k))∧Below w.heap.size w (u.setCell ⟨w.heap.size,i,none⟩ (.float .f64 (fixB y)))):=fun u hu=>by
    have h1:=HR.out.on hu
    obtain ⟨a1,a2,a3⟩:=row_get h1 (j:=i) (v:=.float .f64 ((rowL l i k).getD i 0)) (by rw [fls_get (by rw [rowL_len];exact hlt)])
    have q:=(row_put h1 i (.float .f64 (fixB y))).1
    rw [fls_set,HS1.out] at q
    exact ⟨a1,a2,a3,q,(HB.out.trans (hu.mono HB.out.size)).setCell (Nat.le_refl _) _⟩
   clear HL0 HS0
   go_wp2_with (go_at_call 68;refine (HAT.out _ _ _ _ _).mono ?_;rintro e u ⟨rfl,hb⟩;rw [hAt.out];obtain ⟨a1,a2,a3,a4,a5⟩:=HD.out _ hb;have HZ:=Lib.hid (And.intro a4 a5);clear a4 a5 hb)
   exact ⟨⟨i+1,by first | rfl | (congr 1),by omega,HZ.out.1,HZ.out.2⟩,by simp [intOf];omega⟩
  ·have hlt':¬ (i:Int)<(k:Int):=by omega
   obtain rfl:i=k:=by omega
   have HZ:=Lib.hid HR.out
   rw [HE.out] at HZ
   go_wp2
   go_ret
   exact ⟨rfl,HZ.out,HB.out⟩
theorem heap_old {w:World} {o y:Obj} {k:Nat} (e:w.heap[k]?=some y):(w.alloc o).heap[k]?=some y:=(Below.heap_alloc _ _ _ (Array.getElem?_eq_some_iff.1 e).1).trans e
theorem cells6 {w:World} {x:Nat} {v0 v1 v2 v3 v4 v5:Value} {T:TypeId} (h:w.heap[x]?=some (.cells #[v0,v1,v2,v3,v4,v5] T (0,0))):w.cell? ⟨x,0,none⟩=some v0∧w.cell? ⟨x,1,none⟩=some v1∧w.cell? ⟨x,2,none⟩=some v2∧w.cell? ⟨x,3,none⟩=some v3∧w.cell? ⟨x,4,none⟩=some v4∧w.cell? ⟨x,5,none⟩=some v5∧x<w.heap.size :=
 ⟨(cell_of_row w x 0 _ _ _ h).trans rfl,(cell_of_row w x 1 _ _ _ h).trans rfl,(cell_of_row w x 2 _ _ _ h).trans rfl,(cell_of_row w x 3 _ _ _ h).trans rfl,(cell_of_row w x 4 _ _ _ h).trans rfl,(cell_of_row w x 5 _ _ _ h).trans rfl,lt_of_block h⟩
theorem cells4 {w:World} {x:Nat} {v0 v1 v2 v3:Value} {T:TypeId} (h:w.heap[x]?=some (.cells #[v0,v1,v2,v3] T (0,0))):w.cell? ⟨x,0,none⟩=some v0∧w.cell? ⟨x,1,none⟩=some v1∧w.cell? ⟨x,2,none⟩=some v2∧w.cell? ⟨x,3,none⟩=some v3∧x<w.heap.size :=
 ⟨(cell_of_row w x 0 _ _ _ h).trans rfl,(cell_of_row w x 1 _ _ _ h).trans rfl,(cell_of_row w x 2 _ _ _ h).trans rfl,(cell_of_row w x 3 _ _ _ h).trans rfl,lt_of_block h⟩
theorem cells2 {w:World} {x:Nat} {v0 v1:Value} {T:TypeId} (h:w.heap[x]?=some (.cells #[v0,v1] T (0,0))):w.cell? ⟨x,0,none⟩=some v0∧w.cell? ⟨x,1,none⟩=some v1∧x<w.heap.size :=
 ⟨(cell_of_row w x 0 _ _ _ h).trans rfl,(cell_of_row w x 1 _ _ _ h).trans rfl,lt_of_block h⟩
def newY (a b c e t:Int) (cs:List Ins) (l:List Nat) (th:Int):Wx:=⟨a,b,th,t,l.map fixB,newM a c e t cs l,0,1,0,0,[],0,0⟩
theorem new_inY {a b c e t:Int} {cs:List Ins} {l:List Nat} {th:Int} (hc:Md.cfgB a b c e=true) (hx:∀ k,k<cs.length→(ci cs k).x<18446744073709551616) (hl:∀ x∈l,x<18446744073709551616) (hk:l.length≤8) (ht:0≤th∧th<b):InY (newY a b c e t cs l th):=by
 obtain ⟨h1,h2,h3,h4⟩:=Md.cfgB_iff.1 hc
 have z:u64B 0:=⟨by decide,by decide⟩
 exact ⟨h1,h2,rfl,ht,new_rest hc hx hl,by show (l.map fixB).length≤8;simpa using hk,⟨by show 1≤1;omega,by show 1≤9;omega⟩,z,z,rfl,(fun v hv=>by cases hv),fun _=>rfl,(fun q=>by have q':5≤1:=q;omega),(fun q=>by have q':5≤1:=q;omega),fun _=>rfl,(fun q=>by have q':1=5:=q;omega),(fun q=>by have q':1=6:=q;omega)⟩
def mayX (a b c e:Int) (k:Nat) (th:Int):Bool:=Md.cfgB a b c e && decide (k≤8) && decide (0≤th∧th<b)
structure Made (w w':World) (bx:Nat) (x:Wx):Prop where
 at_:∃ z v,RawAt w' bx x z v∧VOk x v∧Abv w.heap.size (gY bx v)∧Abv w.heap.size z.KK
 bl:Below w.heap.size w w'
section
variable {w:World} {a b c e t th:Int} {ao:Option Addr} {cs:List Ins} {n cap:Nat} {po:Option Addr} {l:List Nat} {k co:Nat}
abbrev wnewC (b p4 p5 t:Int) (pa k bm:Nat):Array Value:=#[.int .i64 0,.int .i64 1,.int .i64 2,.int .i64 3,.int .i64 p4,.int .i64 p5,.int .i64 b,.int .i64 t,.slice (some ⟨pa,0,none⟩) k k,.pointer (some ⟨bm,0,none⟩),.int .i64 0,.int .i64 0,.nilFunc,.int .u64 0,.int .u64 0,.slice none 0 0,.pointer none,.int .i64 0,.pointer none,.int .u64 0]
theorem turnTo_new {u:World} {g:Nat} {p4 p5:Int} {pa bm:Nat} (h:u.heap[g]?=some (.cells (wnewC b p4 p5 t pa k bm) 83 (0,0))) (f:FuncId):Calls Tryz.prog 45 #[.pointer (some ⟨g,0,none⟩),.int .i64 1,.func (.func f) #[] #[]] u fun e w'=>e=.returned (.tuple #[])∧w'=(u.setCell ⟨g,11,none⟩ (.int .i64 1)).setCell ⟨g,12,none⟩ (.func (.func f) #[] #[]):=by
 have h11:u.cell? ⟨g,11,none⟩=some (.int .i64 0):=(cell_of_row u g 11 _ _ _ h).trans rfl
 have f11:=frozen_of_row u g 11 _ _ h
 have h1:=heap_setCell_same u g 11 _ _ (.int .i64 1) h
 have h12:(u.setCell ⟨g,11,none⟩ (.int .i64 1)).cell? ⟨g,12,none⟩=some .nilFunc:=(cell_of_row _ g 12 _ _ _ h1).trans rfl
 have f12:=frozen_of_row _ g 12 _ _ h1
 have hb:=lt_of_block h
 clear h h1
 go_enter Tryz.func45,Tryz.ntmps45
 go_wp2
 go_end0
 exact ⟨rfl,rfl⟩
theorem made_of {u2 u3:World} {bm:Nat} {K:List Nat} {N:World} (hk:l.length=k) (hN:Below w.heap.size w N) (g:Gm N [] bm K u2 (newM a c e t cs l)) (hK:Abv N.heap.size K) (hr:RowAt 64 u3 (some ⟨u2.heap.size,0,none⟩) k (fls (l.map fixB))) (hb:Below u2.heap.size u2 u3) {v:World} (hv:v=(((u3.alloc (.cells (wnewC b (3+b) (3+b+3*a) t u2.heap.size k bm) 83)).setCell ⟨u3.heap.size,11,none⟩ (.int .i64 1)).setCell ⟨u3.heap.size,12,none⟩ (.func (.func 46) #[] #[]))):Made w v u3.heap.size (newY a b c e t cs l th):=by
 obtain ⟨F,hM,tF⟩:=g.mc
 have lo:Abv N.heap.size F:=fun i hi=>(tF.own i hi).elim (fun q=>by simp at q) id
 have sN:=hN.size
 have s2:=tF.size
 have s3:=hb.size
 have lF:=hM.blw
 have lK:=hM.blwK
 have lr:=hr.blw
 have hbx:v.heap[u3.heap.size]?=some (.cells (boxY (newY a b c e t cs l th) ⟨bm,K,some ⟨u2.heap.size,0,none⟩,k⟩ ⟨none,0,none,⟨0,0,0,0,0⟩,none,⟨0,0,0,0,0,0⟩,0,0,fnV 46,F⟩) 83 (0,0)):=by
  have h0:(u3.alloc (.cells (wnewC b (3+b) (3+b+3*a) t u2.heap.size k bm) 83)).heap[u3.heap.size]?=_:=heap_alloc_new _ _
  have h1:=heap_setCell_same _ u3.heap.size 11 _ _ (.int .i64 1) h0
  have h2:=heap_setCell_same _ u3.heap.size 12 _ _ (.func (.func 46) #[] #[]) h1
  rw [hv]
  refine h2.trans ?_
  unfold boxY newY ptrV fnV
  dsimp only
  rw [List.length_map,hk]
  rfl
 have kp:∀ i,i<u3.heap.size→v.heap[i]?=u3.heap[i]?:=fun i hi=>by
  rw [hv]
  exact (heap_setCell_other _ _ _ _ (fun (e:i=u3.heap.size)=>by omega)).trans ((heap_setCell_other _ _ _ _ (fun (e:i=u3.heap.size)=>by omega)).trans (Below.heap_alloc _ _ _ hi))
 have sv:u3.heap.size≤v.heap.size:=by rw [hv];simp
 have b3:Below u3.heap.size u3 v:=⟨by rw [hv];rfl,by rw [hv];rfl,by rw [hv];rfl,sv,kp⟩
 have b2:Below u2.heap.size u2 v:=hb.trans (b3.mono s3)
 refine ⟨⟨_,_,⟨hbx,hM.on b2,⟨World.ownsRow_nil _ _ _ _⟩,(fun n hn=>by cases hn),(fun n hn=>by cases hn),?_,?_⟩,⟨rfl,(fun q=>by cases q),fun _=>rfl,(fun q=>by cases q),(show wrap64 0=0 from by decide +kernel)⟩,?_,?_⟩,?_⟩
 ·exact hr.on b3
 ·intro i j hij y hy hz
  have A:∀ i y,y∈(LY u3.heap.size ⟨bm,K,some ⟨u2.heap.size,0,none⟩,k⟩ ⟨none,0,none,⟨0,0,0,0,0⟩,none,⟨0,0,0,0,0,0⟩,0,0,fnV 46,F⟩).getD i []→(i=0∧y=u3.heap.size)∨(i=4∧y∈F)∨(i=5∧(y∈K∨y=u2.heap.size)):=fun i y hy=>by
   match i,hy with
   | 0,hy=>exact .inl ⟨rfl,by simpa [LY] using hy⟩
   | 1,hy=>simp [LY,fpR] at hy
   | 2,hy=>simp [LY] at hy
   | 3,hy=>simp [LY] at hy
   | 4,hy=>exact .inr (.inl ⟨rfl,hy⟩)
   | 5,hy=>exact .inr (.inr ⟨rfl,by simpa [LY,Wz.KK,fpR,eq_comm] using hy⟩)
   | i+6,hy=>simp [LY] at hy
  have l2:u2.heap.size<u3.heap.size:=lr _ (by simp [fpR])
  have sK:=hM.sepK
  rcases A i y hy with ⟨h1,h2⟩ | ⟨h1,h2⟩ | ⟨h1,h2⟩ <;> rcases A j y hz with ⟨g1,g2⟩ | ⟨g1,g2⟩ | ⟨g1,g2⟩
  ·omega
  ·have:=lF y g2;omega
  ·rcases g2 with g2 | g2
   ·have:=lK y g2;omega
   ·omega
  ·have:=lF y h2;omega
  ·omega
  ·rcases g2 with g2 | g2
   ·exact sK y g2 h2
   ·have:=lF y h2;omega
  ·rcases h2 with h2 | h2
   ·have:=lK y h2;omega
   ·omega
  ·rcases h2 with h2 | h2
   ·exact sK y h2 g2
   ·have:=lF y g2;omega
  ·omega
 ·intro i hi
  rcases mem_gY.1 hi with hi | hi | hi | hi | hi
  ·omega
  ·simp [fpR] at hi
  ·cases hi
  ·cases hi
  ·have:=lo i hi;omega
 ·intro i hi
  have q':i∈K∨i=u2.heap.size:=by simpa [Wz.KK,fpR,eq_comm] using hi
  rcases q' with q' | q'
  ·have:=hK i q';omega
  ·omega
 ·have bN:Below N.heap.size N u2:=g.fresh
  exact hN.trans ((bN.trans (b2.mono s2)).mono sN)
theorem new_nil (h:(Md.cfgB a b c e && decide (k≤8))=false):Calls Tryz.prog 18 #[cfgV a b c e,.int .i64 th,.agg #[.int .i64 t,.slice ao n cap],.slice po k co] w fun r w'=>r=.returned (.pointer none)∧Below w.heap.size w w':=by
 have HN:Hid (∀ u,Calls Tryz.prog 43 #[cfgV a b c e,.agg #[.int .i64 t,.slice ao n cap],.slice po k co] u fun r w'=>r=.returned (.pointer none)∧Below u.heap.size u w'):=fun u=>mnew_nil h
 have HP:=Lib.hid (fun u=>Md.place_any a b c e u)
 have HX:Hid (∀ u,Below (newW w a b c e t ao n cap).heap.size (newW w a b c e t ao n cap) u→u.heap[w.heap.size]?=some (cfgO a b c e)∧u.heap[w.heap.size+1]?=some (prgO t ao n cap)∧Below w.heap.size w u):=fun u q=>⟨(q.block _ (by simp;omega)).trans (heap_old (heap_alloc_new _ _)),(q.block _ (by simp)).trans (heap_new (by simp)),(newW_boxes q).2.2⟩
 cases hc:Md.cfgB a b c e
 ·simp only [hc] at HP
  go_enter Tryz.func18,Tryz.ntmps18
  go_wp2_with (first
   | (go_at_call 43;refine (HN.out _).mono ?_;rintro e u2 ⟨rfl,q⟩;have H2:=Lib.hid (below_chain (H1.out.alloc H1.out.size _) q);clear q)
   | (go_at_call 42;refine (HP.out _).mono ?_;rintro e u1 ⟨rfl,q⟩;have H1:=Lib.hid q;obtain ⟨b0,b1,b3⟩:=HX.out _ q;obtain ⟨c0,c1,c2,c3,c4⟩:=cells4 b0;obtain ⟨d0,d1,d2⟩:=cells2 b1;clear b0 b1 b3 q))
  go_ret
  exact ⟨rfl,(HX.out _ H2.out).2.2⟩
 ·simp only [hc] at HP
  go_enter Tryz.func18,Tryz.ntmps18
  go_wp2_with (first
   | (go_at_call 43;refine (HN.out _).mono ?_;rintro e u2 ⟨rfl,q⟩;have H2:=Lib.hid (below_chain (H1.out.alloc H1.out.size _) q);clear q)
   | (go_at_call 42;refine (HP.out _).mono ?_;rintro e u1 ⟨rfl,q⟩;have H1:=Lib.hid q;obtain ⟨b0,b1,b3⟩:=HX.out _ q;obtain ⟨c0,c1,c2,c3,c4⟩:=cells4 b0;obtain ⟨d0,d1,d2⟩:=cells2 b1;clear b0 b1 b3 q))
  go_ret
  exact ⟨rfl,(HX.out _ H2.out).2.2⟩
theorem new_out (hc:Md.cfgB a b c e=true) (hn:cs.length=n) (hk:l.length=k) (hk8:k≤8) (hT:Shaped5 w) (hC:CodeAt w ao cs) (hL:FlAt w po l) (hnl:n≤9223372036854775807) (ht:¬ (0≤th∧th<b)):Calls Tryz.prog 18 #[cfgV a b c e,.int .i64 th,.agg #[.int .i64 t,.slice ao n cap],.slice po k co] w fun r w'=>r=.returned (.pointer none)∧Below w.heap.size w w':=by
 have HN:Hid (∀ u,Below w.heap.size w u→Calls Tryz.prog 43 #[cfgV a b c e,.agg #[.int .i64 t,.slice ao n cap],.slice po k co] u fun r w'=>∃ bm:Nat,r=.returned (.pointer (some ⟨bm,0,none⟩))∧Below u.heap.size u w'):=fun u hb=>(mnew_any hn hk (hT.on hb) (hC.on hb) (hL.on hb) hnl hc hk8).mono (by rintro r w' ⟨bm,K,q,g,_⟩;exact ⟨bm,q,g.fresh⟩)
 have HP:=Lib.hid (fun u=>Md.place_any a b c e u)
 have HX:Hid (∀ u,Below (newW w a b c e t ao n cap).heap.size (newW w a b c e t ao n cap) u→u.heap[w.heap.size]?=some (cfgO a b c e)∧u.heap[w.heap.size+1]?=some (prgO t ao n cap)∧Below w.heap.size w u):=fun u q=>⟨(q.block _ (by simp;omega)).trans (heap_old (heap_alloc_new _ _)),(q.block _ (by simp)).trans (heap_new (by simp)),(newW_boxes q).2.2⟩
 simp only [hc] at HP
 clear hc hn hk hk8 hT hC hL hnl
 by_cases h0:th<0
 ·go_enter Tryz.func18,Tryz.ntmps18
  go_wp2_with (first
   | (go_at_call 43;refine (HN.out _ (HX.out _ (H1.out.alloc H1.out.size _)).2.2).mono ?_;rintro e u2 ⟨br,rfl,q⟩;have H2:=Lib.hid (below_chain (H1.out.alloc H1.out.size _) q);clear q)
   | (go_at_call 42;refine (HP.out _).mono ?_;rintro e u1 ⟨rfl,q⟩;have H1:=Lib.hid q;obtain ⟨b0,b1,b3⟩:=HX.out _ q;obtain ⟨c0,c1,c2,c3,c4⟩:=cells4 b0;obtain ⟨d0,d1,d2⟩:=cells2 b1;clear b0 b1 b3 q))
  go_ret
  exact ⟨rfl,(HX.out _ H2.out).2.2⟩
 ·have h1:b≤th:=by omega
  go_enter Tryz.func18,Tryz.ntmps18
  go_wp2_with (first
   | (go_at_call 43;refine (HN.out _ (HX.out _ (H1.out.alloc H1.out.size _)).2.2).mono ?_;rintro e u2 ⟨br,rfl,q⟩;have H2:=Lib.hid (below_chain (H1.out.alloc H1.out.size _) q);obtain ⟨x0,x1,x2,x3,x4⟩:=cells4 (HX.out _ H2.out).1;clear q)
   | (go_at_call 42;refine (HP.out _).mono ?_;rintro e u1 ⟨rfl,q⟩;have H1:=Lib.hid q;obtain ⟨b0,b1,b3⟩:=HX.out _ q;obtain ⟨c0,c1,c2,c3,c4⟩:=cells4 b0;obtain ⟨d0,d1,d2⟩:=cells2 b1;clear b0 b1 b3 q))
  go_ret
  exact ⟨rfl,(HX.out _ H2.out).2.2⟩
theorem new_yes (hc:Md.cfgB a b c e=true) (hn:cs.length=n) (hk:l.length=k) (hk8:k≤8) (hT:Shaped5 w) (hC:CodeAt w ao cs) (hL:FlAt w po l) (hnl:n≤9223372036854775807) (h0:0≤th) (h1:th<b):Calls Tryz.prog 18 #[cfgV a b c e,.int .i64 th,.agg #[.int .i64 t,.slice ao n cap],.slice po k co] w fun r w'=>∃ bx,r=.returned (.pointer (some ⟨bx,0,none⟩))∧Made w w' bx (newY a b c e t cs l th):=by
 have HN:Hid (∀ u,Below w.heap.size w u→Calls Tryz.prog 43 #[cfgV a b c e,.agg #[.int .i64 t,.slice ao n cap],.slice po k co] u fun r w'=>∃ bm K,r=.returned (.pointer (some ⟨bm,0,none⟩))∧Gm u [] bm K w' (newM a c e t cs l)∧Abv u.heap.size K):=fun u hb=>mnew_any hn hk (hT.on hb) (hC.on hb) (hL.on hb) hnl hc hk8
 have HP:=Lib.hid (fun u=>Md.place_any a b c e u)
 have HX:Hid (∀ u,Below (newW w a b c e t ao n cap).heap.size (newW w a b c e t ao n cap) u→u.heap[w.heap.size]?=some (cfgO a b c e)∧u.heap[w.heap.size+1]?=some (prgO t ao n cap)∧Below w.heap.size w u):=fun u q=>⟨(q.block _ (by simp;omega)).trans (heap_old (heap_alloc_new _ _)),(q.block _ (by simp)).trans (heap_new (by simp)),(newW_boxes q).2.2⟩
 have HFX:Hid (∀ u,Below w.heap.size w u→Calls Tryz.prog 44 #[.slice po k co] u fun e w'=>e=.returned (.slice (some ⟨u.heap.size,0,none⟩) k k)∧RowAt 64 w' (some ⟨u.heap.size,0,none⟩) k (fls (l.map fixB))∧Below u.heap.size u w'):=fun u hb=>fixed_any hk (hL.on hb) hk8
 have HMD:Hid (∀ u2 u3 bm K N v,Below w.heap.size w N→Gm N [] bm K u2 (newM a c e t cs l)→Abv N.heap.size K→RowAt 64 u3 (some ⟨u2.heap.size,0,none⟩) k (fls (l.map fixB))→Below u2.heap.size u2 u3→v=(((u3.alloc (.cells (wnewC b (3+b) (3+b+3*a) t u2.heap.size k bm) 83)).setCell ⟨u3.heap.size,11,none⟩ (.int .i64 1)).setCell ⟨u3.heap.size,12,none⟩ (.func (.func 46) #[] #[]))→Made w v u3.heap.size (newY a b c e t cs l th)):=fun u2 u3 bm K N v q1 q2 q3 q4 q5 q6=>made_of hk q1 q2 q3 q4 q5 q6
 simp only [hc] at HP
 clear hc hn hk hk8 hT hC hL hnl
 generalize newY a b c e t cs l th=X at *
 generalize newM a c e t cs l=m0 at *
 obtain ⟨p5,h5⟩:∃ p5,3+b+3*a=p5:=⟨_,rfl⟩
 obtain ⟨p4,h4⟩:∃ p4,3+b=p4:=⟨_,rfl⟩
 rw [h5,h4] at HMD HP
 clear h4 h5
 go_enter Tryz.func18,Tryz.ntmps18
 go_wp2_with (first
  | (go_at_call 43;refine (HN.out _ (HX.out _ (H1.out.alloc H1.out.size _)).2.2).mono ?_;rintro e u2 ⟨bm,K,rfl,q1,q2⟩;have G2:=Lib.hid (And.intro q1 q2);have H2:=Lib.hid (below_chain (H1.out.alloc H1.out.size _) q1.fresh);obtain ⟨x0,x1,x2,x3,x4⟩:=cells4 (HX.out _ H2.out).1;obtain ⟨s0,s1,s2⟩:=cells2 (HX.out _ H2.out).2.1;obtain ⟨t0,t1,t2,t3,t4,t5,t6⟩:=cells6 ((q1.fresh.block _ (by simp)).trans (heap_alloc_new u1 (.cells #[.int .i64 0,.int .i64 1,.int .i64 2,.int .i64 3,.int .i64 p4,.int .i64 p5] 43)));clear q1 q2)
  | (go_at_call 42;refine (HP.out _).mono ?_;rintro e u1 ⟨rfl,q⟩;have H1:=Lib.hid q;obtain ⟨b0,b1,b3⟩:=HX.out _ q;obtain ⟨c0,c1,c2,c3,c4⟩:=cells4 b0;obtain ⟨d0,d1,d2⟩:=cells2 b1;clear b0 b1 b3 q))
 clear c0 c1 c2 c3 c4 d0 d1 d2 x0 x2 x3 s1
 have B2:Hid (Below w.heap.size w u2):=(HX.out _ H2.out).2.2
 refine wp_region_seq (fun u=>(u.cell? ⟨u1.heap.size,0,none⟩=some (.int .i64 0)∧u.cell? ⟨u1.heap.size,1,none⟩=some (.int .i64 1)∧u.cell? ⟨u1.heap.size,2,none⟩=some (.int .i64 2)∧u.cell? ⟨u1.heap.size,3,none⟩=some (.int .i64 3)∧u.cell? ⟨u1.heap.size,4,none⟩=some (.int .i64 p4)∧u.cell? ⟨u1.heap.size,5,none⟩=some (.int .i64 p5))∧u.cell? ⟨w.heap.size,1,none⟩=some (.int .i64 b)∧u.cell? ⟨w.heap.size+1,0,none⟩=some (.int .i64 t) )  ((0,true)::(1,true)::(2,true)::(3,true)::(4,true)::(5,true)::(7,true)::(6,false)::(8,true)::(9,false)::(10,true)::[])  Md.Cv.follows13 (by kernel_rfl) (fun _ _ _ _ _ h=>h)  ⟨⟨t0,t1,t2,t3,t4,t5⟩,x1,s0⟩ ?_
 (repeat ((first | (refine wpSeq_take (v:=?_) rfl (by rfl) (fun wq hSq=>?_) ?_;rotate_left;(focus ((try dsimp only at hSq);go_simp;try with_reducible rfl))) | refine wpSeq_skip rfl (by rfl) ?_);simp only [Act.put,List.setIfInBounds_toArray,List.set_cons_zero,List.set_cons_succ]))
 (refine wpSeq_do rfl (by rfl) (fun KK hK=>?_);go_simp)
 refine (HFX.out _ (B2.out.trans ((Same.drew u2).below _))).mono ?_
 rintro e u3 ⟨rfl,q1,q2⟩
 have H3:Hid (RowAt 64 u3 (some ⟨u2.heap.size,0,none⟩) k (fls (l.map fixB))∧Below u2.heap.size u2 u3):=⟨q1,((Same.drew u2).below _).trans q2⟩
 clear q1 q2
 have ck:∀ (g j:Nat) (v:Value),g<u2.heap.size→u2.cell? ⟨g,j,none⟩=some v→u3.cell? ⟨g,j,none⟩=some v:=fun g j v hg hv=>(H3.out.2.cell (p:=⟨g,j,none⟩) hg).trans hv
 have ck2:∀ (o:Obj) (g j:Nat) (v:Value),g<u2.heap.size→u2.cell? ⟨g,j,none⟩=some v→(u3.alloc o).cell? ⟨g,j,none⟩=some v:=fun o g j v hg hv=>(World.cell?_alloc_old _ _ _ (by have:=H3.out.2.size;show g≠u3.heap.size;omega)).trans (ck g j v hg hv)
 refine hK.out _ _ ⟨⟨ck _ _ _ t6 t0,ck _ _ _ t6 t1,ck _ _ _ t6 t2,ck _ _ _ t6 t3,ck _ _ _ t6 t4,ck _ _ _ t6 t5⟩,ck _ _ _ x4 x1,ck _ _ _ s2 s0⟩ ?_
 (clear hK KK;try simp only [Act.put,List.setIfInBounds_toArray,List.set_cons_zero,List.set_cons_succ])
 (repeat ((first | (refine wpSeq_take (v:=?_) rfl (by rfl) (fun wq hSq=>?_) ?_;rotate_left;(focus ((try dsimp only at hSq);go_simp;try with_reducible rfl))) | refine wpSeq_skip rfl (by rfl) ?_);simp only [Act.put,List.setIfInBounds_toArray,List.set_cons_zero,List.set_cons_succ]))
 (refine wpSeq_do rfl (by rfl) (fun KK hK=>?_);go_simp)
 refine hK.out _ _ ⟨⟨ck2 _ _ _ _ t6 t0,ck2 _ _ _ _ t6 t1,ck2 _ _ _ _ t6 t2,ck2 _ _ _ _ t6 t3,ck2 _ _ _ _ t6 t4,ck2 _ _ _ _ t6 t5⟩,ck2 _ _ _ _ x4 x1,ck2 _ _ _ _ s2 s0⟩ ?_
 clear ck ck2
 (clear hK KK;try simp only [Act.put,List.setIfInBounds_toArray,List.set_cons_zero,List.set_cons_succ])
 (repeat ((first | (refine wpSeq_take (v:=?_) rfl (by rfl) (fun wq hSq=>?_) ?_;rotate_left;(focus ((try dsimp only at hSq);go_simp;try with_reducible rfl))) | refine wpSeq_skip rfl (by rfl) ?_);simp only [Act.put,List.setIfInBounds_toArray,List.set_cons_zero,List.set_cons_succ]))
 refine wpSeq_nil ?_
 clear t0 t1 t2 t3 t4 t5 t6 x1 x4 s0 s2
 have HTT:Hid (Calls Tryz.prog 45 #[.pointer (some ⟨u3.heap.size,0,none⟩),.int .i64 1,.func (.func 46) #[] #[]] (u3.alloc (.cells (wnewC b p4 p5 t u2.heap.size k bm) 83)) fun e w'=>e=.returned (.tuple #[])∧w'=((u3.alloc (.cells (wnewC b p4 p5 t u2.heap.size k bm) 83)).setCell ⟨u3.heap.size,11,none⟩ (.int .i64 1)).setCell ⟨u3.heap.size,12,none⟩ (.func (.func 46) #[] #[])):=turnTo_new (heap_alloc_new _ _) 46
 go_wp2_with (go_at_call 45;refine HTT.out.mono ?_;rintro e u4 ⟨rfl,hu⟩;have HU:=Lib.hid hu;clear hu HTT)
 go_ret
 exact ⟨_,rfl,HMD.out _ _ _ _ _ _ (HX.out _ (H1.out.alloc H1.out.size _)).2.2 G2.out.1 G2.out.2 H3.out.1 H3.out.2 HU.out⟩
end
end Go.Proofs.YteinilmecnlanabGreatDoor.Ww
namespace Go.Proofs.YteinilmecnlanabGreatDoor.Ww
open Go.ChangeShapes Go.WideShapes Go.ChangeAt Go.RowKit Num Rr
attribute [local go_sem] run_store_float
structure Dd where
 pa:Option Addr
 ca:Nat
 pr:Option Addr
 cr:Nat
 pw:Option Addr
 cw:Nat
 po:Option Addr
 co:Nat
structure DdAt (w:World) (B:Nat) (D:Dd) (args:List Nat) (m:Mac):Prop where
 a:RowAt 64 w D.pa D.ca (fls args)
 r:TRow w D.pr D.cr m.reads
 wr:TRow w D.pw D.cw m.buf
 o:RowAt 64 w D.po D.co (fls m.out)
 xa:Abv B (fpR D.pa)
 xr:Abv B (fpR D.pr)
 xw:Abv B (fpR D.pw)
 xo:Abv B (fpR D.po)
theorem DdAt.on {w w':World} {B:Nat} {D:Dd} {args:List Nat} {m:Mac} (h:DdAt w B D args m) (k:Below w.heap.size w w'):DdAt w' B D args m:=⟨h.a.on k,h.r.on k,h.wr.on k,h.o.on k,h.xa,h.xr,h.xw,h.xo⟩
theorem DdAt.keep {w w':World} {B:Nat} {D:Dd} {args:List Nat} {m:Mac} (h:DdAt w B D args m) (k:∀ i,B≤i→i<w.heap.size→w'.heap[i]?=w.heap[i]?) (hs:w.heap.size≤w'.heap.size):DdAt w' B D args m :=
 ⟨h.a.keep ⟨hs,fun i hi=>k i (h.xa i hi) (h.a.blw i hi)⟩,h.r.keep ⟨hs,fun i hi=>k i (h.xr i hi) (h.r.blw i hi)⟩,h.wr.keep ⟨hs,fun i hi=>k i (h.xw i hi) (h.wr.blw i hi)⟩,h.o.keep ⟨hs,fun i hi=>k i (h.xo i hi) (h.o.blw i hi)⟩,h.xa,h.xr,h.xw,h.xo⟩
theorem DdAt.mono {w:World} {B B':Nat} {D:Dd} {args:List Nat} {m:Mac} (h:DdAt w B D args m) (k:B'≤B):DdAt w B' D args m:=⟨h.a,h.r,h.wr,h.o,h.xa.mono k,h.xr.mono k,h.xw.mono k,h.xo.mono k⟩
abbrev dC (t:Int) (na:Nat) (m:Mac) (D:Dd) (mark num e0 e1 e2 st:Int):Array Value:=#[.int .i64 0,.int .i64 0,.int .i64 0,.int .i64 t,.slice D.pa na D.ca,.int .i64 mark,.int .i64 num,.slice D.pr m.reads.length D.cr,.slice D.pw m.buf.length D.cw,.slice D.po m.out.length D.co,.int .i64 e0,.int .i64 e1,.int .i64 e2,.int .i64 0,.int .i64 0,.int .i64 st,.int .i64 0,.int .i64 0,.int .i64 0]
abbrev dZ:Obj:=.cells #[.int .i64 0,.int .i64 0,.int .i64 0,.int .i64 0,.slice none 0 0,.int .i64 0,.int .i64 0,.slice none 0 0,.slice none 0 0,.slice none 0 0,.int .i64 0,.int .i64 0,.int .i64 0,.int .i64 0,.int .i64 0,.int .i64 0,.int .i64 0,.int .i64 0,.int .i64 0] 59
theorem deed_back {fn:Func} {p:Tmp} (h:fn.results=#[.cell p 59]) {R:Ending→World→Prop} {a:Act} {w:World} (g:Nat) {t:Int} {na:Nat} {m:Mac} {D:Dd} {mark num e0 e1 e2 st:Int} (hp:a.tmps.getD p undef=.pointer (some ⟨g,0,none⟩))
  (hg:w.heap[g]?=some (.cells (dC t na m D mark num e0 e1 e2 st) 59 (0,0))) (hd:a.defers=[]) (hR:R (.returned (.agg (dC t na m D mark num e0 e1 e2 st))) w):bodyPost Tryz.prog fn R .ret a w :=
 bodyPost_ret (results_cell_row h _ _ g _ _ _ _ hp hg Tryz.underlying59 rfl (by kernel_rfl)) hd hR
theorem deedInfo:(Tryz.prog.info? 59).map (·.size)=some 19:=by kernel_rfl
theorem deed_one (t:Int) (na:Nat) (m:Mac) (D:Dd) (mark num e0 e1 e2 st:Int):(dC t na m D mark num e0 e1 e2 st).all (·.oneCell')=true:=by simp [Value.oneCell']
def markY (x:Wx):Int:=if x.part=1 then -1 else wrap64 x.tick
def endJ (x:Wx) (v:Int):Int:=if x.part=9 then v else 0
structure DdX (w:World) (B g:Nat) (D:Dd) (args:List Nat) (m:Mac):Prop where
 d:DdAt w B D args m
 na:g∉fpR D.pa
 nr:g∉fpR D.pr
 nw:g∉fpR D.pw
 no:g∉fpR D.po
theorem DdX.put {w:World} {B g:Nat} {D:Dd} {args:List Nat} {m:Mac} (h:DdX w B g D args m) (j:Nat) (v:Value):DdX (w.setCell ⟨g,j,none⟩ v) B g D args m :=
 ⟨⟨h.d.a.keep (keptB h.na),h.d.r.keep (keptB h.nr),h.d.wr.keep (keptB h.nw),h.d.o.keep (keptB h.no),h.d.xa,h.d.xr,h.d.xw,h.d.xo⟩,h.na,h.nr,h.nw,h.no⟩
theorem DdX.on {w w':World} {B g:Nat} {D:Dd} {args:List Nat} {m:Mac} (h:DdX w B g D args m) (k:Below w.heap.size w w'):DdX w' B g D args m:=⟨h.d.on k,h.na,h.nr,h.nw,h.no⟩
theorem keptR {F:List Nat} {w:World} {g:Nat} {x:Array Value} (h:g∉F):Kept F w (w.setRow g x):=⟨by simp,fun i hi=>setRow_other _ _ _ _ (fun (e:i=g)=>h (e ▸ hi))⟩
theorem not_old {u:World} {p:Option Addr} {g:Nat} (h:Blw u (fpR p)) (hg:u.heap.size≤g):g∉fpR p:=fun y=>by have:=h g y;omega
theorem not_new {p:Option Addr} {g B:Nat} (h:Abv B (fpR p)) (hg:g<B):g∉fpR p:=fun y=>by have:=h g y;omega
theorem two_below {a b c:World} (h:Below a.heap.size a b) (k:Below b.heap.size b c):Below a.heap.size a c:=h.trans (k.mono h.size)
section
variable {w:World} {b:Nat} {x:Wx} {z:Wz} {v:Wv}
theorem Deed_any (h:RawAt w b x z v) (hv:VOk x v) (hI:InY x) {na:Nat} (hna:x.args.length=na) {m:Mac} (hm:x.m=m) {mk nu e0 e1 e2:Int} (hk:markY x=mk) (hnu:x.num=nu) (h0:endJ x m.how=e0) (h1:endJ x m.cod=e1) (h2:endJ x m.err=e2):Calls Tryz.prog 13 #[.pointer (some ⟨b,0,none⟩)] w fun e w'=>∃ D,e=.returned (.agg (dC x.tag na m D mk nu e0 e1 e2 x.steps))∧DdAt w' w.heap.size D x.args m∧Below w.heap.size w w':=by
 subst hm
 have hf:=hI.few
 have ho:=hI.rest.inv.out
 have hr:=hI.rest.inv.reads
 have hu:=hI.rest.inv.used
 have hfu:=hI.rest.inv.fuel
 have hw0:(x.m.reads.length:Int)≤1024:=by split at hr <;> omega
 have HNB:Hid (wrap64 v.nb=nu):=hv.nb.trans hnu
 have HC:Hid (∀ u,Below w.heap.size w u→Calls Tryz.prog 32 #[.slice z.pa na z.ca] u fun e w'=>∃ p' c',e=.returned (.slice p' na c')∧RowAt 64 w' p' c' (fls x.args)∧Abv u.heap.size (fpR p')∧Below u.heap.size u w'):=fun u hu=>cloneOut (h.on hu).arg hna (by omega)
 have HR:Hid (∀ u,Below w.heap.size w u→Calls Tryz.prog 36 #[.pointer (some ⟨z.bm,0,none⟩)] u fun e w'=>∃ p' c',e=.returned (.slice p' x.m.reads.length c')∧TRow w' p' c' x.m.reads∧Abv u.heap.size (fpR p')∧Below u.heap.size u w'):=fun u hu=>reads_any (h.on hu).mac.gm (by omega)
 have HWR:Hid (∀ u,Below w.heap.size w u→Calls Tryz.prog 37 #[.pointer (some ⟨z.bm,0,none⟩)] u fun e w'=>∃ p' c',e=.returned (.slice p' x.m.buf.length c')∧TRow w' p' c' x.m.buf∧Abv u.heap.size (fpR p')∧Below u.heap.size u w'):=fun u hu=>(writes_any (h.on hu).mac.gm).mono (by rintro e w' ⟨q1,q2,q3⟩;exact ⟨_,_,q1,q2,(fun i hi=>by simp [fpR] at hi;omega),q3⟩)
 have HOU:Hid (∀ u,Below w.heap.size w u→Calls Tryz.prog 38 #[.pointer (some ⟨z.bm,0,none⟩)] u fun e w'=>∃ p' c',e=.returned (.slice p' x.m.out.length c')∧RowAt 64 w' p' c' (fls x.m.out)∧Abv u.heap.size (fpR p')∧Below u.heap.size u w'):=fun u hu=>out_any (h.on hu).mac.gm (by omega)
 have HB:Hid (∀ u,Below w.heap.size w u→u.cell? ⟨b,7,none⟩=some (.int .i64 x.tag)∧u.cell? ⟨b,8,none⟩=some (.slice z.pa na z.ca)∧u.cell? ⟨b,9,none⟩=some (.pointer (some ⟨z.bm,0,none⟩))∧u.cell? ⟨b,10,none⟩=some (.int .i64 x.steps)∧u.cell? ⟨b,19,none⟩=some (.int .u64 v.nb)):=fun u hu=>⟨((h.on hu).cell 7).trans rfl,((h.on hu).cell 8).trans (by rw [← hna];rfl),((h.on hu).cell 9).trans rfl,((h.on hu).cell 10).trans rfl,((h.on hu).cell 19).trans rfl⟩
 have HBP:Hid (∀ u,Below w.heap.size w u→u.cell? ⟨b,11,none⟩=some (.int .i64 (x.part:Int))∧u.cell? ⟨b,13,none⟩=some (.int .u64 x.tick)∧u.cell? ⟨b,9,none⟩=some (.pointer (some ⟨z.bm,0,none⟩))∧b<u.heap.size):=fun u hu=>⟨((h.on hu).cell 11).trans rfl,((h.on hu).cell 13).trans rfl,((h.on hu).cell 9).trans rfl,(h.on hu).ltB⟩
 have HO:Hid (∀ u,Below w.heap.size w u→Calls Tryz.prog 25 #[.pointer (some ⟨b,0,none⟩)] u fun e w'=>e=.returned (.bool (decide ((x.part:Int)=9)))∧w'=u):=fun u hu=>over_raw (h.on hu) hv.nx
 have HE:Hid (∀ u,Below w.heap.size w u→Calls Tryz.prog 39 #[.pointer (some ⟨z.bm,0,none⟩)] u fun e w'=>e=.returned (.agg #[.int .i64 x.m.how,.int .i64 x.m.cod,.int .i64 x.m.err])∧Below u.heap.size u w'):=fun u hu=>Go.Proofs.YteinilmecnlanabGreatDoor.end_any (h.on hu).mac.gm
 have HLB:Hid (b<w.heap.size):=h.ltB
 have hb:=h.ltB
 have HARG:=Lib.hid (show x.args=x.args from rfl)
 clear h hI hf ho hr hu hfu hw0 hna hv hnu HARG
 unfold markY at hk
 unfold endJ at h0 h1 h2
 generalize x.args=args at *
 generalize x.tag=tg at *
 generalize x.steps=st at *
 generalize v.nb=nb at *
 have H0:Hid (Below w.heap.size w (w.alloc dZ)∧(w.alloc dZ).heap[w.heap.size]?=some dZ∧w.heap.size<(w.alloc dZ).heap.size):=⟨below_alloc _ _,heap_alloc_new _ _,by simp⟩
 go_enter Tryz.func13,Tryz.ntmps13
 go_upto_region 1 with fail
 obtain ⟨w1,hw1⟩:∃ w1,w1=w.alloc dZ:=⟨_,rfl⟩
 rw [← hw1] at H0
 rw [show w.alloc (.cells #[.int .i64 0,.int .i64 0,.int .i64 0,.int .i64 0,.slice none 0 0,.int .i64 0,.int .i64 0,.slice none 0 0,.slice none 0 0,.slice none 0 0,.int .i64 0,.int .i64 0,.int .i64 0,.int .i64 0,.int .i64 0,.int .i64 0,.int .i64 0,.int .i64 0,.int .i64 0] 59)=w1 from hw1.symm]
 clear hw1
 go_cut [3] (fun v3 wc=>∃ g,v3=.pointer (some ⟨g,0,none⟩)∧Hid (∃ D,wc.heap[g]?=some (.cells (dC tg na x.m D (-1) nu 0 0 0 st) 59 (0,0))∧DdX wc (w.heap.size+1) g D args x.m∧Below w.heap.size w wc∧wc.heap[w.heap.size]?=some dZ∧w.heap.size<g))
 case first =>
  have HS1:=HB.out _ H0.out.1
  clear hk h0 h1 h2 HO HE HBP
  refine wp_region_fl (fun u=>u.cell? ⟨b,7,none⟩=some (.int .i64 tg)∧u.cell? ⟨b,8,none⟩=some (.slice z.pa na z.ca)∧u.cell? ⟨b,9,none⟩=some (.pointer (some ⟨z.bm,0,none⟩))∧u.cell? ⟨b,10,none⟩=some (.int .i64 st)∧u.cell? ⟨b,19,none⟩=some (.int .u64 nb)) ((0,true)::(1,true)::(2,true)::(3,true)::(4,true)::(5,true)::(6,true)::(7,true)::(9,true)::(10,true)::(11,true)::(12,true)::(13,true)::(14,true)::(15,true)::(16,true)::(17,true)::(19,true)::(20,true)::(21,true)::(22,true)::(24,true)::(25,true)::(26,true)::(27,true)::(29,true)::(30,true)::(31,true)::(32,true)::(8,false)::(18,false)::(23,false)::(28,false)::(33,true)::[]) 34 [(35,false)] Md.Cv.follows13 (by kernel_rfl) (fun _ _ _ _ _ h=>h) HS1 ?_
  (repeat (refine wpFl_take (v:=?_) rfl (by rfl) (fun wq hSq=>?_) ?_;rotate_left;(focus ((try dsimp only at hSq);go_simp;try with_reducible rfl));simp only [Act.put,List.setIfInBounds_toArray,List.set_cons_zero,List.set_cons_succ]))
  rw [Go.IntWalk.i64_left,HNB.out]
  obtain ⟨w2,hw2⟩:∃ w2,w2=w1.drew:=⟨_,rfl⟩
  have Bw2:Hid (Below w1.heap.size w1 w2):=by rw [hw2];exact (Same.drew w1).below _
  have Ww2:Hid (Below w.heap.size w w2):=two_below H0.out.1 Bw2.out
  rw [← hw2]
  clear hw2
  refine wpFl_do rfl (by rfl) (fun KK hK=>?_) ?_
  ·go_simp
   refine (HC.out _ Ww2.out).mono ?_
   rintro e u0 ⟨p0,c0,rfl,a1,a2,a3⟩
   have R0:Hid (_∧Abv w2.heap.size (fpR p0)∧Below w2.heap.size w2 u0):=⟨a1,a2,a3⟩
   have Bu0:=Lib.hid (two_below Bw2.out a3)
   have Wu0:=Lib.hid (two_below Ww2.out a3)
   clear a1 a2 a3
   refine hK.out _ _ (HB.out _ Wu0.out) ?_
   (clear hK KK;try simp only [Act.put,List.setIfInBounds_toArray,List.set_cons_zero,List.set_cons_succ])
   refine wpFl_do rfl (by rfl) (fun KK hK=>?_) ?_
   ·go_simp
    refine (HR.out _ Wu0.out).mono ?_
    rintro e u1 ⟨p1,c1,rfl,a1,a2,a3⟩
    have R1:Hid (_∧Abv u0.heap.size (fpR p1)∧Below u0.heap.size u0 u1):=⟨a1,a2,a3⟩
    have Bu1:=Lib.hid (two_below Bu0.out a3)
    have Wu1:=Lib.hid (two_below Wu0.out a3)
    clear a1 a2 a3
    refine hK.out _ _ (HB.out _ Wu1.out) ?_
    (clear hK KK;try simp only [Act.put,List.setIfInBounds_toArray,List.set_cons_zero,List.set_cons_succ])
    refine wpFl_do rfl (by rfl) (fun KK hK=>?_) ?_
    ·go_simp
     refine (HWR.out _ Wu1.out).mono ?_
     rintro e u2 ⟨p2,c2,rfl,a1,a2,a3⟩
     have R2:Hid (_∧Abv u1.heap.size (fpR p2)∧Below u1.heap.size u1 u2):=⟨a1,a2,a3⟩
     have Bu2:=Lib.hid (two_below Bu1.out a3)
     have Wu2:=Lib.hid (two_below Wu1.out a3)
     clear a1 a2 a3
     refine hK.out _ _ (HB.out _ Wu2.out) ?_
     (clear hK KK;try simp only [Act.put,List.setIfInBounds_toArray,List.set_cons_zero,List.set_cons_succ])
     refine wpFl_do rfl (by rfl) (fun KK hK=>?_) ?_
     ·go_simp
      refine (HOU.out _ Wu2.out).mono ?_
      rintro e u3 ⟨p3,c3,rfl,a1,a2,a3⟩
      have R3:Hid (_∧Abv u2.heap.size (fpR p3)∧Below u2.heap.size u2 u3):=⟨a1,a2,a3⟩
      have Bu3:=Lib.hid (two_below Bu2.out a3)
      have Wu3:=Lib.hid (two_below Wu2.out a3)
      clear a1 a2 a3
      refine hK.out _ _ (HB.out _ Wu3.out) ?_
      (clear hK KK;try simp only [Act.put,List.setIfInBounds_toArray,List.set_cons_zero,List.set_cons_succ])
      (repeat (refine wpFl_take (v:=?_) rfl (by rfl) (fun wq hSq=>?_) ?_;rotate_left;(focus ((try dsimp only at hSq);go_simp;try with_reducible rfl));simp only [Act.put,List.setIfInBounds_toArray,List.set_cons_zero,List.set_cons_succ]))
      refine wpFl_nil ?_
      (refine wpSeq_do rfl (by rfl) (fun KK hK=>?_);go_simp)
      obtain ⟨v4,hv4⟩:∃ v4,v4=u3.alloc dZ:=⟨_,rfl⟩
      have Av4:Hid (Below u3.heap.size u3 v4∧v4.heap[u3.heap.size]?=some dZ∧u3.heap.size<v4.heap.size):=by rw [hv4];exact ⟨below_alloc _ _,heap_alloc_new _ _,by simp⟩
      have Bv4:=Lib.hid (two_below Bu3.out Av4.out.1)
      have Wv4:=Lib.hid (two_below Wu3.out Av4.out.1)
      rw [show u3.alloc (.cells #[.int .i64 0,.int .i64 0,.int .i64 0,.int .i64 0,.slice none 0 0,.int .i64 0,.int .i64 0,.slice none 0 0,.slice none 0 0,.slice none 0 0,.int .i64 0,.int .i64 0,.int .i64 0,.int .i64 0,.int .i64 0,.int .i64 0,.int .i64 0,.int .i64 0,.int .i64 0] 59)=v4 from hv4.symm]
      clear hv4
      refine hK.out _ _ (HB.out _ Wv4.out) ?_
      (clear hK KK;try simp only [Act.put,List.setIfInBounds_toArray,List.set_cons_zero,List.set_cons_succ])
      have XB:Hid (v4.heap[u3.heap.size]?=some dZ):=((Below.refl v4.heap.size v4).block _ (lt_of_block Av4.out.2.1)).trans Av4.out.2.1
      have HDD:Hid (DdX (v4.setRow u3.heap.size (dC tg na x.m ⟨p0,c0,p1,c1,p2,c2,p3,c3⟩ (-1) nu 0 0 0 st)) (w.heap.size+1) u3.heap.size ⟨p0,c0,p1,c1,p2,c2,p3,c3⟩ args x.m):=⟨⟨(R0.out.1.on (two_below (two_below (two_below (two_below (Below.refl u0.heap.size u0) R1.out.2.2) R2.out.2.2) R3.out.2.2) Av4.out.1)).keep (keptR (not_old R0.out.1.blw (two_below (two_below (two_below (Below.refl u0.heap.size u0) R1.out.2.2) R2.out.2.2) R3.out.2.2).size)),(R1.out.1.on (two_below (two_below (two_below (Below.refl u1.heap.size u1) R2.out.2.2) R3.out.2.2) Av4.out.1)).keep (keptR (not_old R1.out.1.blw (two_below (two_below (Below.refl u1.heap.size u1) R2.out.2.2) R3.out.2.2).size)),(R2.out.1.on (two_below (two_below (Below.refl u2.heap.size u2) R3.out.2.2) Av4.out.1)).keep (keptR (not_old R2.out.1.blw (two_below (Below.refl u2.heap.size u2) R3.out.2.2).size)),(R3.out.1.on (two_below (Below.refl u3.heap.size u3) Av4.out.1)).keep (keptR (not_old R3.out.1.blw (Below.refl u3.heap.size u3).size)),R0.out.2.1.mono (by have:=Bw2.out.size;have:=H0.out.2.2;omega),R1.out.2.1.mono (by have:=Bu0.out.size;have:=H0.out.2.2;omega),R2.out.2.1.mono (by have:=Bu1.out.size;have:=H0.out.2.2;omega),R3.out.2.1.mono (by have:=Bu2.out.size;have:=H0.out.2.2;omega)⟩,not_old R0.out.1.blw (two_below (two_below (two_below (Below.refl u0.heap.size u0) R1.out.2.2) R2.out.2.2) R3.out.2.2).size,not_old R1.out.1.blw (two_below (two_below (Below.refl u1.heap.size u1) R2.out.2.2) R3.out.2.2).size,not_old R2.out.1.blw (two_below (Below.refl u2.heap.size u2) R3.out.2.2).size,not_old R3.out.1.blw (Below.refl u3.heap.size u3).size⟩
      have HGW:Hid (w.heap.size<u3.heap.size∧b≠u3.heap.size):=⟨by have:=Bu3.out.size;have:=H0.out.2.2;omega,fun y=>by have:=Wu3.out.size;have:=HLB.out;omega⟩
      refine wpSeq_do rfl (by rfl) (fun KK hK=>?_)
      refine wp_store_row 59 _ _ rfl u3.heap.size (dC tg na x.m ⟨p0,c0,p1,c1,p2,c2,p3,c3⟩ (-1) nu 0 0 0 st) rfl rfl _ _ XB.out deedInfo rfl (deed_one _ _ _ _ _ _ _ _ _ _) ?_
      obtain ⟨s7,s8,s9,s10,s19⟩:=HB.out _ Wv4.out
      have O:∀ j,(v4.setRow u3.heap.size (dC tg na x.m ⟨p0,c0,p1,c1,p2,c2,p3,c3⟩ (-1) nu 0 0 0 st)).cell? ⟨b,j,none⟩=v4.cell? ⟨b,j,none⟩:=fun j=>cell_setRow_other _ _ _ _ HGW.out.2
      refine hK.out _ _ ⟨(O 7).trans s7,(O 8).trans s8,(O 9).trans s9,(O 10).trans s10,(O 19).trans s19⟩ ?_
      clear O
      (clear hK KK;try simp only [Act.put])
      refine wpSeq_nil ?_
      go_wp2_with fail
      go_meet
      exact ⟨_,rfl,⟨p0,c0,p1,c1,p2,c2,p3,c3⟩,setRow_heap _ _ _ _ _ _ XB.out,HDD.out,Md.Ce.bl_setRow Wv4.out (by have:=HGW.out.1;omega) _,(setRow_other _ _ _ _ (by have:=HGW.out.1;omega)).trans ((Bv4.out.block _ H0.out.2.2).trans H0.out.2.1),HGW.out.1⟩
     ·rw [show ∀ (a b:List (Nat × Bool)),a ++ b=List.append a b from fun _ _=>rfl]
      dsimp only [List.append]
      (refine wpSeq_do rfl (by rfl) (fun KK hK=>?_);go_simp)
      obtain ⟨v3,hv3⟩:∃ v3,v3=u2.alloc dZ:=⟨_,rfl⟩
      have Av3:Hid (Below u2.heap.size u2 v3∧v3.heap[u2.heap.size]?=some dZ∧u2.heap.size<v3.heap.size):=by rw [hv3];exact ⟨below_alloc _ _,heap_alloc_new _ _,by simp⟩
      have Bv3:=Lib.hid (two_below Bu2.out Av3.out.1)
      have Wv3:=Lib.hid (two_below Wu2.out Av3.out.1)
      rw [show u2.alloc (.cells #[.int .i64 0,.int .i64 0,.int .i64 0,.int .i64 0,.slice none 0 0,.int .i64 0,.int .i64 0,.slice none 0 0,.slice none 0 0,.slice none 0 0,.int .i64 0,.int .i64 0,.int .i64 0,.int .i64 0,.int .i64 0,.int .i64 0,.int .i64 0,.int .i64 0,.int .i64 0] 59)=v3 from hv3.symm]
      clear hv3
      refine hK.out _ _ (HB.out _ Wv3.out) ?_
      (clear hK KK;try simp only [Act.put,List.setIfInBounds_toArray,List.set_cons_zero,List.set_cons_succ])
      (refine wpSeq_do rfl (by rfl) (fun KK hK=>?_);go_simp)
      refine (HOU.out _ Wv3.out).mono ?_
      rintro e u3 ⟨p3,c3,rfl,a1,a2,a3⟩
      have R3:Hid (_∧Abv v3.heap.size (fpR p3)∧Below v3.heap.size v3 u3):=⟨a1,a2,a3⟩
      have Bu3:=Lib.hid (two_below Bv3.out a3)
      have Wu3:=Lib.hid (two_below Wv3.out a3)
      clear a1 a2 a3
      refine hK.out _ _ (HB.out _ Wu3.out) ?_
      (clear hK KK;try simp only [Act.put,List.setIfInBounds_toArray,List.set_cons_zero,List.set_cons_succ])
      (repeat ((first | (refine wpSeq_take (v:=?_) rfl (by rfl) (fun wq hSq=>?_) ?_;rotate_left;(focus ((try dsimp only at hSq);go_simp;try with_reducible rfl))) | refine wpSeq_skip rfl (by rfl) ?_);simp only [Act.put,List.setIfInBounds_toArray,List.set_cons_zero,List.set_cons_succ]))
      have XB:Hid (u3.heap[u2.heap.size]?=some dZ):=((two_below (Below.refl v3.heap.size v3) R3.out.2.2).block _ (lt_of_block Av3.out.2.1)).trans Av3.out.2.1
      have HDD:Hid (DdX (u3.setRow u2.heap.size (dC tg na x.m ⟨p0,c0,p1,c1,p2,c2,p3,c3⟩ (-1) nu 0 0 0 st)) (w.heap.size+1) u2.heap.size ⟨p0,c0,p1,c1,p2,c2,p3,c3⟩ args x.m):=⟨⟨(R0.out.1.on (two_below (two_below (two_below (two_below (Below.refl u0.heap.size u0) R1.out.2.2) R2.out.2.2) Av3.out.1) R3.out.2.2)).keep (keptR (not_old R0.out.1.blw (two_below (two_below (Below.refl u0.heap.size u0) R1.out.2.2) R2.out.2.2).size)),(R1.out.1.on (two_below (two_below (two_below (Below.refl u1.heap.size u1) R2.out.2.2) Av3.out.1) R3.out.2.2)).keep (keptR (not_old R1.out.1.blw (two_below (Below.refl u1.heap.size u1) R2.out.2.2).size)),(R2.out.1.on (two_below (two_below (Below.refl u2.heap.size u2) Av3.out.1) R3.out.2.2)).keep (keptR (not_old R2.out.1.blw (Below.refl u2.heap.size u2).size)),(R3.out.1.on (Below.refl u3.heap.size u3)).keep (keptR (not_new R3.out.2.1 (Nat.lt_of_lt_of_le Av3.out.2.2 (Below.refl v3.heap.size v3).size))),R0.out.2.1.mono (by have:=Bw2.out.size;have:=H0.out.2.2;omega),R1.out.2.1.mono (by have:=Bu0.out.size;have:=H0.out.2.2;omega),R2.out.2.1.mono (by have:=Bu1.out.size;have:=H0.out.2.2;omega),R3.out.2.1.mono (by have:=Bv3.out.size;have:=H0.out.2.2;omega)⟩,not_old R0.out.1.blw (two_below (two_below (Below.refl u0.heap.size u0) R1.out.2.2) R2.out.2.2).size,not_old R1.out.1.blw (two_below (Below.refl u1.heap.size u1) R2.out.2.2).size,not_old R2.out.1.blw (Below.refl u2.heap.size u2).size,not_new R3.out.2.1 (Nat.lt_of_lt_of_le Av3.out.2.2 (Below.refl v3.heap.size v3).size)⟩
      have HGW:Hid (w.heap.size<u2.heap.size∧b≠u2.heap.size):=⟨by have:=Bu2.out.size;have:=H0.out.2.2;omega,fun y=>by have:=Wu2.out.size;have:=HLB.out;omega⟩
      refine wpSeq_do rfl (by rfl) (fun KK hK=>?_)
      refine wp_store_row 59 _ _ rfl u2.heap.size (dC tg na x.m ⟨p0,c0,p1,c1,p2,c2,p3,c3⟩ (-1) nu 0 0 0 st) rfl rfl _ _ XB.out deedInfo rfl (deed_one _ _ _ _ _ _ _ _ _ _) ?_
      obtain ⟨s7,s8,s9,s10,s19⟩:=HB.out _ Wu3.out
      have O:∀ j,(u3.setRow u2.heap.size (dC tg na x.m ⟨p0,c0,p1,c1,p2,c2,p3,c3⟩ (-1) nu 0 0 0 st)).cell? ⟨b,j,none⟩=u3.cell? ⟨b,j,none⟩:=fun j=>cell_setRow_other _ _ _ _ HGW.out.2
      refine hK.out _ _ ⟨(O 7).trans s7,(O 8).trans s8,(O 9).trans s9,(O 10).trans s10,(O 19).trans s19⟩ ?_
      clear O
      (clear hK KK;try simp only [Act.put])
      refine wpSeq_nil ?_
      go_wp2_with fail
      go_meet
      exact ⟨_,rfl,⟨p0,c0,p1,c1,p2,c2,p3,c3⟩,setRow_heap _ _ _ _ _ _ XB.out,HDD.out,Md.Ce.bl_setRow Wu3.out (by have:=HGW.out.1;omega) _,(setRow_other _ _ _ _ (by have:=HGW.out.1;omega)).trans ((Bu3.out.block _ H0.out.2.2).trans H0.out.2.1),HGW.out.1⟩
    ·rw [show ∀ (a b:List (Nat × Bool)),a ++ b=List.append a b from fun _ _=>rfl]
     dsimp only [List.append]
     (refine wpSeq_do rfl (by rfl) (fun KK hK=>?_);go_simp)
     obtain ⟨v2,hv2⟩:∃ v2,v2=u1.alloc dZ:=⟨_,rfl⟩
     have Av2:Hid (Below u1.heap.size u1 v2∧v2.heap[u1.heap.size]?=some dZ∧u1.heap.size<v2.heap.size):=by rw [hv2];exact ⟨below_alloc _ _,heap_alloc_new _ _,by simp⟩
     have Bv2:=Lib.hid (two_below Bu1.out Av2.out.1)
     have Wv2:=Lib.hid (two_below Wu1.out Av2.out.1)
     rw [show u1.alloc (.cells #[.int .i64 0,.int .i64 0,.int .i64 0,.int .i64 0,.slice none 0 0,.int .i64 0,.int .i64 0,.slice none 0 0,.slice none 0 0,.slice none 0 0,.int .i64 0,.int .i64 0,.int .i64 0,.int .i64 0,.int .i64 0,.int .i64 0,.int .i64 0,.int .i64 0,.int .i64 0] 59)=v2 from hv2.symm]
     clear hv2
     refine hK.out _ _ (HB.out _ Wv2.out) ?_
     (clear hK KK;try simp only [Act.put,List.setIfInBounds_toArray,List.set_cons_zero,List.set_cons_succ])
     (refine wpSeq_do rfl (by rfl) (fun KK hK=>?_);go_simp)
     refine (HWR.out _ Wv2.out).mono ?_
     rintro e u2 ⟨p2,c2,rfl,a1,a2,a3⟩
     have R2:Hid (_∧Abv v2.heap.size (fpR p2)∧Below v2.heap.size v2 u2):=⟨a1,a2,a3⟩
     have Bu2:=Lib.hid (two_below Bv2.out a3)
     have Wu2:=Lib.hid (two_below Wv2.out a3)
     clear a1 a2 a3
     refine hK.out _ _ (HB.out _ Wu2.out) ?_
     (clear hK KK;try simp only [Act.put,List.setIfInBounds_toArray,List.set_cons_zero,List.set_cons_succ])
     (refine wpSeq_do rfl (by rfl) (fun KK hK=>?_);go_simp)
     refine (HOU.out _ Wu2.out).mono ?_
     rintro e u3 ⟨p3,c3,rfl,a1,a2,a3⟩
     have R3:Hid (_∧Abv u2.heap.size (fpR p3)∧Below u2.heap.size u2 u3):=⟨a1,a2,a3⟩
     have Bu3:=Lib.hid (two_below Bu2.out a3)
     have Wu3:=Lib.hid (two_below Wu2.out a3)
     clear a1 a2 a3
     refine hK.out _ _ (HB.out _ Wu3.out) ?_
     (clear hK KK;try simp only [Act.put,List.setIfInBounds_toArray,List.set_cons_zero,List.set_cons_succ])
     (repeat ((first | (refine wpSeq_take (v:=?_) rfl (by rfl) (fun wq hSq=>?_) ?_;rotate_left;(focus ((try dsimp only at hSq);go_simp;try with_reducible rfl))) | refine wpSeq_skip rfl (by rfl) ?_);simp only [Act.put,List.setIfInBounds_toArray,List.set_cons_zero,List.set_cons_succ]))
     have XB:Hid (u3.heap[u1.heap.size]?=some dZ):=((two_below (two_below (Below.refl v2.heap.size v2) R2.out.2.2) R3.out.2.2).block _ (lt_of_block Av2.out.2.1)).trans Av2.out.2.1
     have HDD:Hid (DdX (u3.setRow u1.heap.size (dC tg na x.m ⟨p0,c0,p1,c1,p2,c2,p3,c3⟩ (-1) nu 0 0 0 st)) (w.heap.size+1) u1.heap.size ⟨p0,c0,p1,c1,p2,c2,p3,c3⟩ args x.m):=⟨⟨(R0.out.1.on (two_below (two_below (two_below (two_below (Below.refl u0.heap.size u0) R1.out.2.2) Av2.out.1) R2.out.2.2) R3.out.2.2)).keep (keptR (not_old R0.out.1.blw (two_below (Below.refl u0.heap.size u0) R1.out.2.2).size)),(R1.out.1.on (two_below (two_below (two_below (Below.refl u1.heap.size u1) Av2.out.1) R2.out.2.2) R3.out.2.2)).keep (keptR (not_old R1.out.1.blw (Below.refl u1.heap.size u1).size)),(R2.out.1.on (two_below (Below.refl u2.heap.size u2) R3.out.2.2)).keep (keptR (not_new R2.out.2.1 (Nat.lt_of_lt_of_le Av2.out.2.2 (Below.refl v2.heap.size v2).size))),(R3.out.1.on (Below.refl u3.heap.size u3)).keep (keptR (not_new R3.out.2.1 (Nat.lt_of_lt_of_le Av2.out.2.2 (two_below (Below.refl v2.heap.size v2) R2.out.2.2).size))),R0.out.2.1.mono (by have:=Bw2.out.size;have:=H0.out.2.2;omega),R1.out.2.1.mono (by have:=Bu0.out.size;have:=H0.out.2.2;omega),R2.out.2.1.mono (by have:=Bv2.out.size;have:=H0.out.2.2;omega),R3.out.2.1.mono (by have:=Bu2.out.size;have:=H0.out.2.2;omega)⟩,not_old R0.out.1.blw (two_below (Below.refl u0.heap.size u0) R1.out.2.2).size,not_old R1.out.1.blw (Below.refl u1.heap.size u1).size,not_new R2.out.2.1 (Nat.lt_of_lt_of_le Av2.out.2.2 (Below.refl v2.heap.size v2).size),not_new R3.out.2.1 (Nat.lt_of_lt_of_le Av2.out.2.2 (two_below (Below.refl v2.heap.size v2) R2.out.2.2).size)⟩
     have HGW:Hid (w.heap.size<u1.heap.size∧b≠u1.heap.size):=⟨by have:=Bu1.out.size;have:=H0.out.2.2;omega,fun y=>by have:=Wu1.out.size;have:=HLB.out;omega⟩
     refine wpSeq_do rfl (by rfl) (fun KK hK=>?_)
     refine wp_store_row 59 _ _ rfl u1.heap.size (dC tg na x.m ⟨p0,c0,p1,c1,p2,c2,p3,c3⟩ (-1) nu 0 0 0 st) rfl rfl _ _ XB.out deedInfo rfl (deed_one _ _ _ _ _ _ _ _ _ _) ?_
     obtain ⟨s7,s8,s9,s10,s19⟩:=HB.out _ Wu3.out
     have O:∀ j,(u3.setRow u1.heap.size (dC tg na x.m ⟨p0,c0,p1,c1,p2,c2,p3,c3⟩ (-1) nu 0 0 0 st)).cell? ⟨b,j,none⟩=u3.cell? ⟨b,j,none⟩:=fun j=>cell_setRow_other _ _ _ _ HGW.out.2
     refine hK.out _ _ ⟨(O 7).trans s7,(O 8).trans s8,(O 9).trans s9,(O 10).trans s10,(O 19).trans s19⟩ ?_
     clear O
     (clear hK KK;try simp only [Act.put])
     refine wpSeq_nil ?_
     go_wp2_with fail
     go_meet
     exact ⟨_,rfl,⟨p0,c0,p1,c1,p2,c2,p3,c3⟩,setRow_heap _ _ _ _ _ _ XB.out,HDD.out,Md.Ce.bl_setRow Wu3.out (by have:=HGW.out.1;omega) _,(setRow_other _ _ _ _ (by have:=HGW.out.1;omega)).trans ((Bu3.out.block _ H0.out.2.2).trans H0.out.2.1),HGW.out.1⟩
   ·rw [show ∀ (a b:List (Nat × Bool)),a ++ b=List.append a b from fun _ _=>rfl]
    dsimp only [List.append]
    (refine wpSeq_do rfl (by rfl) (fun KK hK=>?_);go_simp)
    obtain ⟨v1,hv1⟩:∃ v1,v1=u0.alloc dZ:=⟨_,rfl⟩
    have Av1:Hid (Below u0.heap.size u0 v1∧v1.heap[u0.heap.size]?=some dZ∧u0.heap.size<v1.heap.size):=by rw [hv1];exact ⟨below_alloc _ _,heap_alloc_new _ _,by simp⟩
    have Bv1:=Lib.hid (two_below Bu0.out Av1.out.1)
    have Wv1:=Lib.hid (two_below Wu0.out Av1.out.1)
    rw [show u0.alloc (.cells #[.int .i64 0,.int .i64 0,.int .i64 0,.int .i64 0,.slice none 0 0,.int .i64 0,.int .i64 0,.slice none 0 0,.slice none 0 0,.slice none 0 0,.int .i64 0,.int .i64 0,.int .i64 0,.int .i64 0,.int .i64 0,.int .i64 0,.int .i64 0,.int .i64 0,.int .i64 0] 59)=v1 from hv1.symm]
    clear hv1
    refine hK.out _ _ (HB.out _ Wv1.out) ?_
    (clear hK KK;try simp only [Act.put,List.setIfInBounds_toArray,List.set_cons_zero,List.set_cons_succ])
    (refine wpSeq_do rfl (by rfl) (fun KK hK=>?_);go_simp)
    refine (HR.out _ Wv1.out).mono ?_
    rintro e u1 ⟨p1,c1,rfl,a1,a2,a3⟩
    have R1:Hid (_∧Abv v1.heap.size (fpR p1)∧Below v1.heap.size v1 u1):=⟨a1,a2,a3⟩
    have Bu1:=Lib.hid (two_below Bv1.out a3)
    have Wu1:=Lib.hid (two_below Wv1.out a3)
    clear a1 a2 a3
    refine hK.out _ _ (HB.out _ Wu1.out) ?_
    (clear hK KK;try simp only [Act.put,List.setIfInBounds_toArray,List.set_cons_zero,List.set_cons_succ])
    (refine wpSeq_do rfl (by rfl) (fun KK hK=>?_);go_simp)
    refine (HWR.out _ Wu1.out).mono ?_
    rintro e u2 ⟨p2,c2,rfl,a1,a2,a3⟩
    have R2:Hid (_∧Abv u1.heap.size (fpR p2)∧Below u1.heap.size u1 u2):=⟨a1,a2,a3⟩
    have Bu2:=Lib.hid (two_below Bu1.out a3)
    have Wu2:=Lib.hid (two_below Wu1.out a3)
    clear a1 a2 a3
    refine hK.out _ _ (HB.out _ Wu2.out) ?_
    (clear hK KK;try simp only [Act.put,List.setIfInBounds_toArray,List.set_cons_zero,List.set_cons_succ])
    (refine wpSeq_do rfl (by rfl) (fun KK hK=>?_);go_simp)
    refine (HOU.out _ Wu2.out).mono ?_
    rintro e u3 ⟨p3,c3,rfl,a1,a2,a3⟩
    have R3:Hid (_∧Abv u2.heap.size (fpR p3)∧Below u2.heap.size u2 u3):=⟨a1,a2,a3⟩
    have Bu3:=Lib.hid (two_below Bu2.out a3)
    have Wu3:=Lib.hid (two_below Wu2.out a3)
    clear a1 a2 a3
    refine hK.out _ _ (HB.out _ Wu3.out) ?_
    (clear hK KK;try simp only [Act.put,List.setIfInBounds_toArray,List.set_cons_zero,List.set_cons_succ])
    (repeat ((first | (refine wpSeq_take (v:=?_) rfl (by rfl) (fun wq hSq=>?_) ?_;rotate_left;(focus ((try dsimp only at hSq);go_simp;try with_reducible rfl))) | refine wpSeq_skip rfl (by rfl) ?_);simp only [Act.put,List.setIfInBounds_toArray,List.set_cons_zero,List.set_cons_succ]))
    have XB:Hid (u3.heap[u0.heap.size]?=some dZ):=((two_below (two_below (two_below (Below.refl v1.heap.size v1) R1.out.2.2) R2.out.2.2) R3.out.2.2).block _ (lt_of_block Av1.out.2.1)).trans Av1.out.2.1
    have HDD:Hid (DdX (u3.setRow u0.heap.size (dC tg na x.m ⟨p0,c0,p1,c1,p2,c2,p3,c3⟩ (-1) nu 0 0 0 st)) (w.heap.size+1) u0.heap.size ⟨p0,c0,p1,c1,p2,c2,p3,c3⟩ args x.m):=⟨⟨(R0.out.1.on (two_below (two_below (two_below (two_below (Below.refl u0.heap.size u0) Av1.out.1) R1.out.2.2) R2.out.2.2) R3.out.2.2)).keep (keptR (not_old R0.out.1.blw (Below.refl u0.heap.size u0).size)),(R1.out.1.on (two_below (two_below (Below.refl u1.heap.size u1) R2.out.2.2) R3.out.2.2)).keep (keptR (not_new R1.out.2.1 (Nat.lt_of_lt_of_le Av1.out.2.2 (Below.refl v1.heap.size v1).size))),(R2.out.1.on (two_below (Below.refl u2.heap.size u2) R3.out.2.2)).keep (keptR (not_new R2.out.2.1 (Nat.lt_of_lt_of_le Av1.out.2.2 (two_below (Below.refl v1.heap.size v1) R1.out.2.2).size))),(R3.out.1.on (Below.refl u3.heap.size u3)).keep (keptR (not_new R3.out.2.1 (Nat.lt_of_lt_of_le Av1.out.2.2 (two_below (two_below (Below.refl v1.heap.size v1) R1.out.2.2) R2.out.2.2).size))),R0.out.2.1.mono (by have:=Bw2.out.size;have:=H0.out.2.2;omega),R1.out.2.1.mono (by have:=Bv1.out.size;have:=H0.out.2.2;omega),R2.out.2.1.mono (by have:=Bu1.out.size;have:=H0.out.2.2;omega),R3.out.2.1.mono (by have:=Bu2.out.size;have:=H0.out.2.2;omega)⟩,not_old R0.out.1.blw (Below.refl u0.heap.size u0).size,not_new R1.out.2.1 (Nat.lt_of_lt_of_le Av1.out.2.2 (Below.refl v1.heap.size v1).size),not_new R2.out.2.1 (Nat.lt_of_lt_of_le Av1.out.2.2 (two_below (Below.refl v1.heap.size v1) R1.out.2.2).size),not_new R3.out.2.1 (Nat.lt_of_lt_of_le Av1.out.2.2 (two_below (two_below (Below.refl v1.heap.size v1) R1.out.2.2) R2.out.2.2).size)⟩
    have HGW:Hid (w.heap.size<u0.heap.size∧b≠u0.heap.size):=⟨by have:=Bu0.out.size;have:=H0.out.2.2;omega,fun y=>by have:=Wu0.out.size;have:=HLB.out;omega⟩
    refine wpSeq_do rfl (by rfl) (fun KK hK=>?_)
    refine wp_store_row 59 _ _ rfl u0.heap.size (dC tg na x.m ⟨p0,c0,p1,c1,p2,c2,p3,c3⟩ (-1) nu 0 0 0 st) rfl rfl _ _ XB.out deedInfo rfl (deed_one _ _ _ _ _ _ _ _ _ _) ?_
    obtain ⟨s7,s8,s9,s10,s19⟩:=HB.out _ Wu3.out
    have O:∀ j,(u3.setRow u0.heap.size (dC tg na x.m ⟨p0,c0,p1,c1,p2,c2,p3,c3⟩ (-1) nu 0 0 0 st)).cell? ⟨b,j,none⟩=u3.cell? ⟨b,j,none⟩:=fun j=>cell_setRow_other _ _ _ _ HGW.out.2
    refine hK.out _ _ ⟨(O 7).trans s7,(O 8).trans s8,(O 9).trans s9,(O 10).trans s10,(O 19).trans s19⟩ ?_
    clear O
    (clear hK KK;try simp only [Act.put])
    refine wpSeq_nil ?_
    go_wp2_with fail
    go_meet
    exact ⟨_,rfl,⟨p0,c0,p1,c1,p2,c2,p3,c3⟩,setRow_heap _ _ _ _ _ _ XB.out,HDD.out,Md.Ce.bl_setRow Wu3.out (by have:=HGW.out.1;omega) _,(setRow_other _ _ _ _ (by have:=HGW.out.1;omega)).trans ((Bu3.out.block _ H0.out.2.2).trans H0.out.2.1),HGW.out.1⟩
  ·rw [show ∀ (a b:List (Nat × Bool)),a ++ b=List.append a b from fun _ _=>rfl]
   dsimp only [List.append]
   (refine wpSeq_do rfl (by rfl) (fun KK hK=>?_);go_simp)
   obtain ⟨v0,hv0⟩:∃ v0,v0=w2.alloc dZ:=⟨_,rfl⟩
   have Av0:Hid (Below w2.heap.size w2 v0∧v0.heap[w2.heap.size]?=some dZ∧w2.heap.size<v0.heap.size):=by rw [hv0];exact ⟨below_alloc _ _,heap_alloc_new _ _,by simp⟩
   have Bv0:=Lib.hid (two_below Bw2.out Av0.out.1)
   have Wv0:=Lib.hid (two_below Ww2.out Av0.out.1)
   rw [show w2.alloc (.cells #[.int .i64 0,.int .i64 0,.int .i64 0,.int .i64 0,.slice none 0 0,.int .i64 0,.int .i64 0,.slice none 0 0,.slice none 0 0,.slice none 0 0,.int .i64 0,.int .i64 0,.int .i64 0,.int .i64 0,.int .i64 0,.int .i64 0,.int .i64 0,.int .i64 0,.int .i64 0] 59)=v0 from hv0.symm]
   clear hv0
   refine hK.out _ _ (HB.out _ Wv0.out) ?_
   (clear hK KK;try simp only [Act.put,List.setIfInBounds_toArray,List.set_cons_zero,List.set_cons_succ])
   (refine wpSeq_do rfl (by rfl) (fun KK hK=>?_);go_simp)
   refine (HC.out _ Wv0.out).mono ?_
   rintro e u0 ⟨p0,c0,rfl,a1,a2,a3⟩
   have R0:Hid (_∧Abv v0.heap.size (fpR p0)∧Below v0.heap.size v0 u0):=⟨a1,a2,a3⟩
   have Bu0:=Lib.hid (two_below Bv0.out a3)
   have Wu0:=Lib.hid (two_below Wv0.out a3)
   clear a1 a2 a3
   refine hK.out _ _ (HB.out _ Wu0.out) ?_
   (clear hK KK;try simp only [Act.put,List.setIfInBounds_toArray,List.set_cons_zero,List.set_cons_succ])
   (refine wpSeq_do rfl (by rfl) (fun KK hK=>?_);go_simp)
   refine (HR.out _ Wu0.out).mono ?_
   rintro e u1 ⟨p1,c1,rfl,a1,a2,a3⟩
   have R1:Hid (_∧Abv u0.heap.size (fpR p1)∧Below u0.heap.size u0 u1):=⟨a1,a2,a3⟩
   have Bu1:=Lib.hid (two_below Bu0.out a3)
   have Wu1:=Lib.hid (two_below Wu0.out a3)
   clear a1 a2 a3
   refine hK.out _ _ (HB.out _ Wu1.out) ?_
   (clear hK KK;try simp only [Act.put,List.setIfInBounds_toArray,List.set_cons_zero,List.set_cons_succ])
   (refine wpSeq_do rfl (by rfl) (fun KK hK=>?_);go_simp)
   refine (HWR.out _ Wu1.out).mono ?_
   rintro e u2 ⟨p2,c2,rfl,a1,a2,a3⟩
   have R2:Hid (_∧Abv u1.heap.size (fpR p2)∧Below u1.heap.size u1 u2):=⟨a1,a2,a3⟩
   have Bu2:=Lib.hid (two_below Bu1.out a3)
   have Wu2:=Lib.hid (two_below Wu1.out a3)
   clear a1 a2 a3
   refine hK.out _ _ (HB.out _ Wu2.out) ?_
   (clear hK KK;try simp only [Act.put,List.setIfInBounds_toArray,List.set_cons_zero,List.set_cons_succ])
   (refine wpSeq_do rfl (by rfl) (fun KK hK=>?_);go_simp)
   refine (HOU.out _ Wu2.out).mono ?_
   rintro e u3 ⟨p3,c3,rfl,a1,a2,a3⟩
   have R3:Hid (_∧Abv u2.heap.size (fpR p3)∧Below u2.heap.size u2 u3):=⟨a1,a2,a3⟩
   have Bu3:=Lib.hid (two_below Bu2.out a3)
   have Wu3:=Lib.hid (two_below Wu2.out a3)
   clear a1 a2 a3
   refine hK.out _ _ (HB.out _ Wu3.out) ?_
   (clear hK KK;try simp only [Act.put,List.setIfInBounds_toArray,List.set_cons_zero,List.set_cons_succ])
   (repeat ((first | (refine wpSeq_take (v:=?_) rfl (by rfl) (fun wq hSq=>?_) ?_;rotate_left;(focus ((try dsimp only at hSq);go_simp;try with_reducible rfl))) | refine wpSeq_skip rfl (by rfl) ?_);simp only [Act.put,List.setIfInBounds_toArray,List.set_cons_zero,List.set_cons_succ]))
   have XB:Hid (u3.heap[w2.heap.size]?=some dZ):=((two_below (two_below (two_below (two_below (Below.refl v0.heap.size v0) R0.out.2.2) R1.out.2.2) R2.out.2.2) R3.out.2.2).block _ (lt_of_block Av0.out.2.1)).trans Av0.out.2.1
   have HDD:Hid (DdX (u3.setRow w2.heap.size (dC tg na x.m ⟨p0,c0,p1,c1,p2,c2,p3,c3⟩ (-1) nu 0 0 0 st)) (w.heap.size+1) w2.heap.size ⟨p0,c0,p1,c1,p2,c2,p3,c3⟩ args x.m):=⟨⟨(R0.out.1.on (two_below (two_below (two_below (Below.refl u0.heap.size u0) R1.out.2.2) R2.out.2.2) R3.out.2.2)).keep (keptR (not_new R0.out.2.1 (Nat.lt_of_lt_of_le Av0.out.2.2 (Below.refl v0.heap.size v0).size))),(R1.out.1.on (two_below (two_below (Below.refl u1.heap.size u1) R2.out.2.2) R3.out.2.2)).keep (keptR (not_new R1.out.2.1 (Nat.lt_of_lt_of_le Av0.out.2.2 (two_below (Below.refl v0.heap.size v0) R0.out.2.2).size))),(R2.out.1.on (two_below (Below.refl u2.heap.size u2) R3.out.2.2)).keep (keptR (not_new R2.out.2.1 (Nat.lt_of_lt_of_le Av0.out.2.2 (two_below (two_below (Below.refl v0.heap.size v0) R0.out.2.2) R1.out.2.2).size))),(R3.out.1.on (Below.refl u3.heap.size u3)).keep (keptR (not_new R3.out.2.1 (Nat.lt_of_lt_of_le Av0.out.2.2 (two_below (two_below (two_below (Below.refl v0.heap.size v0) R0.out.2.2) R1.out.2.2) R2.out.2.2).size))),R0.out.2.1.mono (by have:=Bv0.out.size;have:=H0.out.2.2;omega),R1.out.2.1.mono (by have:=Bu0.out.size;have:=H0.out.2.2;omega),R2.out.2.1.mono (by have:=Bu1.out.size;have:=H0.out.2.2;omega),R3.out.2.1.mono (by have:=Bu2.out.size;have:=H0.out.2.2;omega)⟩,not_new R0.out.2.1 (Nat.lt_of_lt_of_le Av0.out.2.2 (Below.refl v0.heap.size v0).size),not_new R1.out.2.1 (Nat.lt_of_lt_of_le Av0.out.2.2 (two_below (Below.refl v0.heap.size v0) R0.out.2.2).size),not_new R2.out.2.1 (Nat.lt_of_lt_of_le Av0.out.2.2 (two_below (two_below (Below.refl v0.heap.size v0) R0.out.2.2) R1.out.2.2).size),not_new R3.out.2.1 (Nat.lt_of_lt_of_le Av0.out.2.2 (two_below (two_below (two_below (Below.refl v0.heap.size v0) R0.out.2.2) R1.out.2.2) R2.out.2.2).size)⟩
   have HGW:Hid (w.heap.size<w2.heap.size∧b≠w2.heap.size):=⟨by have:=Bw2.out.size;have:=H0.out.2.2;omega,fun y=>by have:=Ww2.out.size;have:=HLB.out;omega⟩
   refine wpSeq_do rfl (by rfl) (fun KK hK=>?_)
   refine wp_store_row 59 _ _ rfl w2.heap.size (dC tg na x.m ⟨p0,c0,p1,c1,p2,c2,p3,c3⟩ (-1) nu 0 0 0 st) rfl rfl _ _ XB.out deedInfo rfl (deed_one _ _ _ _ _ _ _ _ _ _) ?_
   obtain ⟨s7,s8,s9,s10,s19⟩:=HB.out _ Wu3.out
   have O:∀ j,(u3.setRow w2.heap.size (dC tg na x.m ⟨p0,c0,p1,c1,p2,c2,p3,c3⟩ (-1) nu 0 0 0 st)).cell? ⟨b,j,none⟩=u3.cell? ⟨b,j,none⟩:=fun j=>cell_setRow_other _ _ _ _ HGW.out.2
   refine hK.out _ _ ⟨(O 7).trans s7,(O 8).trans s8,(O 9).trans s9,(O 10).trans s10,(O 19).trans s19⟩ ?_
   clear O
   (clear hK KK;try simp only [Act.put])
   refine wpSeq_nil ?_
   go_wp2_with fail
   go_meet
   exact ⟨_,rfl,⟨p0,c0,p1,c1,p2,c2,p3,c3⟩,setRow_heap _ _ _ _ _ _ XB.out,HDD.out,Md.Ce.bl_setRow Wu3.out (by have:=HGW.out.1;omega) _,(setRow_other _ _ _ _ (by have:=HGW.out.1;omega)).trans ((Bu3.out.block _ H0.out.2.2).trans H0.out.2.1),HGW.out.1⟩
 case rest =>
  obtain ⟨g,rfl,HQ⟩:=hcut
  obtain ⟨D,q1,q2,q3,q4,q5⟩:=HQ.out
  have X:=Lib.hid q1
  have XD:=Lib.hid q2
  have XB:=Lib.hid q3
  have XZ:=Lib.hid q4
  have XG:Hid (w.heap.size≠g∧w.heap.size≤g):=⟨by omega,by omega⟩
  obtain ⟨e11,e13,e9,eb⟩:=HBP.out _ q3
  clear HQ q1 q2 q3 q4 q5 HB HC HR HWR HOU HNB
  obtain ⟨mk',hmk'⟩:∃ mk',mk'=mk:=⟨_,rfl⟩
  have k5:wc.cell? ⟨g,5,none⟩=some (.int .i64 (-1)):=(cell_of_row _ _ 5 _ _ _ X.out).trans rfl
  have f5:=frozen_of_row wc g 5 _ _ X.out
  have lg:=lt_of_block X.out
  have HM:Hid (∀ u,u=(if x.part=1 then wc else wc.setCell ⟨g,5,none⟩ (.int .i64 (wrap64 x.tick)))→u.heap[g]?=some (.cells (dC tg na x.m D mk nu 0 0 0 st) 59 (0,0))∧DdX u (w.heap.size+1) g D args x.m∧Below w.heap.size w u∧u.heap[w.heap.size]?=some dZ):=fun u hu=>by
   by_cases e:x.part=1
   ·rw [if_pos e] at hu hk
    subst hu hk
    exact ⟨X.out,XD.out,XB.out,XZ.out⟩
   ·rw [if_neg e] at hu hk
    subst hu hk
    exact ⟨(heap_setCell_same wc g 5 _ _ _ X.out).trans rfl,XD.out.put _ _,XB.out.setCell XG.out.2 _,(heap_setCell_other _ _ _ _ XG.out.1).trans XZ.out⟩
  clear mk' hmk'
  have HFIN:Hid (∀ u a0 a1 a2,u.heap[g]?=some (.cells (dC tg na x.m D mk nu a0 a1 a2 st) 59 (0,0))∧DdX u (w.heap.size+1) g D args x.m∧Below w.heap.size w u∧u.heap[w.heap.size]?=some dZ→DdAt (u.setRow w.heap.size (dC tg na x.m D mk nu a0 a1 a2 st)) w.heap.size D args x.m∧Below w.heap.size w (u.setRow w.heap.size (dC tg na x.m D mk nu a0 a1 a2 st))):=fun u a0 a1 a2 q=>⟨(q.2.1.d.keep (fun i hi _=>setRow_other _ _ _ _ (by omega)) (by simp)).mono (by omega),Md.Ce.bl_setRow q.2.2.1 (Nat.le_refl _) _⟩
  by_cases p1:x.part=1
  ·have ne9:¬ (x.part:Int)=9:=by omega
   rw [if_neg (by omega)] at h0 h1 h2
   subst h0 h1 h2
   obtain ⟨y1,y2,y3,y4⟩:=HM.out wc (by rw [if_pos p1])
   have Y:=Lib.hid (And.intro y1 (And.intro y2 (And.intro y3 y4)))
   have t11:((x.part:Int) != 1)=false:=by simp [p1]
   rw [decide_eq_false ne9] at HO
   clear y1 y2 y3 y4 HM X XD XZ p1 hk k5 f5 ne9
   go_wp2_with (first
    | (refine wpList_store_row rfl 59 _ _ rfl w.heap.size (dC tg na x.m D mk nu 0 0 0 st) rfl rfl _ _ Y.out.2.2.2 deedInfo rfl (deed_one _ _ _ _ _ _ _ _ _ _) ?_)
    | (refine wpList_load_row rfl 59 _ rfl g rfl _ (dC tg na x.m D mk nu 0 0 0 st) _ _ Y.out.1 Tryz.underlying59 rfl deedInfo ?_)
    | (go_at_call 25;refine (HO.out _ XB.out).mono ?_;rintro e u3 ⟨rfl,hw⟩;subst u3))
   refine deed_back (D:=D) (m:=x.m) rfl w.heap.size rfl (setRow_heap _ _ _ _ _ _ Y.out.2.2.2) rfl ⟨_,rfl,?_⟩
   exact HFIN.out _ _ _ _ Y.out
  ·obtain ⟨u1,hu1⟩:∃ u1,u1=wc.setCell ⟨g,5,none⟩ (.int .i64 (wrap64 x.tick)):=⟨_,rfl⟩
   obtain ⟨y1,y2,y3,y4⟩:=HM.out u1 (by rw [if_neg p1];exact hu1)
   have Y:=Lib.hid (And.intro y1 (And.intro y2 (And.intro y3 y4)))
   have t11:((x.part:Int) != 1)=true:=by simp;omega
   have HU1:=Lib.hid hu1
   obtain ⟨_,_,z9,zb⟩:=HBP.out _ y3
   have lgu:=lt_of_block y1
   clear y1 y2 y3 y4 HM X XD XZ hu1
   by_cases p9:x.part=9
   ·rw [if_pos p9] at h0 h1 h2
    subst h0 h1 h2
    rw [decide_eq_true (by omega)] at HO
    clear p1 p9 hk
    go_upto_region 4 with fail
    rw [← HU1.out]
    clear HU1
    have HEN:Hid (∀ u3,Below u1.heap.size u1 u3→(u3.cell? ⟨g,10,none⟩=some (.int .i64 0)∧u3.cell? ⟨g,11,none⟩=some (.int .i64 0)∧u3.cell? ⟨g,12,none⟩=some (.int .i64 0)∧u3.frozen? ⟨g,10,none⟩=false∧u3.frozen? ⟨g,11,none⟩=false∧u3.frozen? ⟨g,12,none⟩=false∧g<u3.heap.size)∧Hid ((((u3.setCell ⟨g,10,none⟩ (.int .i64 x.m.how)).setCell ⟨g,11,none⟩ (.int .i64 x.m.cod)).setCell ⟨g,12,none⟩ (.int .i64 x.m.err)).heap[g]?=some (.cells (dC tg na x.m D mk nu x.m.how x.m.cod x.m.err st) 59 (0,0))∧DdX (((u3.setCell ⟨g,10,none⟩ (.int .i64 x.m.how)).setCell ⟨g,11,none⟩ (.int .i64 x.m.cod)).setCell ⟨g,12,none⟩ (.int .i64 x.m.err)) (w.heap.size+1) g D args x.m∧Below w.heap.size w (((u3.setCell ⟨g,10,none⟩ (.int .i64 x.m.how)).setCell ⟨g,11,none⟩ (.int .i64 x.m.cod)).setCell ⟨g,12,none⟩ (.int .i64 x.m.err))∧(((u3.setCell ⟨g,10,none⟩ (.int .i64 x.m.how)).setCell ⟨g,11,none⟩ (.int .i64 x.m.cod)).setCell ⟨g,12,none⟩ (.int .i64 x.m.err)).heap[w.heap.size]?=some dZ)):=fun u3 k=>by
     have hg:u3.heap[g]?=some (.cells (dC tg na x.m D mk nu 0 0 0 st) 59 (0,0)):=(k.block _ lgu).trans Y.out.1
     have a1:=(heap_setCell_same u3 g 10 _ _ (.int .i64 x.m.how) hg).trans (show _=some (Obj.cells (dC tg na x.m D mk nu x.m.how 0 0 st) 59) from rfl)
     have a2:=(heap_setCell_same _ g 11 _ _ (.int .i64 x.m.cod) a1).trans (show _=some (Obj.cells (dC tg na x.m D mk nu x.m.how x.m.cod 0 st) 59) from rfl)
     have a3:=(heap_setCell_same _ g 12 _ _ (.int .i64 x.m.err) a2).trans (show _=some (Obj.cells (dC tg na x.m D mk nu x.m.how x.m.cod x.m.err st) 59) from rfl)
     refine ⟨⟨(cell_of_row _ _ 10 _ _ _ hg).trans rfl,(cell_of_row _ _ 11 _ _ _ hg).trans rfl,(cell_of_row _ _ 12 _ _ _ hg).trans rfl,frozen_of_row _ _ _ _ _ hg,frozen_of_row _ _ _ _ _ hg,frozen_of_row _ _ _ _ _ hg,lt_of_block hg⟩,a3,(((Y.out.2.1.on k).put _ _).put _ _).put _ _,?_,?_⟩
     ·have hw:=two_below Y.out.2.2.1 k
      exact ((hw.setCell XG.out.2 _).setCell XG.out.2 _).setCell XG.out.2 _
     ·exact (heap_setCell_other _ _ _ _ XG.out.1).trans ((heap_setCell_other _ _ _ _ XG.out.1).trans ((heap_setCell_other _ _ _ _ XG.out.1).trans ((k.block _ (lt_of_block Y.out.2.2.2)).trans Y.out.2.2.2)))
    go_wp2_with (first
     | (refine wpList_store_row rfl 59 _ _ rfl w.heap.size (dC tg na x.m D mk nu x.m.how x.m.cod x.m.err st) rfl rfl _ _ Z.out.2.2.2 deedInfo rfl (deed_one _ _ _ _ _ _ _ _ _ _) ?_)
     | (refine wpList_load_row rfl 59 _ rfl g rfl _ (dC tg na x.m D mk nu x.m.how x.m.cod x.m.err st) _ _ Z.out.1 Tryz.underlying59 rfl deedInfo ?_)
     | (go_at_call 39;refine (HE.out _ Y.out.2.2.1).mono ?_;rintro e u4 ⟨rfl,q⟩;obtain ⟨⟨k10,k11,k12,f10,f11,f12,l4⟩,Z⟩:=HEN.out _ q;clear q HEN)
     | (go_at_call 25;refine (HO.out _ Y.out.2.2.1).mono ?_;rintro e u3 ⟨rfl,hw⟩;subst u3))
    refine deed_back (D:=D) (m:=x.m) rfl w.heap.size rfl (setRow_heap _ _ _ _ _ _ Z.out.2.2.2) rfl ⟨_,rfl,?_⟩
    exact HFIN.out _ _ _ _ Z.out
   ·rw [if_neg p9] at h0 h1 h2
    subst h0 h1 h2
    rw [decide_eq_false (by omega)] at HO
    clear p1 p9 hk
    go_upto_region 4 with fail
    rw [← HU1.out]
    clear HU1
    go_wp2_with (first
     | (refine wpList_store_row rfl 59 _ _ rfl w.heap.size (dC tg na x.m D mk nu 0 0 0 st) rfl rfl _ _ Y.out.2.2.2 deedInfo rfl (deed_one _ _ _ _ _ _ _ _ _ _) ?_)
     | (refine wpList_load_row rfl 59 _ rfl g rfl _ (dC tg na x.m D mk nu 0 0 0 st) _ _ Y.out.1 Tryz.underlying59 rfl deedInfo ?_)
     | (go_at_call 25;refine (HO.out _ Y.out.2.2.1).mono ?_;rintro e u3 ⟨rfl,hw⟩;subst u3))
    refine deed_back (D:=D) (m:=x.m) rfl w.heap.size rfl (setRow_heap _ _ _ _ _ _ Y.out.2.2.2) rfl ⟨_,rfl,?_⟩
    exact HFIN.out _ _ _ _ Y.out
end
end Go.Proofs.YteinilmecnlanabGreatDoor.Ww
namespace Go.Proofs.YteinilmecnlanabGreatDoor.Ww
open Go.ChangeShapes Go.WideShapes Go.ChangeAt Go.RowKit Num Rr
structure WdAt (w:World) (bw gw:Nat) (ws:List Int) (n:Int):Prop where
 box:w.heap[bw]?=some (.cells #[.slice (some ⟨gw,0,none⟩) ws.length ws.length,.int .i64 n] 76 (0,0))
 row:w.heap[gw]?=some (.cells (u64s ws).toArray 45 (0,0))
 ne:bw≠gw
 many:ws.length≤4096
section
variable {w w':World} {bw gw:Nat} {ws:List Int} {n:Int}
theorem WdAt.ltB (h:WdAt w bw gw ws n):bw<w.heap.size:=lt_of_block h.box
theorem WdAt.ltG (h:WdAt w bw gw ws n):gw<w.heap.size:=lt_of_block h.row
theorem WdAt.cell0 (h:WdAt w bw gw ws n):w.cell? ⟨bw,0,none⟩=some (.slice (some ⟨gw,0,none⟩) ws.length ws.length):=(cell_of_row w bw 0 _ _ _ h.box).trans rfl
theorem WdAt.cell1 (h:WdAt w bw gw ws n):w.cell? ⟨bw,1,none⟩=some (.int .i64 n):=(cell_of_row w bw 1 _ _ _ h.box).trans rfl
theorem WdAt.free (h:WdAt w bw gw ws n) (j:Nat):w.frozen? ⟨bw,j,none⟩=false:=frozen_of_row w bw j _ _ h.box
theorem WdAt.freeG (h:WdAt w bw gw ws n) (j:Nat):w.frozen? ⟨gw,j,none⟩=false:=frozen_of_row w gw j _ _ h.row
theorem WdAt.word (h:WdAt w bw gw ws n) {i:Nat} (hi:i<ws.length):w.cell? ⟨gw,i,none⟩=some (.int .u64 (ws.getD i 0)):=by
 rw [cell_of_row w gw i _ _ _ h.row]
 simp [u64s,hi]
theorem WdAt.keep (h:WdAt w bw gw ws n) (k:Kept [bw,gw] w w'):WdAt w' bw gw ws n:=⟨(k.2 bw (by simp)).trans h.box,(k.2 gw (by simp)).trans h.row,h.ne,h.many⟩
theorem WdAt.setN (h:WdAt w bw gw ws n) (m:Int):WdAt (w.setCell ⟨bw,1,none⟩ (.int .i64 m)) bw gw ws m:=⟨(heap_setCell_same w bw 1 _ _ _ h.box).trans rfl,(heap_setCell_other _ _ _ _ (fun (e:gw=bw)=>h.ne e.symm)).trans h.row,h.ne,h.many⟩
theorem WdAt.setW (h:WdAt w bw gw ws n) (i:Nat) (v:Int):WdAt (w.setCell ⟨gw,i,none⟩ (.int .u64 v)) bw gw (ws.set i v) n :=
 ⟨by rw [List.length_set];exact (heap_setCell_other _ _ _ _ (fun (e:bw=gw)=>h.ne e)).trans h.box,(heap_setCell_same w gw i _ _ _ h.row).trans (by rw [List.setIfInBounds_toArray,u64s_set]),h.ne,by rw [List.length_set];exact h.many⟩
theorem wload_any (h:WdAt w bw gw ws n) {i:Int} (h0:0≤i) (h1:i<(ws.length:Int)):Calls Tryz.prog 27 #[.pointer (some ⟨bw,0,none⟩),.int .i64 i] w fun e w'=>e=.returned (.int .u64 (wordAt ws i))∧WdAt w' bw gw ws (up n)∧Turn [bw] [bw] w w':=by
 obtain ⟨k,rfl⟩:=Int.eq_ofNat_of_zero_le h0
 have hk:k<ws.length:=by omega
 have c1:=h.cell1
 have lb:=h.ltB
 have f1:=h.free 1
 have HN:=Lib.hid (h.setN (up n))
 have c0:=(h.setN (up n)).cell0
 have cg:=(h.setN (up n)).word hk
 have lg:=(h.setN (up n)).ltG
 have ne:=h.ne
 have HT:=Lib.hid (turn_set w bw 1 (.int .i64 (up n)))
 have e:wordAt ws (k:Int)=ws.getD k 0:=rfl
 rw [e]
 generalize ws.getD k 0=v at cg ⊢
 have hm:=h.many
 clear h e h0
 unfold up at *
 go_enter Tryz.func27,Tryz.ntmps27
 go_wp2
 go_ret
 exact ⟨rfl,HN.out,HT.out⟩
theorem wstore_any (h:WdAt w bw gw ws n) {i:Int} (v:Int) (h0:0≤i) (h1:i<(ws.length:Int)):Calls Tryz.prog 30 #[.pointer (some ⟨bw,0,none⟩),.int .i64 i,.int .u64 v] w fun e w'=>e=.returned (.tuple #[])∧WdAt w' bw gw (ws.set i.toNat v) (up n)∧Turn [bw,gw] [bw,gw] w w':=by
 obtain ⟨k,rfl⟩:=Int.eq_ofNat_of_zero_le h0
 have hk:k<ws.length:=by omega
 have c1:=h.cell1
 have lb:=h.ltB
 have f1:=h.free 1
 have H1:=h.setN (up n)
 have HN:=Lib.hid (H1.setW k v)
 have c0:=H1.cell0
 have cg:=H1.word hk
 have lg:=H1.ltG
 have fg:=H1.freeG k
 have ne:=h.ne
 have HT:Hid (Turn [bw,gw] [bw,gw] w ((w.setCell ⟨bw,1,none⟩ (.int .i64 (up n))).setCell ⟨gw,k,none⟩ (.int .u64 v))):=turn_of (L:=[bw,gw]) rfl rfl rfl (by simp) (fun _ y=>y) fun j _ hn=>(heap_setCell_other _ _ _ _ (fun (e:j=gw)=>hn (by simp [e]))).trans (heap_setCell_other _ _ _ _ (fun (e:j=bw)=>hn (by simp [e])))
 generalize ws.getD k 0=v0 at cg
 have hm:=h.many
 rw [show ((k:Int)).toNat=k from rfl]
 clear h h0 H1
 unfold up at *
 go_enter Tryz.func30,Tryz.ntmps30
 go_wp2
 go_end0
 exact ⟨rfl,HN.out,HT.out⟩
end
section
attribute [local go_sem] frombits_run bits_run
theorem number_any (v:Int) (w:World):Calls Tryz.prog 53 #[.int .u64 v] w fun e w'=>e=.returned (.float .f64 (fixB v.toNat))∧w'=w:=by
 go_enter Tryz.func53,Tryz.ntmps53
 go_wp2_with (first | (go_at_call 48;refine (refFix_any _ _).mono ?_;rintro e w' ⟨rfl,rfl⟩) | go_in)
 go_ret
 exact ⟨rfl,rfl⟩
end
structure Dz where
 br:Nat
 bl:Nat
 KR:List Nat
 pa:Option Addr
 ca:Nat
 cs:List Ins
structure Dq where
 q:Rp
 pw:Option Addr
 cw:Nat
def dboxY (x:Wx) (z:Dz) (q:Dq):Array Value:=#[.int .i64 0,.int .i64 1,.int .i64 2,.int .i64 3,.int .i64 (3+x.b),.int .i64 (3+x.b+3*x.a),.pointer (some ⟨z.br,0,none⟩),.int .i64 x.b,.int .i64 x.tag,.slice z.pa x.args.length z.ca,.int .i64 (x.part:Int),.int .u64 x.tick,.int .u64 x.stamp,.slice q.pw x.was.length q.cw,.int .i64 (x.at_:Int),.int .i64 x.num,.int .i64 x.steps]
def natI (l:List Nat):List Int:=l.map fun v=>((v:Nat):Int)
def frY (z:Dz) (q:Dq):List Nat:=Fr z.br q.q ++ fpR q.pw
def dAll (bd:Nat) (z:Dz) (q:Dq):List Nat:=bd::(frY z q ++ (z.KR ++ fpR z.pa))
structure DRaw (w:World) (bd:Nat) (x:Wx) (z:Dz) (q:Dq):Prop where
 box:w.heap[bd]?=some (.cells (dboxY x z q) 47 (0,0))
 ref:RefAt w z.br q.q x.m z.cs
 at_:q.q.bl=z.bl∧fpK q.q z.cs=z.KR
 arg:Ro w z.pa (fls x.args)
 lp:Blw w (fpR z.pa)
 was:Ro w q.pw (u64s (natI x.was))
 lw:Blw w (fpR q.pw)
 cw:x.was.length≤q.cw
 sb:bd∉frY z q ++ (z.KR ++ fpR z.pa)
 sp:z.br∉fpR z.pa∧z.bl∉fpR z.pa
 sw:z.br∉fpR q.pw∧z.bl∉fpR q.pw
section
variable {w w':World} {bd:Nat} {x:Wx} {z:Dz} {q:Dq}
theorem mem_dAll {k:Nat}:k∈dAll bd z q ↔ k=bd∨k∈Fr z.br q.q∨k∈fpR q.pw∨k∈z.KR∨k∈fpR z.pa:=by
 simp only [dAll,frY,List.mem_cons,List.mem_append,or_assoc]
theorem DRaw.ltB (h:DRaw w bd x z q):bd<w.heap.size:=lt_of_block h.box
theorem DRaw.blw (h:DRaw w bd x z q):Blw w (dAll bd z q):=fun k hk=>by
 rcases mem_dAll.1 hk with rfl | hk | hk | hk | hk
 ·exact h.ltB
 ·exact h.ref.lt k hk
 ·exact h.lw k hk
 ·exact h.ref.ltk k (by rw [h.at_.2];exact hk)
 ·exact h.lp k hk
theorem DRaw.keep (h:DRaw w bd x z q) (k:Kept (dAll bd z q) w w'):DRaw w' bd x z q :=
 ⟨(k.2 bd (by simp [dAll])).trans h.box,h.ref.keep ⟨k.1,fun i hi=>k.2 i (mem_dAll.2 (.inr (.inl hi)))⟩ ⟨k.1,fun i hi=>k.2 i (by rw [h.at_.2] at hi;exact mem_dAll.2 (.inr (.inr (.inr (.inl hi)))))⟩,h.at_,h.arg.keep ⟨k.1,fun i hi=>k.2 i (mem_dAll.2 (.inr (.inr (.inr (.inr hi)))))⟩,fun i hi=>Nat.lt_of_lt_of_le (h.lp i hi) k.1,h.was.keep ⟨k.1,fun i hi=>k.2 i (mem_dAll.2 (.inr (.inr (.inl hi))))⟩,fun i hi=>Nat.lt_of_lt_of_le (h.lw i hi) k.1,h.cw,h.sb,h.sp,h.sw⟩
theorem DRaw.on (h:DRaw w bd x z q) (k:Below w.heap.size w w'):DRaw w' bd x z q:=h.keep (kept_below k h.blw)
theorem DRaw.cell (h:DRaw w bd x z q) (j:Nat):w.cell? ⟨bd,j,none⟩=(dboxY x z q)[j]?:=cell_of_row w bd j _ _ _ h.box
theorem DRaw.free (h:DRaw w bd x z q) (j:Nat):w.frozen? ⟨bd,j,none⟩=false:=frozen_of_row w bd j _ _ h.box
theorem DRaw.put (h:DRaw w bd x z q) (j:Nat) (v:Value) (x':Wx) (e:(dboxY x z q).setIfInBounds j v=dboxY x' z q) (hm:x'.m=x.m) (ha:x'.args=x.args) (hw:x'.was=x.was):DRaw (w.setCell ⟨bd,j,none⟩ v) bd x' z q:=by
 have kk:∀ L:List Nat,(∀ i∈L,i∈frY z q ++ (z.KR ++ fpR z.pa))→Kept L w (w.setCell ⟨bd,j,none⟩ v):=fun L hL=>keptB (fun hi=>h.sb (hL bd hi))
 refine ⟨?_,by rw [hm];exact h.ref.keep (kk _ (fun i hi=>by simp [frY,hi])) (kk _ (fun i hi=>by rw [h.at_.2] at hi;simp [hi])),h.at_,by rw [ha];exact h.arg.keep (kk _ (fun i hi=>by simp [hi])),fun i hi=>by simpa using h.lp i hi,by rw [hw];exact h.was.keep (kk _ (fun i hi=>by simp [frY,hi])),fun i hi=>by simpa using h.lw i hi,by rw [hw];exact h.cw,h.sb,h.sp,h.sw⟩
 rw [← e]
 exact heap_setCell_same w bd j _ _ v h.box
theorem DRaw.mach (h:DRaw w bd x z q) {m':Mac} (g:Rg w (Fr z.br q.q) z.br z.bl z.KR w' m' z.cs):∃ q',DRaw w' bd { x with m:=m' } z { q with q:=q' }∧Turn [z.br,z.bl] [z.br,z.bl] w w'∧∀ k∈Fr z.br q',k∈Fr z.br q.q∨w.heap.size≤k:=by
 obtain ⟨q',g1,g2,t,g4⟩:=g
 have inF:∀ k,k∈[z.br,z.bl]→k∈Fr z.br q.q:=fun k hk=>by
  have e:=h.at_.1
  simp only [List.mem_cons,List.not_mem_nil,or_false] at hk
  rcases hk with rfl | rfl
  ·simp [Fr]
  ·simp [Fr,e]
 have nb:bd∉[z.br,z.bl]:=fun y=>h.sb (List.mem_append.2 (.inl (List.mem_append.2 (.inl (inF bd y)))))
 have sp:Sep (fpR z.pa) [z.br,z.bl]:=fun k hk y=>by
  simp only [List.mem_cons,List.not_mem_nil,or_false] at y
  rcases y with rfl | rfl
  ·exact h.sp.1 hk
  ·exact h.sp.2 hk
 have sw:Sep (fpR q.pw) [z.br,z.bl]:=fun k hk y=>by
  simp only [List.mem_cons,List.not_mem_nil,or_false] at y
  rcases y with rfl | rfl
  ·exact h.sw.1 hk
  ·exact h.sw.2 hk
 refine ⟨q',⟨(t.block bd h.ltB nb).trans h.box,g1,g2,h.arg.keep (t.kept sp h.lp),fun i hi=>Nat.lt_of_lt_of_le (h.lp i hi) t.size,h.was.keep (t.kept sw h.lw),fun i hi=>Nat.lt_of_lt_of_le (h.lw i hi) t.size,h.cw,fun y=>?_,h.sp,h.sw⟩,t,g4⟩
 simp only [frY,List.mem_append] at y
 rcases y with (y | y) | y
 ·rcases g4 bd y with y | y
  ·exact h.sb (by simp [frY,y])
  ·exact absurd h.ltB (Nat.not_lt.2 y)
 ·exact h.sb (by simp only [frY,List.mem_append];exact .inl (.inr y))
 ·exact h.sb (by simp only [frY,List.mem_append];exact .inr y)
theorem DRaw.wass (h:DRaw w bd x z q) {w3:World} {g c y:Nat} (hb:Below w.heap.size w w3) (hg:w.heap.size≤g) (hl:g<w3.heap.size) (hc:x.was.length+1≤c) (hr:Ro w3 (some ⟨g,0,none⟩) (u64s (natI (x.was ++ [y])))):DRaw (w3.setCell ⟨bd,13,none⟩ (.slice (some ⟨g,0,none⟩) (x.was.length+1) c)) bd { x with was:=x.was ++ [y] } z { q with pw:=some ⟨g,0,none⟩,cw:=c }:=by
 have h3:=h.on hb
 have kk:∀ L:List Nat,(∀ i∈L,i∈frY z q ++ (z.KR ++ fpR z.pa))→Kept L w3 (w3.setCell ⟨bd,13,none⟩ (.slice (some ⟨g,0,none⟩) (x.was.length+1) c)):=fun L hL=>keptB (fun hi=>h.sb (hL bd hi))
 have lt:=h.ltB
 have el:(x.was ++ [y]).length=x.was.length+1:=by simp
 have nl:=h.ref.lt
 have brl:z.br<w.heap.size:=nl _ (by simp [Fr])
 have bll:z.bl<w.heap.size:=nl _ (by simp [Fr,h.at_.1])
 refine ⟨?_,h3.ref.keep (kk _ (fun i hi=>by simp [frY,hi])) (kk _ (fun i hi=>by rw [h.at_.2] at hi;simp [hi])),h.at_,h3.arg.keep (kk _ (fun i hi=>by simp [hi])),fun i hi=>by simpa using h3.lp i hi,hr.keep (keptB (fun hi=>by simp [fpR] at hi;omega)),fun i hi=>by simp [fpR] at hi;simpa [← hi] using hl,by rw [el];exact hc,fun hy=>?_,h.sp,⟨fun hi=>by simp [fpR] at hi;omega,fun hi=>by simp [fpR] at hi;omega⟩⟩
 ·refine (heap_setCell_same w3 bd 13 _ _ _ h3.box).trans ?_
  unfold dboxY
  dsimp only
  rw [el]
  rfl
 ·simp only [frY,List.mem_append] at hy
  rcases hy with (hy | hy) | hy
  ·exact h.sb (by simp [frY,hy])
  ·simp [fpR] at hy
   omega
  ·exact h.sb (by simp only [frY,List.mem_append];exact .inr hy)
end
def DMid (W:World) (R0:List Nat) (bd:Nat) (z:Dz) (bw gw:Nat) (w:World) (x:Wx) (ws:List Int) (n:Int):Prop :=
 ∃ q,DRaw w bd x z q∧WdAt w bw gw ws n∧Sep [bw,gw] (dAll bd z q)∧Turn [bd,z.br,z.bl,bw,gw] [bd,z.br,z.bl,bw,gw] W w∧∀ k∈frY z q,k∈R0∨W.heap.size≤k
section
variable {W w w':World} {R0:List Nat} {bd bw gw:Nat} {x:Wx} {z:Dz} {ws:List Int} {n:Int}
theorem DMid.words (h:DMid W R0 bd z bw gw w x ws n):WdAt w bw gw ws n:=by obtain ⟨_,_,h2,_⟩:=h;exact h2
theorem DMid.free (h:DMid W R0 bd z bw gw w x ws n) (j:Nat):w.frozen? ⟨bd,j,none⟩=false:=by obtain ⟨_,h1,_⟩:=h;exact h1.free j
theorem DMid.ltB (h:DMid W R0 bd z bw gw w x ws n):bd<w.heap.size:=by obtain ⟨_,h1,_⟩:=h;exact h1.ltB
theorem DMid.on (h:DMid W R0 bd z bw gw w x ws n) (k:Below w.heap.size w w'):DMid W R0 bd z bw gw w' x ws n:=by
 obtain ⟨q,h1,h2,h3,h4,h5⟩:=h
 exact ⟨q,h1.on k,h2.keep (kept_below k (fun i hi=>by simp only [List.mem_cons,List.not_mem_nil,or_false] at hi;rcases hi with rfl | rfl;exact h2.ltB;exact h2.ltG)),h3,h4.trans (Below.turn k _),h5⟩
theorem DMid.same (h:DMid W R0 bd z bw gw w x ws n) (k:Same w w'):DMid W R0 bd z bw gw w' x ws n:=h.on (k.below _)
theorem DMid.drew (h:DMid W R0 bd z bw gw w x ws n):DMid W R0 bd z bw gw w.drew x ws n:=h.same (Same.drew w)
theorem DMid.alloc (h:DMid W R0 bd z bw gw w x ws n) (o:Obj):DMid W R0 bd z bw gw (w.alloc o) x ws n:=h.on (below_alloc _ o)
theorem DMid.cell (h:DMid W R0 bd z bw gw w x ws n) (j:Nat) {v:Value} (hj:∀ q,(dboxY x z q)[j]?=some v):w.cell? ⟨bd,j,none⟩=some v:=by obtain ⟨q,h1,_⟩:=h;exact (h1.cell j).trans (hj q)
theorem DMid.put (h:DMid W R0 bd z bw gw w x ws n) (j:Nat) (v:Value) (x':Wx) (e:∀ q,(dboxY x z q).setIfInBounds j v=dboxY x' z q) (hm:x'.m=x.m) (ha:x'.args=x.args) (hw:x'.was=x.was):DMid W R0 bd z bw gw (w.setCell ⟨bd,j,none⟩ v) x' ws n:=by
 obtain ⟨q,h1,h2,h3,h4,h5⟩:=h
 have nw:bd∉[bw,gw]:=fun y=>h3 bd y (by simp [dAll])
 exact ⟨q,h1.put j v x' (e q) hm ha hw,h2.keep (keptB nw),h3,h4.trans (turn_of (L:=[bd]) rfl rfl rfl (by simp) (fun k hk=>by simp at hk;simp [hk]) fun k _ hn=>heap_setCell_other _ _ _ _ (by simpa using hn)),h5⟩
theorem DMid.wrds {ws':List Int} {n':Int} (h:DMid W R0 bd z bw gw w x ws n) (t:Turn [bw,gw] [bw,gw] w w') (hw:WdAt w' bw gw ws' n'):DMid W R0 bd z bw gw w' x ws' n':=by
 obtain ⟨q,h1,h2,h3,h4,h5⟩:=h
 exact ⟨q,h1.keep (t.kept h3.symm h1.blw),hw,h3,h4.trans (turn_of (L:=[bw,gw]) t.os t.tape t.output t.size (fun k hk=>by simp only [List.mem_cons,List.not_mem_nil,or_false] at hk;rcases hk with hk | hk <;> simp [hk]) t.block),h5⟩
theorem DMid.mach (h:DMid W R0 bd z bw gw w x ws n):∃ F0,Rg w F0 z.br z.bl z.KR w x.m z.cs∧∀ w' m',Rg w F0 z.br z.bl z.KR w' m' z.cs→DMid W R0 bd z bw gw w' { x with m:=m' } ws n:=by
 obtain ⟨q,h1,h2,h3,h4,h5⟩:=h
 refine ⟨Fr z.br q.q,⟨q.q,h1.ref,h1.at_,Turn.refl _ _,fun _ y=>.inl y⟩,fun w' m' g=>?_⟩
 obtain ⟨q',k1,t,k4⟩:=h1.mach g
 have lw:∀ i,i∈[bw,gw]→i<w.heap.size:=fun i hi=>by
  simp only [List.mem_cons,List.not_mem_nil,or_false] at hi
  rcases hi with rfl | rfl
  ·exact h2.ltB
  ·exact h2.ltG
 have inF:∀ k,k∈[z.br,z.bl]→k∈dAll bd z q:=fun k hk=>by
  have e:=h1.at_.1
  simp only [List.mem_cons,List.not_mem_nil,or_false] at hk
  rcases hk with rfl | rfl
  ·simp [dAll,frY,Fr]
  ·simp [dAll,frY,Fr,e]
 refine ⟨{ q with q:=q' },k1,h2.keep (t.kept (fun i hi y=>h3 i hi (inF i y)) lw),fun i hi y=>?_,h4.trans (turn_of (L:=[z.br,z.bl]) t.os t.tape t.output t.size (fun k hk=>by simp only [List.mem_cons,List.not_mem_nil,or_false] at hk;rcases hk with hk | hk <;> simp [hk]) t.block),fun k hk=>?_⟩
 ·rcases mem_dAll.1 y with y | y | y | y | y
  ·exact h3 i hi (mem_dAll.2 (.inl y))
  ·rcases k4 i y with y | y
   ·exact h3 i hi (mem_dAll.2 (.inr (.inl y)))
   ·exact absurd (lw i hi) (Nat.not_lt.2 y)
  ·exact h3 i hi (mem_dAll.2 (.inr (.inr (.inl y))))
  ·exact h3 i hi (mem_dAll.2 (.inr (.inr (.inr (.inl y)))))
  ·exact h3 i hi (mem_dAll.2 (.inr (.inr (.inr (.inr y)))))
 ·rcases List.mem_append.1 hk with hk | hk
  ·rcases k4 k hk with y | y
   ·exact h5 k (List.mem_append.2 (.inl y))
   ·exact .inr (Nat.le_trans h4.size y)
  ·exact h5 k (List.mem_append.2 (.inr hk))
theorem DMid.wass (h:DMid W R0 bd z bw gw w x ws n) {w3:World} {g c y:Nat} (hb:Below w.heap.size w w3) (hg:w.heap.size≤g) (hl:g<w3.heap.size) (hc:x.was.length+1≤c) (hr:Ro w3 (some ⟨g,0,none⟩) (u64s (natI (x.was ++ [y])))):DMid W R0 bd z bw gw (w3.setCell ⟨bd,13,none⟩ (.slice (some ⟨g,0,none⟩) (x.was.length+1) c)) { x with was:=x.was ++ [y] } ws n:=by
 have h':=h.on hb
 obtain ⟨q,h1,h2,h3,h4,h5⟩:=h
 obtain ⟨_,_,m2,_,t2,_⟩:=h'
 have nw:bd∉[bw,gw]:=fun y=>h3 bd y (by simp [dAll])
 have l1:=h2.ltB
 have l2:=h2.ltG
 refine ⟨_,h1.wass hb hg hl hc hr,m2.keep (keptB nw),fun i hi hy=>?_,t2.trans (turn_of (L:=[bd]) rfl rfl rfl (by simp) (fun k hk=>by simp at hk;simp [hk]) fun k _ hn=>heap_setCell_other _ _ _ _ (by simpa using hn)),fun k hk=>?_⟩
 ·rcases mem_dAll.1 hy with hy | hy | hy | hy | hy
  ·exact h3 i hi (mem_dAll.2 (.inl hy))
  ·exact h3 i hi (mem_dAll.2 (.inr (.inl hy)))
  ·simp [fpR] at hy
   simp only [List.mem_cons,List.not_mem_nil,or_false] at hi
   omega
  ·exact h3 i hi (mem_dAll.2 (.inr (.inr (.inr (.inl hy)))))
  ·exact h3 i hi (mem_dAll.2 (.inr (.inr (.inr (.inr hy)))))
 ·rcases List.mem_append.1 hk with hk | hk
  ·exact h5 k (List.mem_append.2 (.inl hk))
  ·simp [fpR] at hk
   have:=h4.size
   exact .inr (by omega)
theorem DMid.step (h:DMid W R0 bd z bw gw w x ws n) (hI:Inv x.m) {M:Mac} {A:Ask} (hM:(stepM x.m).1=M) (hA:(stepM x.m).2=A):Calls Tryz.prog 51 #[.pointer (some ⟨z.br,0,none⟩)] w fun e w'=>e=.returned (.agg #[.int .i64 A.kind,.int .i64 A.cell,.float .f64 A.x,.bool A.first])∧DMid W R0 bd z bw gw w' { x with m:=M } ws n:=by
 obtain ⟨F,g,go⟩:=h.mach
 subst hM hA
 refine (rstep_any g hI).mono ?_
 rintro e w' ⟨rfl,k⟩
 exact ⟨rfl,go _ _ k⟩
theorem DMid.give (h:DMid W R0 bd z bw gw w x ws n) (hI:Inv x.m) (y:Nat) {M:Mac} (hM:giveM x.m y=M):Calls Tryz.prog 52 #[.pointer (some ⟨z.br,0,none⟩),.float .f64 y] w fun e w'=>e=.returned (.int .i64 (giveE x.m))∧DMid W R0 bd z bw gw w' { x with m:=M } ws n:=by
 obtain ⟨F,g,go⟩:=h.mach
 subst hM
 refine (rgive_any g hI y).mono ?_
 rintro e w' ⟨rfl,k⟩
 exact ⟨rfl,go _ _ k⟩
theorem DMid.load (h:DMid W R0 bd z bw gw w x ws n) {i:Int} (h0:0≤i) (h1:i<(ws.length:Int)):Calls Tryz.prog 27 #[.pointer (some ⟨bw,0,none⟩),.int .i64 i] w fun e w'=>e=.returned (.int .u64 (wordAt ws i))∧DMid W R0 bd z bw gw w' x ws (up n):=by
 refine (wload_any h.words h0 h1).mono ?_
 rintro e w' ⟨rfl,k1,k2⟩
 exact ⟨rfl,h.wrds (turn_of (L:=[bw]) k2.os k2.tape k2.output k2.size (fun k hk=>by simp at hk;simp [hk]) k2.block) k1⟩
theorem DMid.store (h:DMid W R0 bd z bw gw w x ws n) {i:Int} (v:Int) (h0:0≤i) (h1:i<(ws.length:Int)):Calls Tryz.prog 30 #[.pointer (some ⟨bw,0,none⟩),.int .i64 i,.int .u64 v] w fun e w'=>e=.returned (.tuple #[])∧DMid W R0 bd z bw gw w' x (ws.set i.toNat v) (up n):=by
 refine (wstore_any h.words v h0 h1).mono ?_
 rintro e w' ⟨rfl,k1,k2⟩
 exact ⟨rfl,h.wrds k2 k1⟩
end
end Go.Proofs.YteinilmecnlanabGreatDoor.Ww
namespace Go.Proofs.YteinilmecnlanabGreatDoor.Ww
open Go.ChangeShapes Go.WideShapes Go.ChangeAt Go.RowKit Num Rr
structure DLoop (N:World) (B:Nat) (w:World) (bd:Nat) (x:Wx) (z:Dz) (q:Dq):Prop where
 raw:DRaw w bd x z q
 row:RowAt 64 w z.pa z.ca (fls x.args)
 lo:∀ k,k∈bd::(frY z q ++ z.KR)→k<B
 hi:Abv B (fpR z.pa)
 ab:Abv N.heap.size (bd::frY z q)
 bk:Blw N z.KR
 bl:Below N.heap.size N w
 sz:N.heap.size≤B
section
variable {N w w3:World} {B bd:Nat} {x:Wx} {z:Dz} {q:Dq}
theorem DLoop.more {v:Value} {y:Nat} {o:Obj} (h:DLoop N B w bd x z q) (hB:B≤w.heap.size) (hown:w3.ownsRow 0 64 1 v (x.args.length+1) (fls x.args ++ [.float .f64 y])) (hg:(w.alloc o).grownBy w3 (Value.slice z.pa x.args.length z.ca).ownBlock) (hat:v.ownBlock=(Value.slice z.pa x.args.length z.ca).ownBlock∨v.ownBlock=some (w.alloc o).heap.size) :
  ∃ p' c',v=.slice p' (x.args.length+1) c'∧w3.heap[bd]?=some (.cells (dboxY x z q) 47 (0,0))∧DLoop N B (w3.setCell ⟨bd,9,none⟩ (.slice p' (x.args.length+1) c')) bd { x with args:=x.args ++ [y] } { z with pa:=p',ca:=c' } q∧B≤(w3.setCell ⟨bd,9,none⟩ (.slice p' (x.args.length+1) c')).heap.size:=by
 obtain ⟨p',c',rfl,hr⟩:=ownsRow_slice hown
 have hl:(fls x.args ++ [Value.float .f64 y]).length=x.args.length+1:=by simp [fls_len]
 rw [hl] at hat ⊢
 have g:w.grownBy w3 (Value.slice z.pa x.args.length z.ca).ownBlock:=(World.grownBy_alloc w o _).trans hg
 have ho:∀ k,k∈fpR p'→k∈fpR z.pa∨w.heap.size≤k:=own_at hat (by simp)
 have hip:Abv B (fpR p'):=fun k hk=>(ho k hk).elim (h.hi k) (fun y=>Nat.le_trans hB y)
 have kp:∀ k,k<B→w3.heap[k]?=w.heap[k]?:=fun k hk=>g.block k (Nat.lt_of_lt_of_le hk hB) (fun e=>by have:=h.hi k (own_fpR.2 e.symm);omega)
 have lob:bd<B:=h.lo bd (by simp)
 have kk:Kept (bd::(frY z q ++ z.KR)) w w3:=⟨g.size,fun i hi=>kp i (h.lo i hi)⟩
 have hbd:w3.heap[bd]?=_:=(kp bd lob).trans h.raw.box
 have nd:bd∉frY z q ++ z.KR:=fun y=>h.raw.sb (by rw [← List.append_assoc];exact List.mem_append.2 (.inl y))
 have k2:Kept (frY z q ++ z.KR) w (w3.setCell ⟨bd,9,none⟩ (.slice p' (x.args.length+1) c')):=⟨by simpa using g.size,fun i hi=>(heap_setCell_other _ _ _ _ (fun (e:i=bd)=>nd (e ▸ hi))).trans (kp i (h.lo i (List.mem_cons_of_mem _ hi)))⟩
 have np:bd∉fpR p':=fun y=>by have:=hip bd y;omega
 have row':RowAt 64 (w3.setCell ⟨bd,9,none⟩ (.slice p' (x.args.length+1) c')) p' c' (fls (x.args ++ [y])):=by
  rw [fls_snoc] at *
  exact hr.keep (keptB np)
 have inF:∀ k,k=z.br∨k=z.bl→k<B:=fun k hk=>h.lo k (by
  have e:=h.raw.at_.1
  rcases hk with rfl | rfl
  ·simp [frY,Fr]
  ·simp [frY,Fr,e])
 have hbs:=h.bl.size
 have hgs:=g.size
 refine ⟨p',c',rfl,hbd,⟨⟨?_,h.raw.ref.keep ⟨k2.1,fun i hi=>k2.2 i (List.mem_append.2 (.inl (List.mem_append.2 (.inl hi))))⟩ ⟨k2.1,fun i hi=>k2.2 i (List.mem_append.2 (.inr (by rw [← h.raw.at_.2];exact hi)))⟩,h.raw.at_,row'.ro,row'.blw,h.raw.was.keep ⟨k2.1,fun i hi=>k2.2 i (List.mem_append.2 (.inl (List.mem_append.2 (.inr hi))))⟩,(fun i hi=>by have:=h.raw.lw i hi;simp;omega),h.raw.cw,fun y=>?_,⟨fun y=>by have h1:=hip z.br y;have h2:=inF z.br (.inl rfl);omega,fun y=>by have h1:=hip z.bl y;have h2:=inF z.bl (.inr rfl);omega⟩,h.raw.sw⟩,row',h.lo,hip,h.ab,h.bk,?_,h.sz⟩,by simp;omega⟩
 ·refine (heap_setCell_same w3 bd 9 _ _ _ hbd).trans ?_
  unfold dboxY
  simp
 ·rw [← List.append_assoc] at y
  rcases List.mem_append.1 y with y | y
  ·exact nd y
  ·exact np y
 ·refine ⟨g.os.trans h.bl.os,g.tape.trans h.bl.tape,g.output.trans h.bl.output,by simp;omega,fun k hk=>?_⟩
  have e1:k≠bd:=by have:=h.ab bd (by simp);omega
  have:=h.sz
  exact (heap_setCell_other _ _ _ _ e1).trans ((kp k (by omega)).trans (h.bl.block k hk))
end
def krA (ao:Option Addr) (cs:List Ins):List Nat:=if cs=[] then [] else fpR ao
theorem krA_blw {w:World} {ao:Option Addr} {cs:List Ins} (h:CodeAt w ao cs):Blw w (krA ao cs):=fpK_blw (q:=rq0 0 0 ao 0 0 false 0) h
structure DMade (w w':World) (bd:Nat) (x:Wx) (ao:Option Addr) (cs:List Ins):Prop where
 at_:∃ z q,z.cs=cs∧z.KR=krA ao cs∧DRaw w' bd x z q∧Abv w.heap.size (bd::frY z q)∧Abv w.heap.size (fpR z.pa)
 bl:Below w.heap.size w w'
section
variable {w:World} {a b c e t th:Int} {ao:Option Addr} {cs:List Ins} {n cap:Nat} {po:Option Addr} {l:List Nat} {k co:Nat}
theorem dnew_nil (h:(Md.cfgB a b c e && decide (k≤8))=false):Calls Tryz.prog 21 #[cfgV a b c e,.int .i64 th,.agg #[.int .i64 t,.slice ao n cap],.slice po k co] w fun r w'=>r=.returned (.pointer none)∧Below w.heap.size w w':=by
 have HN:Hid (∀ u,Calls Tryz.prog 47 #[cfgV a b c e,.agg #[.int .i64 t,.slice ao n cap],.slice po k co] u fun r w'=>r=.returned (.pointer none)∧Below u.heap.size u w'):=fun u=>rnew_nil h
 have HP:=Lib.hid (fun u=>Md.refPlace_any a b c e u)
 have HX:Hid (∀ u,Below (newW w a b c e t ao n cap).heap.size (newW w a b c e t ao n cap) u→u.heap[w.heap.size]?=some (cfgO a b c e)∧u.heap[w.heap.size+1]?=some (prgO t ao n cap)∧Below w.heap.size w u):=fun u q=>⟨(q.block _ (by simp;omega)).trans (heap_old (heap_alloc_new _ _)),(q.block _ (by simp)).trans (heap_new (by simp)),(newW_boxes q).2.2⟩
 cases hc:Md.cfgB a b c e
 ·simp only [hc] at HP
  go_enter Tryz.func21,Tryz.ntmps21
  go_wp2_with (first
   | (go_at_call 47;refine (HN.out _).mono ?_;rintro e u2 ⟨rfl,q⟩;have H2:=Lib.hid (below_chain (H1.out.alloc H1.out.size _) q);clear q)
   | (go_at_call 22;refine (HP.out _).mono ?_;rintro e u1 ⟨rfl,q⟩;have H1:=Lib.hid q;obtain ⟨b0,b1,b3⟩:=HX.out _ q;obtain ⟨c0,c1,c2,c3,c4⟩:=cells4 b0;obtain ⟨d0,d1,d2⟩:=cells2 b1;clear b0 b1 b3 q))
  go_ret
  exact ⟨rfl,(HX.out _ H2.out).2.2⟩
 ·simp only [hc] at HP
  go_enter Tryz.func21,Tryz.ntmps21
  go_wp2_with (first
   | (go_at_call 47;refine (HN.out _).mono ?_;rintro e u2 ⟨rfl,q⟩;have H2:=Lib.hid (below_chain (H1.out.alloc H1.out.size _) q);clear q)
   | (go_at_call 22;refine (HP.out _).mono ?_;rintro e u1 ⟨rfl,q⟩;have H1:=Lib.hid q;obtain ⟨b0,b1,b3⟩:=HX.out _ q;obtain ⟨c0,c1,c2,c3,c4⟩:=cells4 b0;obtain ⟨d0,d1,d2⟩:=cells2 b1;clear b0 b1 b3 q))
  go_ret
  exact ⟨rfl,(HX.out _ H2.out).2.2⟩
theorem dnew_out (hc:Md.cfgB a b c e=true) (hn:cs.length=n) (hk:l.length=k) (hk8:k≤8) (hC:CodeAt w ao cs) (hL:FlAt w po l) (hnl:n≤9223372036854775807) (ht:¬ (0≤th∧th<b)):Calls Tryz.prog 21 #[cfgV a b c e,.int .i64 th,.agg #[.int .i64 t,.slice ao n cap],.slice po k co] w fun r w'=>r=.returned (.pointer none)∧Below w.heap.size w w':=by
 have HN:Hid (∀ u,Below w.heap.size w u→Calls Tryz.prog 47 #[cfgV a b c e,.agg #[.int .i64 t,.slice ao n cap],.slice po k co] u fun r w'=>∃ br:Nat,r=.returned (.pointer (some ⟨br,0,none⟩))∧Below u.heap.size u w'):=fun u hb=>rnew_any hn hk (hC.on hb) (hL.on hb) hnl hc hk8
 have HP:=Lib.hid (fun u=>Md.refPlace_any a b c e u)
 have HX:Hid (∀ u,Below (newW w a b c e t ao n cap).heap.size (newW w a b c e t ao n cap) u→u.heap[w.heap.size]?=some (cfgO a b c e)∧u.heap[w.heap.size+1]?=some (prgO t ao n cap)∧Below w.heap.size w u):=fun u q=>⟨(q.block _ (by simp;omega)).trans (heap_old (heap_alloc_new _ _)),(q.block _ (by simp)).trans (heap_new (by simp)),(newW_boxes q).2.2⟩
 simp only [hc] at HP
 clear hc hn hk hk8 hC hL hnl
 by_cases h0:th<0
 ·go_enter Tryz.func21,Tryz.ntmps21
  go_wp2_with (first
   | (go_at_call 47;refine (HN.out _ (HX.out _ (H1.out.alloc H1.out.size _)).2.2).mono ?_;rintro e u2 ⟨br,rfl,q⟩;have H2:=Lib.hid (below_chain (H1.out.alloc H1.out.size _) q);clear q)
   | (go_at_call 22;refine (HP.out _).mono ?_;rintro e u1 ⟨rfl,q⟩;have H1:=Lib.hid q;obtain ⟨b0,b1,b3⟩:=HX.out _ q;obtain ⟨c0,c1,c2,c3,c4⟩:=cells4 b0;obtain ⟨d0,d1,d2⟩:=cells2 b1;clear b0 b1 b3 q))
  go_ret
  exact ⟨rfl,(HX.out _ H2.out).2.2⟩
 ·have h1:b≤th:=by omega
  go_enter Tryz.func21,Tryz.ntmps21
  go_wp2_with (first
   | (go_at_call 47;refine (HN.out _ (HX.out _ (H1.out.alloc H1.out.size _)).2.2).mono ?_;rintro e u2 ⟨br,rfl,q⟩;have H2:=Lib.hid (below_chain (H1.out.alloc H1.out.size _) q);obtain ⟨x0,x1,x2,x3,x4⟩:=cells4 (HX.out _ H2.out).1;clear q)
   | (go_at_call 22;refine (HP.out _).mono ?_;rintro e u1 ⟨rfl,q⟩;have H1:=Lib.hid q;obtain ⟨b0,b1,b3⟩:=HX.out _ q;obtain ⟨c0,c1,c2,c3,c4⟩:=cells4 b0;obtain ⟨d0,d1,d2⟩:=cells2 b1;clear b0 b1 b3 q))
  go_ret
  exact ⟨rfl,(HX.out _ H2.out).2.2⟩
theorem take_fix {l:List Nat} {j:Nat} (h:j<l.length):(l.take j).map fixB ++ [fixB (l.getD j 0)]=(l.take (j+1)).map fixB:=by
 rw [List.take_add_one,List.map_append,List.getD_eq_getElem?_getD,List.getElem?_eq_getElem h]
 rfl
theorem dloop_new {u1 u2:World} {br bl ca:Nat} {pa:Option Addr} (hC:CodeAt w ao cs) (hn:cs.length=n) (h1:Below w.heap.size w u1) (h:RNew u1 u2 (newM a c e t cs l) { rq0 b t ao n cap (!checkB t cs) bl with pa:=pa,na:=8,ca:=ca } br (eight (argF l))) {v:World} (hv:Same (u2.alloc (.cells (dboxY { newY a b c e t cs l th with args:=[] } ⟨br,bl,[],none,0,cs⟩ ⟨rq0 0 0 none 0 0 false 0,none,0⟩) 47)) v):∃ q,DLoop w v.heap.size v u2.heap.size { newY a b c e t cs l th with args:=[] } ⟨br,bl,krA ao cs,none,0,cs⟩ q:=by
 have hR:=h.ref h1 hC hn
 have hA:=h.abv
 have hb2:=h.bl
 have ha:Below u2.heap.size u2 v:=(below_alloc _ _).trans (hv.below _)
 have hbx:v.heap[u2.heap.size]?=some (.cells (dboxY { newY a b c e t cs l th with args:=[] } ⟨br,bl,[],none,0,cs⟩ ⟨rq0 0 0 none 0 0 false 0,none,0⟩) 47 (0,0)):=by rw [hv.heap];exact heap_alloc_new _ _
 have l2:u2.heap.size<v.heap.size:=lt_of_block hbx
 have hk:Blw w (fpK { rq0 b t ao n cap (!checkB t cs) bl with pa:=pa,na:=8,ca:=ca } cs):=fpK_blw hC
 have s1:=h1.size
 have s2:=hb2.size
 have lF:∀ i∈Fr br { rq0 b t ao n cap (!checkB t cs) bl with pa:=pa,na:=8,ca:=ca },i<u2.heap.size:=hR.lt
 refine ⟨⟨{ rq0 b t ao n cap (!checkB t cs) bl with pa:=pa,na:=8,ca:=ca },none,0⟩,⟨⟨hbx,hR.on ha,⟨rfl,rfl⟩,Ro.nil _,(fun i hi=>by simp [fpR] at hi),Ro.nil _,(fun i hi=>by simp [fpR] at hi),Nat.le_refl _,fun y=>?_,⟨by simp [fpR],by simp [fpR]⟩,⟨by simp [fpR],by simp [fpR]⟩⟩,⟨⟨rfl,.inl ⟨rfl,rfl⟩⟩⟩,fun i hi=>?_,(fun i hi=>by simp [fpR] at hi),fun i hi=>?_,hk,h1.trans ((hb2.trans (ha.mono hb2.size)).mono s1),by omega⟩⟩
 ·rcases List.mem_append.1 y with y | y
  ·rcases List.mem_append.1 y with y | y
   ·exact absurd (lF _ y) (Nat.lt_irrefl _)
   ·simp [fpR] at y
  ·rcases List.mem_append.1 y with y | y
   ·have:=hk _ y;omega
   ·simp [fpR] at y
 ·simp only [List.mem_cons,List.mem_append] at hi
  rcases hi with rfl | hi | hi
  ·exact l2
  ·rcases List.mem_append.1 hi with hi | hi
   ·have:=lF i hi;omega
   ·simp [fpR] at hi
  ·have:=hk i hi;omega
 ·simp only [List.mem_cons] at hi
  rcases hi with rfl | hi
  ·omega
  ·rcases List.mem_append.1 hi with hi | hi
   ·have:=hA i hi;omega
   ·simp [fpR] at hi
theorem dnew_yes (hc:Md.cfgB a b c e=true) (hn:cs.length=n) (hk:l.length=k) (hk8:k≤8) (hC:CodeAt w ao cs) (hL:FlAt w po l) (hnl:n≤9223372036854775807) (h0:0≤th) (h1:th<b):Calls Tryz.prog 21 #[cfgV a b c e,.int .i64 th,.agg #[.int .i64 t,.slice ao n cap],.slice po k co] w fun r w'=>∃ bd,r=.returned (.pointer (some ⟨bd,0,none⟩))∧DMade w w' bd (newY a b c e t cs l th) ao cs:=by
 have HN:Hid (∀ u,Below w.heap.size w u→Calls Tryz.prog 47 #[cfgV a b c e,.agg #[.int .i64 t,.slice ao n cap],.slice po k co] u fun r w'=>∃ br bl pa ca,r=.returned (.pointer (some ⟨br,0,none⟩))∧RNew u w' (newM a c e t cs l) { rq0 b t ao n cap (!checkB t cs) bl with pa:=pa,na:=8,ca:=ca } br (eight (argF l))):=fun u hb=>rnew_some hc hn hk hk8 (hC.on hb) (hL.on hb) hnl
 have HP:=Lib.hid (fun u=>Md.refPlace_any a b c e u)
 have HX:Hid (∀ u,Below (newW w a b c e t ao n cap).heap.size (newW w a b c e t ao n cap) u→u.heap[w.heap.size]?=some (cfgO a b c e)∧u.heap[w.heap.size+1]?=some (prgO t ao n cap)∧Below w.heap.size w u):=fun u q=>⟨(q.block _ (by simp;omega)).trans (heap_old (heap_alloc_new _ _)),(q.block _ (by simp)).trans (heap_new (by simp)),(newW_boxes q).2.2⟩
 simp only [hc] at HP
 have HDL:Hid (∀ u1 u2 br bl ca pa v,Below w.heap.size w u1→RNew u1 u2 (newM a c e t cs l) { rq0 b t ao n cap (!checkB t cs) bl with pa:=pa,na:=8,ca:=ca } br (eight (argF l))→Same (u2.alloc (.cells #[.int .i64 0,.int .i64 1,.int .i64 2,.int .i64 3,.int .i64 (3+b),.int .i64 (3+b+3*a),.pointer (some ⟨br,0,none⟩),.int .i64 b,.int .i64 t,.slice none 0 0,.int .i64 1,.int .u64 0,.int .u64 0,.slice none 0 0,.int .i64 0,.int .i64 0,.int .i64 0] 47)) v→∃ q,DLoop w v.heap.size v u2.heap.size { newY a b c e t cs l th with args:=[] } ⟨br,bl,krA ao cs,none,0,cs⟩ q):=fun u1 u2 br bl ca pa v q1 q2 q3=>dloop_new hC hn q1 q2 q3
 have HL:Hid (∀ u,Below w.heap.size w u→FlAt u po l):=fun u hb=>hL.on hb
 have HK:Hid (l.length=k):=hk
 obtain ⟨i0,hi,hz0,hz1,hz2⟩:=info_parts fInfo
 have HZI:=Lib.hid (And.intro hi (And.intro hz0 (And.intro hz1 hz2)))
 clear hc hn hk hC hL hnl hi hz0 hz1 hz2
 obtain ⟨p5,h5⟩:∃ p5,3+b+3*a=p5:=⟨_,rfl⟩
 obtain ⟨p4,h4⟩:∃ p4,3+b=p4:=⟨_,rfl⟩
 rw [h5,h4] at HDL HP
 clear h4 h5
 generalize newM a c e t cs l=m0 at *
 go_enter Tryz.func21,Tryz.ntmps21
 go_wp2_with (first
  | (go_at_call 47;refine (HN.out _ (HX.out _ (H1.out.alloc H1.out.size _)).2.2).mono ?_;rintro e u2 ⟨br,bl,pa,ca,rfl,q⟩;have H2:=Lib.hid (below_chain (H1.out.alloc H1.out.size _) q.bl);have HRN:=Lib.hid q;obtain ⟨x0,x1,x2,x3,x4⟩:=cells4 (HX.out _ H2.out).1;obtain ⟨s0,s1,s2⟩:=cells2 (HX.out _ H2.out).2.1;obtain ⟨t0,t1,t2,t3,t4,t5,t6⟩:=cells6 ((q.bl.block _ (by simp)).trans (heap_alloc_new u1 (.cells #[.int .i64 0,.int .i64 1,.int .i64 2,.int .i64 3,.int .i64 p4,.int .i64 p5] 43)));clear q)
  | (go_at_call 22;refine (HP.out _).mono ?_;rintro e u1 ⟨rfl,q⟩;have H1:=Lib.hid q;obtain ⟨b0,b1,b3⟩:=HX.out _ q;obtain ⟨c0,c1,c2,c3,c4⟩:=cells4 b0;obtain ⟨d0,d1,d2⟩:=cells2 b1;clear b0 b1 b3 q))
 obtain ⟨v0,hv0⟩:∃ v0,v0=u2.alloc (.cells #[.int .i64 0,.int .i64 1,.int .i64 2,.int .i64 3,.int .i64 p4,.int .i64 p5,.pointer (some ⟨br,0,none⟩),.int .i64 b,.int .i64 t,.slice none 0 0,.int .i64 1,.int .u64 0,.int .u64 0,.slice none 0 0,.int .i64 0,.int .i64 0,.int .i64 0] 47):=⟨_,rfl⟩
 rw [← hv0]
 obtain ⟨q0,hq0⟩:=HDL.out (u1.alloc (.cells #[.int .i64 0,.int .i64 1,.int .i64 2,.int .i64 3,.int .i64 p4,.int .i64 p5] 43)) u2 br bl ca pa v0 (HX.out _ (H1.out.alloc H1.out.size _)).2.2 HRN.out (by rw [hv0];exact Same.refl _)
 have HQ0:=Lib.hid hq0
 clear hv0 hq0 HDL HRN HN HP HX H1 H2 x0 x1 x2 x3 x4 s0 s1 s2 t0 t1 t2 t3 t4 t5 t6 c0 c1 c2 c3 c4 d0 d1 d2
 obtain ⟨X,hX⟩:∃ X,X=newY a b c e t cs l th:=⟨_,rfl⟩
 rw [← hX] at HQ0
 have HXE:=Lib.hid hX
 clear hX
 go_loopw [50] (fun vi wr=>∃ j:Nat,vi=.int .i64 j∧j≤k∧Hid (∃ p' c',DLoop w v0.heap.size wr u2.heap.size { X with args:=(l.take j).map fixB } ⟨br,bl,krA ao cs,p',c',cs⟩ q0∧v0.heap.size≤wr.heap.size)) (fun vi _=>k - (intOf vi).toNat)
 case atStart=>exact ⟨0,rfl,Nat.zero_le _,none,0,HQ0.out,Nat.le_refl _⟩
 case round =>
  obtain ⟨j,rfl,hj,HR⟩:=hrel
  obtain ⟨p',c',hr,hsz⟩:=HR.out
  by_cases hlt:j<k
  ·have hlt':(j:Int)<(k:Int):=by omega
   obtain ⟨g,o,rfl,hg,hx⟩:=HL.out _ hr.bl j (by rw [HK.out];exact hlt)
   have hl:((l.take j).map fixB).length=j:=by simp;have:=HK.out;omega
   have HE:=Lib.hid (take_fix (l:=l) (j:=j) (by rw [HK.out];exact hlt))
   generalize l.getD j 0=y at hx HE
   have h9:wr.cell? ⟨u2.heap.size,9,none⟩=some (.slice p' j c'):=(hr.raw.cell 9).trans (by show some (Value.slice p' ((l.take j).map fixB).length c')=_;rw [hl])
   have hbr:=hr.raw.ltB
   have HO:Hid (wr.ownsRow 0 64 1 (.slice p' j c') j (fls ((l.take j).map fixB))):=by
    have:=hr.row.own
    dsimp only at this
    rw [fls_len,hl] at this
    exact this
   have HM:Hid (∀ w3 v ob,w3.ownsRow 0 64 1 v (j+1) (fls ((l.take j).map fixB) ++ [.float .f64 (fixB y)])→(wr.drew.alloc ob).grownBy w3 (Value.slice p' j c').ownBlock→(v.ownBlock=(Value.slice p' j c').ownBlock∨v.ownBlock=some (wr.drew.alloc ob).heap.size)→∃ p2 c2,v=.slice p2 (j+1) c2∧w3.heap[u2.heap.size]?=some (.cells (dboxY { X with args:=(l.take j).map fixB } ⟨br,bl,krA ao cs,p',c',cs⟩ q0) 47 (0,0))∧DLoop w v0.heap.size (w3.setCell ⟨u2.heap.size,9,none⟩ (.slice p2 (j+1) c2)) u2.heap.size { X with args:=(l.take (j+1)).map fixB } ⟨br,bl,krA ao cs,p2,c2,cs⟩ q0∧v0.heap.size≤(w3.setCell ⟨u2.heap.size,9,none⟩ (.slice p2 (j+1) c2)).heap.size):=fun w3 v ob q1 q2 q3=>by
    have hs:DLoop w v0.heap.size wr.drew u2.heap.size { X with args:=(l.take j).map fixB } ⟨br,bl,krA ao cs,p',c',cs⟩ q0:=⟨hr.raw.on ((Same.drew wr).below _),hr.row.on ((Same.drew wr).below _),hr.lo,hr.hi,hr.ab,hr.bk,hr.bl.trans ((Same.drew wr).below _),hr.sz⟩
    have:=hs.more (w3:=w3) (v:=v) (y:=fixB y) (o:=ob) hsz (by dsimp only;rw [hl];exact q1) (by dsimp only;rw [hl];exact q2) (by dsimp only;rw [hl];exact q3)
    dsimp only at this
    rw [hl,HE.out] at this
    exact this
   have OD:Hid (wr.drew.ownsRow 0 64 1 (.slice p' j c') j (fls ((l.take j).map fixB))):=HO.out
   have HLJ:Hid (((l.take j).map fixB).length=j):=hl
   clear HR hr hsz hl HL
   go_wp2_with fail
   refine wp_region_seqE (fun u=>u.cell? ⟨u2.heap.size,9,none⟩=some (.slice p' j c') )  ((0,true)::(1,true)::(2,true)::(3,true)::(4,true)::(5,true)::(6,false)::(7,false)::(8,false)::(9,true)::(10,true)::(11,false)::[])  Md.Cv.follows13 (by kernel_rfl) (fun _ _ _ _ _ h=>h)  h9 ?_
   (repeat (refine wpSeqE_take (v:=?_) rfl (by rfl) (fun wq hSq=>?_) ?_;rotate_left;(focus ((try dsimp only at hSq);go_simp;try with_reducible rfl));simp only [Act.put,List.setIfInBounds_toArray,List.set_cons_zero,List.set_cons_succ]))
   (refine wpSeqE_do rfl (by rfl) (fun KK hK=>?_);go_simp)
   refine (refFix_any _ _).mono ?_
   rintro r u ⟨rfl,hu⟩
   subst u
   refine hK.out _ _ (fun _=>h9) ?_
   (clear hK KK;try simp only [Act.put,List.setIfInBounds_toArray,List.set_cons_zero,List.set_cons_succ])
   (refine wpSeqE_do rfl (by rfl) (fun KK hK=>?_);go_simp)
   have h9a:(wr.drew.alloc (.cells #[.float .f64 (fixB y)] 64)).cell? ⟨u2.heap.size,9,none⟩=some (.slice p' j c'):=(World.cell?_alloc_old _ _ _ (Nat.ne_of_lt hbr)).trans h9
   refine hK.out _ _ (fun _=>h9a) ?_
   (clear hK KK;try simp only [Act.put,List.setIfInBounds_toArray,List.set_cons_zero,List.set_cons_succ])
   refine wpSeqE_do rfl (by rfl) (fun KK hK=>?_)
   refine wp_append_ex _ _ 27 27 rfl (.slice p' j c') (.slice (some ⟨wr.heap.size,0,none⟩) 1 1) rfl rfl (run_append_own_at (P:=Tryz.prog) (wr.drew.alloc (.cells #[.float .f64 (fixB y)] 64)) 0 27 27 64 i0 (.float .f64 0) 1 8 Tryz.underlying27 HZI.out.1 HZI.out.2.1 HZI.out.2.2.1 HZI.out.2.2.2 rfl (by decide) _ j (fls ((l.take j).map fixB)) (World.ownsRow.alloc (OD.out) _) ⟨wr.heap.size,0,none⟩ 1 1 [.float .f64 (fixB y)] rfl (cell_one_new wr.drew _ _) (fun u hu=>by simp at hu;subst hu;rfl) (by unfold maxLen;omega) (by omega) (Nat.zero_le _)) ?_
   rintro v3 w3 ⟨hown3,hgrow3,hnil3,hat3⟩
   obtain ⟨p2,c2,hv3,k1,k2,k3⟩:=HM.out _ _ _ hown3 hgrow3 hat3
   subst hv3
   have c9:w3.cell? ⟨u2.heap.size,9,none⟩=some (.slice p' j c'):=by
    rw [cell_of_row w3 _ 9 _ _ _ k1]
    show some (Value.slice p' ((l.take j).map fixB).length c')=_
    rw [HLJ.out]
   have f9:=frozen_of_row w3 _ 9 _ _ k1
   have l9:=lt_of_block k1
   have HKK:=Lib.hid (And.intro k2 k3)
   clear hown3 hgrow3 hnil3 hat3 k1 k2 k3 HM
   refine hK.out _ _ (fun _=>c9) ?_
   (clear hK KK;try simp only [Act.put,List.setIfInBounds_toArray,List.set_cons_zero,List.set_cons_succ])
   (repeat (refine wpSeqE_take (v:=?_) rfl (by rfl) (fun wq hSq=>?_) ?_;rotate_left;(focus ((try dsimp only at hSq);go_simp;try with_reducible rfl));simp only [Act.put,List.setIfInBounds_toArray,List.set_cons_zero,List.set_cons_succ]))
   (refine wpSeqE_do rfl (by rfl) (fun KK hK=>?_);go_simp)
   refine hK.out _ _ (fun hn=>absurd rfl hn) ?_
   (clear hK KK;try simp only [Act.put])
   refine wpSeqE_nil ?_
   go_wp2_with fail
   exact ⟨⟨j+1,by first | rfl | (congr 1),by omega,p2,c2,HKK.out⟩,by simp [intOf];omega⟩
  ·have hlt':¬ (j:Int)<(k:Int):=by omega
   obtain rfl:j=k:=by omega
   have HZ:Hid (DMade w wr u2.heap.size X ao cs):=by
    have e:(l.take j).map fixB=X.args:=by rw [HXE.out,List.take_of_length_le (by rw [HK.out];exact Nat.le_refl _)];rfl
    rw [e] at hr
    exact ⟨⟨_,q0,rfl,rfl,hr.raw,hr.ab,hr.hi.mono hr.sz⟩,hr.bl⟩
   clear HR hr hsz
   go_wp2
   go_ret
   exact ⟨_,rfl,by rw [← HXE.out];exact HZ.out⟩
end
end Go.Proofs.YteinilmecnlanabGreatDoor.Ww
namespace Go.Proofs.YteinilmecnlanabGreatDoor.Ww
open Go.ChangeShapes Go.WideShapes Go.ChangeAt Go.RowKit Num Rr
section
variable {W w w':World} {G0:List Nat} {b mb mg:Nat} {x:Wx} {z:Wz} {ws:List Int} {o:Bool} {n:Int}
theorem full_new {bx:Nat} (hW:Below W.heap.size W w) (hm:MemAt 95 w mb mg ws o n) (ab:W.heap.size≤mb) (ag:W.heap.size≤mg) (h:Made w w' bx x):∃ z,Full W [] bx z mb mg w' x ws o n:=by
 obtain ⟨z,v,h1,hv,h2,h3⟩:=h.at_
 have hs:=hW.size
 have l1:=hm.ltB
 have l2:=hm.ltG
 refine ⟨z,v,⟨h1,hm.on h.bl,fun i hi y=>?_,fun i hi y=>?_,?_⟩,hv⟩
 ·have:=h2 i y
  simp only [List.mem_cons,List.not_mem_nil,or_false] at hi
  omega
 ·have:=h3 i y
  simp only [List.mem_cons,List.not_mem_nil,or_false] at hi
  omega
 ·refine (Below.turn (hW.trans (h.bl.mono hs)) []).mono fun i hi=>.inr ?_
  simp only [List.mem_cons] at hi
  rcases hi with hi | hi | hi
  ·omega
  ·omega
  ·have:=h2 i hi;omega
theorem Full.rebase (h:Full W G0 b z mb mg w x ws o n):∃ G,Full w G b z mb mg w x ws o n∧Turn G0 G W w∧Blw w G∧Sep z.KK G∧Blw w z.KK:=by
 obtain ⟨v,⟨h1,h2,h3,h4,t⟩,h5⟩:=h
 refine ⟨mb::mg::gY b v,⟨v,⟨h1,h2,h3,h4,Turn.refl _ _⟩,h5⟩,t,fun i hi=>?_,fun i hi y=>?_,h1.blwK⟩
 ·simp only [List.mem_cons] at hi
  rcases hi with rfl | rfl | hi
  ·exact h2.ltB
  ·exact h2.ltG
  ·exact h1.blw i hi
 ·simp only [List.mem_cons] at y
  rcases y with rfl | rfl | y
  ·exact h4 _ (by simp) hi
  ·exact h4 _ (by simp) hi
  ·exact h1.sep i hi y
theorem Full.from {G:List Nat} (h:Full w G b z mb mg w' x ws o n) (t:Turn G0 G W w):Full W G0 b z mb mg w' x ws o n:=by
 obtain ⟨v,⟨h1,h2,h3,h4,t2⟩,h5⟩:=h
 exact ⟨v,⟨h1,h2,h3,h4,t.trans t2⟩,h5⟩
theorem Full.below (h:Full W [] b z mb mg w x ws o n):Below W.heap.size W w:=by
 obtain ⟨v,⟨h1,h2,h3,h4,t⟩,h5⟩:=h
 exact t.below (fun _ hi=>by simp at hi) (Nat.le_refl _)
theorem Full.mem (h:Full W G0 b z mb mg w x ws o n):MemAt 95 w mb mg ws o n:=by
 obtain ⟨v,h1,_⟩:=h
 exact h1.mem
theorem Full.memb {ws':List Int} {o':Bool} {n':Int} (h:Full W G0 b z mb mg w x ws o n) (k:Chg mb mg w w') (hm:MemAt 95 w' mb mg ws' o' n'):Full W G0 b z mb mg w' x ws' o' n':=by
 obtain ⟨v,h1,h2⟩:=h
 exact ⟨v,h1.memb k hm,h2⟩
theorem Full.deed (h:Full W G0 b z mb mg w x ws o n) (hI:InY x) {na:Nat} (hna:x.args.length=na) {m:Mac} (hm:x.m=m) {mk nu e0 e1 e2:Int} (hk:markY x=mk) (hnu:x.num=nu) (h0:endJ x m.how=e0) (h1:endJ x m.cod=e1) (h2:endJ x m.err=e2):Calls Tryz.prog 13 #[.pointer (some ⟨b,0,none⟩)] w fun e w'=>∃ D,e=.returned (.agg (dC x.tag na m D mk nu e0 e1 e2 x.steps))∧DdAt w' w.heap.size D x.args m∧Below w.heap.size w w':=by
 obtain ⟨v,r,hv⟩:=h.raw
 exact Deed_any r hv hI hna hm hk hnu h0 h1 h2
theorem Full.phase (h:Full W G0 b z mb mg w x ws o n):Calls Tryz.prog 16 #[.pointer (some ⟨b,0,none⟩)] w fun e w'=>e=.returned (.int .i64 (x.part:Int))∧w'=w:=by
 obtain ⟨v,r,_⟩:=h.raw
 exact phase_raw r
end
def lvC:List Ins:=[⟨1,0,4617315517961601024⟩,⟨1,0,0⟩,⟨17,0,0⟩,⟨20,0,0⟩]
def lvW:List Int:=[0,0,0,0,0,0,0,0]
def lvS:Nat→Wx × List Int × Bool × Int
 | 0=>(newY 1 2 20 1 2 lvC [] 0,lvW,false,0)
 | i+1=>((stepY (lvS i).1 (lvS i).2.1).1,(stepY (lvS i).1 (lvS i).2.1).2.1,!(stepY (lvS i).1 (lvS i).2.1).2.2,if (stepY (lvS i).1 (lvS i).2.1).2.2 then up (lvS i).2.2.2 else (lvS i).2.2.2)
theorem lvS_part:∀ i,i<14→(lvS i).1.part≠9∧(lvS i).1.steps=(i:Int):=by
 intro i hi
 have:((List.range 14).all fun i=>(lvS i).1.part != 9 && decide ((lvS i).1.steps=(i:Int)))=true:=by decide +kernel
 have:=List.all_eq_true.1 this i (List.mem_range.2 hi)
 simpa using this
theorem lvS_end:(lvS 14).1.part=9∧(lvS 14).2.1=[1,1,1,0,0,1,4617315517961601024,0]∧markY (lvS 14).1=0∧(lvS 14).1.num=1∧(lvS 14).1.steps=14∧(lvS 14).1.m.how=1∧(lvS 14).1.m.cod=0∧(lvS 14).1.m.err=0:=by
 refine ⟨by decide +kernel,by decide +kernel,by decide +kernel,by decide +kernel,by decide +kernel,by decide +kernel,by decide +kernel,by decide +kernel⟩
theorem lvS_in:∀ i,i≤14→InY (lvS i).1∧okW (lvS i).2.1∧plY (lvS i).1≤((lvS i).2.1.length:Int)
 | 0,_=>⟨new_inY (by decide +kernel) (fun k hk=>by
   match k,hk with
   | 0,_=>decide
   | 1,_=>decide
   | 2,_=>decide
   | 3,_=>decide
   | k+4,h=>exact absurd h (by simp [lvC])) (fun x hx=>by simp at hx) (by decide) ⟨by decide,by decide⟩,(fun v hv=>by
   simp only [lvS,lvW,List.mem_cons,List.not_mem_nil,or_false] at hv
   unfold u64B
   omega),by decide +kernel⟩
 | i+1,h=>by
  obtain ⟨h1,h2,h3⟩:=lvS_in i (by omega)
  obtain ⟨g1,g2,_,g4,g5⟩:=step_inY h1 (lvS_part i (by omega)).1 h2
  refine ⟨g1,g4,?_⟩
  show plY (stepY (lvS i).1 (lvS i).2.1).1≤((stepY (lvS i).1 (lvS i).2.1).2.1.length:Int)
  rw [g5,plY_alike g2]
  exact h3
abbrev lvO:Obj:=.cells #[.int .i64 1,.int .i64 0,.float .f64 4617315517961601024,.int .i64 1,.int .i64 0,.float .f64 0,.int .i64 17,.int .i64 0,.float .f64 0,.int .i64 20,.int .i64 0,.float .f64 0] 66
abbrev lvN (W:World):World:=((W.alloc (cfgO 1 2 20 1)).alloc lvO).alloc (prgO 2 (some ⟨W.heap.size+1,0,none⟩) 4 4)
theorem lvN_below (W:World):Below W.heap.size W (lvN W):=((below_alloc W _).trans ((below_alloc _ _).mono (by simp))).trans ((below_alloc _ _).mono (by simp;omega))
theorem lvN_code {W u:World} (h:Below (lvN W).heap.size (lvN W) u):CodeAt u (some ⟨W.heap.size+1,0,none⟩) lvC∧u.heap[W.heap.size]?=some (cfgO 1 2 20 1)∧u.heap[W.heap.size+1+1]?=some (prgO 2 (some ⟨W.heap.size+1,0,none⟩) 4 4):=by
 have h1:(lvN W).heap[W.heap.size+1]?=some lvO:=heap_old (heap_new (by simp))
 have h0:(lvN W).heap[W.heap.size]?=some (cfgO 1 2 20 1):=heap_old (heap_old (heap_alloc_new _ _))
 have h2:(lvN W).heap[W.heap.size+1+1]?=some (prgO 2 (some ⟨W.heap.size+1,0,none⟩) 4 4):=heap_new (by simp)
 have hb:u.heap[W.heap.size+1]?=some lvO:=(h.block _ (lt_of_block h1)).trans h1
 refine ⟨fun i hi=>⟨_,0,rfl,lt_of_block hb,?_⟩,(h.block _ (lt_of_block h0)).trans h0,(h.block _ (lt_of_block h2)).trans h2⟩
 have C:∀ j,u.cell? ⟨W.heap.size+1,j,none⟩=_:=fun j=>cell_of_row u _ j _ _ _ hb
 match i,hi with
 | 0,_=>exact ⟨(C 0).trans rfl,(C 1).trans rfl,(C 2).trans rfl⟩
 | 1,_=>exact ⟨(C 3).trans rfl,(C 4).trans rfl,(C 5).trans rfl⟩
 | 2,_=>exact ⟨(C 6).trans rfl,(C 7).trans rfl,(C 8).trans rfl⟩
 | 3,_=>exact ⟨(C 9).trans rfl,(C 10).trans rfl,(C 11).trans rfl⟩
 | q+4,h=>exact absurd h (by simp [lvC])
attribute [local go_sem] bits_run
theorem live_any {W:World} (hT:Shaped5 W):Calls Tryz.prog 4 #[] W fun e w'=>e=.returned (.bool true)∧Below W.heap.size W w':=by
 have HM:Hid (∀ u,Calls Tryz.prog 17 #[.int .i64 8] u fun e w'=>e=.returned (.tuple #[.pointer (some ⟨u.heap.size+1,0,none⟩),.int .i64 0])∧MemAt 95 w' (u.heap.size+1) u.heap.size lvW false 0∧Below u.heap.size u w'):=fun u=>Md.new_some 8 (by omega) (by omega) u
 have HN:Hid (∀ u,Below (lvN W).heap.size (lvN W) u→Calls Tryz.prog 18 #[cfgV 1 2 20 1,.int .i64 0,.agg #[.int .i64 2,.slice (some ⟨W.heap.size+1,0,none⟩) 4 4],.slice none 0 0] u fun r w'=>∃ bx,r=.returned (.pointer (some ⟨bx,0,none⟩))∧Made u w' bx (lvS 0).1):=fun u hb=>new_yes (cs:=lvC) (l:=[]) (by decide +kernel) rfl rfl (by omega) ((hT.on (lvN_below W)).on hb) (lvN_code hb).1 (fun j hj=>by simp at hj) (by omega) (by omega) (by omega)
 have HB:=Lib.hid (lvN_below W)
 have HC:Hid (∀ u,Below (lvN W).heap.size (lvN W) u→u.heap[W.heap.size]?=some (cfgO 1 2 20 1)∧u.heap[W.heap.size+1+1]?=some (prgO 2 (some ⟨W.heap.size+1,0,none⟩) 4 4)):=fun u hb=>(lvN_code hb).2
 have T0:Hid (TabAt W []):=⟨hT,by simp⟩
 have he1:=fun w=>end_eq 1 0 0 w
 clear hT
 go_enter Tryz.func4,Tryz.ntmps4
 go_wp2_with (first
  | (go_at_call 18;refine (HN.out _ H1.out.2.1).mono ?_;rintro e u2 ⟨bx,rfl,q⟩;have H2:=Lib.hid q;clear q HN)
  | (go_at_call 17;refine (HM.out _).mono ?_;rintro e u1 ⟨rfl,q1,q2⟩;have H1:Hid (MemAt 95 u1 ((lvN W).heap.size+1) (lvN W).heap.size lvW false 0∧Below (lvN W).heap.size (lvN W) u1∧Below W.heap.size W u1):=⟨q1,q2,HB.out.trans (q2.mono HB.out.size)⟩;obtain ⟨y0,y1⟩:=HC.out _ q2;obtain ⟨c0,c1,c2,c3,c4⟩:=cells4 y0;obtain ⟨d0,d1,d2⟩:=cells2 y1;clear q1 q2 y0 y1 HM HC))
 have HF0:Hid (∃ z,Full W [] bx z (W.heap.size+1+1+1+1) (W.heap.size+1+1+1) u2 (lvS 0).1 lvW false 0):=by
  have e:(lvN W).heap.size=W.heap.size+1+1+1:=by simp
  have h1:=H1.out
  rw [e] at h1
  exact full_new h1.2.2 h1.1 (by omega) (by omega) H2.out
 obtain ⟨z,hz⟩:=HF0.out
 have HF:=Lib.hid hz
 clear hz HF0 H1 H2 c0 c1 c2 c3 c4 d0 d1 d2 HB
 obtain ⟨mb,hmb⟩:∃ mb,W.heap.size+1+1+1+1=mb:=⟨_,rfl⟩
 obtain ⟨mg,hmg⟩:∃ mg,W.heap.size+1+1+1=mg:=⟨_,rfl⟩
 rw [hmb,hmg] at HF
 rw [hmb]
 clear hmb hmg
 go_loopw [0,4,6,7] (fun v0 v4 v6 v7 wr=>∃ i:Nat,v7=.int .i64 i∧i≤14∧v6=.bool (decide (i=14))∧v4=.int .i64 0∧v0=.bool false∧Hid (Full W [] bx z mb mg wr (lvS i).1 (lvS i).2.1 (lvS i).2.2.1 (lvS i).2.2.2)) (fun v0 v4 v6 v7 _=>14 - (intOf v7).toNat)
 case atStart=>exact ⟨0,rfl,by omega,rfl,rfl,rfl,HF.out⟩
 case round =>
  obtain ⟨i,rfl,hi,rfl,rfl,rfl,HR⟩:=hrel
  clear HF
  by_cases hlt:i<14
  ·have hlt':(i:Int)<14:=by omega
   have hd:decide (i=14)=false:=decide_eq_false (by omega)
   have HI:=Lib.hid (lvS_in i (by omega))
   have HS:Hid (Calls Tryz.prog 8 #[.pointer (some ⟨bx,0,none⟩),.pointer (some ⟨mb,0,none⟩)] wr fun e w'=>e=.returned (.tuple #[.bool (decide (i+1=14)),.int .i64 0])∧Full W [] bx z mb mg w' (lvS (i+1)).1 (lvS (i+1)).2.1 (lvS (i+1)).2.2.1 (lvS (i+1)).2.2.2):=by
    have hst:=(lvS_part i hlt).2
    have:=step_any HR.out T0.out HI.out.1 (lvS_part i hlt).1 HI.out.2.2 (by omega) (by omega) (y:=(lvS (i+1)).1) (ws':=(lvS (i+1)).2.1) (ac:=(stepY (lvS i).1 (lvS i).2.1).2.2) rfl
    have e:decide (((lvS (i+1)).1.part:Int)=9)=decide (i+1=14):=by
     rw [decide_eq_decide]
     by_cases q:i+1=14
     ·rw [q];simp [lvS_end.1]
     ·have:=(lvS_part (i+1) (by omega)).1
      omega
    rw [e] at this
    exact this
   clear HI
   generalize hod:decide (i+1=14)=od at HS
   rw [hd]
   clear hd
   go_wp2_with (go_at_call 8;refine HS.out.mono ?_;rintro e u3 ⟨rfl,q⟩;have HQ:=Lib.hid q;clear q HS)
   subst hod
   exact ⟨⟨i+1,by first | rfl | (congr 1),by omega,rfl,rfl,rfl,HQ.out⟩,by simp [intOf];omega⟩
  ·have hlt':¬ (i:Int)<14:=by omega
   obtain rfl:i=14:=by omega
   obtain ⟨e1,e2,e3,e4,e5,e6,e7,e8⟩:=lvS_end
   have HI:=Lib.hid (lvS_in 14 (by omega)).1
   have HAL:Hid (∀ u,Below wr.heap.size wr u→Calls Tryz.prog 19 #[.pointer (some ⟨mb,0,none⟩)] u fun e w'=>e=.returned (.slice (some ⟨u.heap.size,0,none⟩) 8 8)∧(w'.cell? ⟨u.heap.size,0,none⟩=some (.int .u64 1)∧w'.cell? ⟨u.heap.size,1,none⟩=some (.int .u64 1)∧w'.cell? ⟨u.heap.size,2,none⟩=some (.int .u64 1)∧w'.cell? ⟨u.heap.size,5,none⟩=some (.int .u64 1)∧w'.cell? ⟨u.heap.size,6,none⟩=some (.int .u64 4617315517961601024)∧w'.cell? ⟨u.heap.size,7,none⟩=some (.int .u64 0)∧u.heap.size<w'.heap.size)∧Below u.heap.size u w'):=fun u hu=>by
    have:=Md.all_any (HR.out.on hu).mem
    rw [e2] at this
    refine this.mono ?_
    rintro e w' ⟨q1,q2,q3⟩
    have C:∀ j,w'.cell? ⟨u.heap.size,j,none⟩=_:=fun j=>cell_of_row w' _ j _ _ _ q2
    exact ⟨q1,⟨(C 0).trans rfl,(C 1).trans rfl,(C 2).trans rfl,(C 5).trans rfl,(C 6).trans rfl,(C 7).trans rfl,q2.lt⟩,q3⟩
   have HPH:Hid (∀ u,Below wr.heap.size wr u→Calls Tryz.prog 16 #[.pointer (some ⟨bx,0,none⟩)] u fun e w'=>e=.returned (.int .i64 9)∧w'=u):=fun u hu=>by
    have:=(HR.out.on hu).phase
    rw [e1] at this
    exact this
   have HDE:Hid (Calls Tryz.prog 13 #[.pointer (some ⟨bx,0,none⟩)] wr fun e w'=>∃ D,e=.returned (.agg (dC (lvS 14).1.tag (lvS 14).1.args.length (lvS 14).1.m D 0 1 1 0 0 14))∧Below wr.heap.size wr w'):=by
    have:=HR.out.deed HI.out rfl rfl e3 e4 (show endJ (lvS 14).1 (lvS 14).1.m.how=1 by unfold endJ;rw [if_pos e1];exact e6) (show endJ (lvS 14).1 (lvS 14).1.m.cod=0 by unfold endJ;rw [if_pos e1];exact e7) (show endJ (lvS 14).1 (lvS 14).1.m.err=0 by unfold endJ;rw [if_pos e1];exact e8)
    rw [e5] at this
    exact this.mono (by rintro e w' ⟨D,q1,_,q3⟩;exact ⟨D,q1,q3⟩)
   have HB9:Hid (Below W.heap.size W wr):=HR.out.below
   clear HR HI e1 e2 e3 e4 e5 e6 e7 e8
   go_upto_region 16 with (first
    | (refine wpList_store_row rfl 59 _ _ rfl u4.heap.size (dC (lvS 14).1.tag (lvS 14).1.args.length (lvS 14).1.m D 0 1 1 0 0 14) rfl rfl _ _ (heap_alloc_new _ _) deedInfo rfl (deed_one _ _ _ _ _ _ _ _ _ _) ?_;rw [World.setRow_alloc_new];have G4:=Lib.hid (heap_alloc_new u4 (.cells (dC (lvS 14).1.tag (lvS 14).1.args.length (lvS 14).1.m D 0 1 1 0 0 14) 59)))
    | (go_at_call 19;refine (HAL.out _ (H4.out.alloc H4.out.size _)).mono ?_;rintro e u5 ⟨rfl,⟨w0,w1,w2,w5,w6,w7,wl⟩,q⟩;have H5:=Lib.hid (two_below (H4.out.alloc H4.out.size _) q);have G5:=(q.block _ (lt_of_block G4.out)).trans G4.out;have g5:u5.cell? ⟨u4.heap.size,5,none⟩=some (.int .i64 0):=(cell_of_row _ _ 5 _ _ _ G5).trans rfl;have g6:u5.cell? ⟨u4.heap.size,6,none⟩=some (.int .i64 1):=(cell_of_row _ _ 6 _ _ _ G5).trans rfl;have g15:u5.cell? ⟨u4.heap.size,15,none⟩=some (.int .i64 14):=(cell_of_row _ _ 15 _ _ _ G5).trans rfl;have g10:u5.cell? ⟨u4.heap.size,10,none⟩=some (.int .i64 1):=(cell_of_row _ _ 10 _ _ _ G5).trans rfl;have g11:u5.cell? ⟨u4.heap.size,11,none⟩=some (.int .i64 0):=(cell_of_row _ _ 11 _ _ _ G5).trans rfl;have g12:u5.cell? ⟨u4.heap.size,12,none⟩=some (.int .i64 0):=(cell_of_row _ _ 12 _ _ _ G5).trans rfl;have lg4:=lt_of_block G5;clear q G5)
    | (go_at_call 13;refine HDE.out.mono ?_;rintro e u4 ⟨D,rfl,q⟩;have H4:=Lib.hid q;clear q HDE))
   have A5:(u4.alloc (.cells (dC (lvS 14).1.tag (lvS 14).1.args.length (lvS 14).1.m D 0 1 1 0 0 14) 59)).heap.size=u4.heap.size+1:=by simp
   try rw [A5] at w0 w1 w2 w5 w6 w7 wl
   refine wp_region_seq (fun u=>(u.cell? ⟨u4.heap.size,5,none⟩=some (.int .i64 0)∧u.cell? ⟨u4.heap.size,6,none⟩=some (.int .i64 1)∧u.cell? ⟨u4.heap.size,15,none⟩=some (.int .i64 14)∧u.cell? ⟨u4.heap.size,10,none⟩=some (.int .i64 1)∧u.cell? ⟨u4.heap.size,11,none⟩=some (.int .i64 0)∧u.cell? ⟨u4.heap.size,12,none⟩=some (.int .i64 0))∧u.cell? ⟨u4.heap.size+1,0,none⟩=some (.int .u64 1)∧u.cell? ⟨u4.heap.size+1,1,none⟩=some (.int .u64 1)∧u.cell? ⟨u4.heap.size+1,2,none⟩=some (.int .u64 1)∧u.cell? ⟨u4.heap.size+1,5,none⟩=some (.int .u64 1)∧u.cell? ⟨u4.heap.size+1,6,none⟩=some (.int .u64 4617315517961601024)∧u.cell? ⟨u4.heap.size+1,7,none⟩=some (.int .u64 0) )  ((0,true)::(1,true)::(2,true)::(3,true)::(4,true)::(5,true)::(6,true)::(7,false)::(8,true)::(9,true)::(10,true)::(11,true)::(12,true)::(13,true)::(14,true)::(15,true)::(16,true)::(17,true)::(18,true)::(19,true)::(20,true)::(21,true)::(22,true)::(23,true)::(24,true)::(25,true)::(26,true)::(27,true)::(28,true)::(29,true)::(30,true)::(31,true)::(32,true)::(33,true)::(34,true)::(35,true)::(36,true)::(37,true)::(38,true)::(39,true)::(40,true)::(41,true)::(42,true)::(43,true)::(44,true)::(45,true)::(46,true)::(47,true)::(48,true)::(49,true)::(50,true)::(51,true)::(52,true)::(53,true)::(54,true)::(55,true)::(56,true)::(57,true)::(58,true)::(59,true)::(60,true)::(61,true)::(62,true)::(63,true)::(64,false)::(65,true)::(66,true)::(67,true)::(68,true)::(69,true)::(70,true)::(71,true)::(72,true)::(73,true)::[])  Md.Cv.follows13 (by kernel_rfl) (fun _ _ _ _ _ h=>h)  ⟨⟨g5,g6,g15,g10,g11,g12⟩,w0,w1,w2,w5,w6,w7⟩ ?_
   (repeat ((first | (refine wpSeq_take (v:=?_) rfl (by rfl) (fun wq hSq=>?_) ?_;rotate_left;(focus ((try dsimp only at hSq);go_simp;try with_reducible rfl))) | refine wpSeq_skip rfl (by rfl) ?_);simp only [Act.put,List.setIfInBounds_toArray,List.set_cons_zero,List.set_cons_succ]))
   (refine wpSeq_do rfl (by rfl) (fun KK hK=>?_);go_simp)
   go_at_call 16
   refine (HPH.out _ (H5.out.trans ((Same.drew _).below _))).mono ?_
   rintro e u6 ⟨rfl,hw⟩
   subst u6
   refine hK.out _ _ ⟨⟨g5,g6,g15,g10,g11,g12⟩,w0,w1,w2,w5,w6,w7⟩ ?_
   (clear hK KK;try simp only [Act.put,List.setIfInBounds_toArray,List.set_cons_zero,List.set_cons_succ])
   (repeat ((first | (refine wpSeq_take (v:=?_) rfl (by rfl) (fun wq hSq=>?_) ?_;rotate_left;(focus ((try dsimp only at hSq);go_simp;try with_reducible rfl))) | refine wpSeq_skip rfl (by rfl) ?_);simp only [Act.put,List.setIfInBounds_toArray,List.set_cons_zero,List.set_cons_succ]))
   (refine wpSeq_do rfl (by rfl) (fun KK hK=>?_);go_simp)
   refine hK.out _ _ ⟨⟨g5,g6,g15,g10,g11,g12⟩,w0,w1,w2,w5,w6,w7⟩ ?_
   (clear hK KK;try simp only [Act.put,List.setIfInBounds_toArray,List.set_cons_zero,List.set_cons_succ])
   (repeat ((first | (refine wpSeq_take (v:=?_) rfl (by rfl) (fun wq hSq=>?_) ?_;rotate_left;(focus ((try dsimp only at hSq);go_simp;try with_reducible rfl))) | refine wpSeq_skip rfl (by rfl) ?_);simp only [Act.put,List.setIfInBounds_toArray,List.set_cons_zero,List.set_cons_succ]))
   refine wpSeq_nil ?_
   go_wp2_with fail
   go_ret
   exact ⟨rfl,(two_below HB9.out H5.out).trans ((Same.drew _).below _)⟩
end Go.Proofs.YteinilmecnlanabGreatDoor.Ww
namespace Go.Proofs.YteinilmecnlanabGreatDoor.Ww
open Go.ChangeShapes Go.WideShapes Go.ChangeAt Go.RowKit Num Rr
def Cpy (B:Nat) (w':World) (e:TypeId) (sz:Nat) (p:Option Addr) (n c:Nat):Prop:=(p=none∧n=0)∨∃ g arr,p=some ⟨g,0,none⟩∧B≤g∧w'.heap[g]?=some (.cells arr e (0,0))∧arr.size=c*sz∧n≤c
theorem app_nil {t e ty:TypeId} {i:TypeInfo} {z:Value} (ht:Tryz.prog.underlying t=some (.slice e)) (hi:Tryz.prog.info? e=some i) (hz:i.zero=some z) (hzs:z.cells.size=i.size) {w:World} {news:List Value} {n:Nat} {x:Value} (hs:Src Tryz.prog i.size t x n news w) (hb:n*i.bytes≤140737488355328) (h63:n≤9223372036854775807) :
  ∃ v w',(Builtin.append_ #[t,t] ty #[.slice none 0 0,x]).run Tryz.prog w=.ok v w'∧∃ p c,v=.slice p n c∧Cpy w.heap.size w' e i.size p n c∧Ro w' p news∧Below w.heap.size w w':=by
 by_cases h0:n=0
 ·subst h0
  have hn:news=[]:=by have:=hs.newsLen;simpa using this
  refine ⟨.slice none 0 0,w,?_,none,0,rfl,.inl ⟨rfl,rfl⟩,by rw [hn];exact Ro.nil w,Below.refl _ _⟩
  simp [Builtin.append_,run_underlying ht,sizeOf,typeInfo,hi,hs.len,hs.cells,hn]
 ·have hold:(Builtin.firstCells i.size 0 (.slice none 0 0)).run Tryz.prog w.drew=.ok ([]:List Value).toArray w.drew:=run_firstCells_none _ _ _ _ _
  refine ⟨_,_,run_append_grow_src w t t ty e i z ht hi hz none 0 0 [] hold x n news hs (by omega) (by omega) (growslice_fits (by omega) (by simpa using hb)),some ⟨w.heap.size,0,none⟩,grownCap w (0+n) 0 e,by rw [Nat.zero_add],.inr ⟨w.heap.size,_,rfl,Nat.le_refl _,heap_new (w:=w.drew) (g:=w.heap.size) rfl,?_,by have:=grownCap_ge w (0+n) 0 e;omega⟩,.inr ⟨_,_,rfl,fun j v hv=>?_⟩,((Same.drew w).below _).trans (below_alloc w.drew _)⟩
  ·have hg:=grownCap_ge w (0+n) 0 e
   have hl:=hs.newsLen
   rw [Array.size_append,size_zeroCells,hzs,List.size_toArray,List.nil_append,hl,← Nat.add_mul,show n+(grownCap w (0+n) 0 e - (0+n))=grownCap w (0+n) 0 e by omega]
  ·have hj:=(List.getElem?_eq_some_iff.1 hv).1
   refine (cell_of_row _ w.heap.size (0+j) _ _ _ (heap_new (w:=w.drew) (g:=w.heap.size) rfl)).trans ?_
   rw [Nat.zero_add,Array.getElem?_append_left (by simpa using hj)]
   simpa using hv
theorem Cpy.on {B:Nat} {w u:World} {e:TypeId} {sz n c:Nat} {p:Option Addr} (h:Cpy B w e sz p n c) (k:Below w.heap.size w u):Cpy B u e sz p n c:=by
 rcases h with h | ⟨g,arr,h1,h0,h2,h3⟩
 ·exact .inl h
 ·exact .inr ⟨g,arr,h1,h0,(k.block _ (lt_of_block h2)).trans h2,h3⟩
theorem Cpy.mono {B B':Nat} {w:World} {e:TypeId} {sz n c:Nat} {p:Option Addr} (h:Cpy B w e sz p n c) (k:B'≤B):Cpy B' w e sz p n c:=by
 rcases h with h | ⟨g,arr,h1,h0,h2⟩
 ·exact .inl h
 ·exact .inr ⟨g,arr,h1,Nat.le_trans k h0,h2⟩
theorem Cpy.at_ {B:Nat} {w:World} {e:TypeId} {sz n c:Nat} {p:Option Addr} (h:Cpy B w e sz p n c) {i:Nat} (hi:i<n):∃ g,p=some ⟨g,0,none⟩∧B≤g∧g<w.heap.size∧∀ j,j<sz→(∃ v,w.cell? ⟨g,i*sz+j,none⟩=some v)∧w.frozen? ⟨g,i*sz+j,none⟩=false:=by
 rcases h with ⟨_,h⟩ | ⟨g,arr,h1,h0,h2,h3,h4⟩
 ·omega
 ·refine ⟨g,h1,h0,lt_of_block h2,fun j hj=>⟨?_,frozen_of_row w g _ _ _ h2⟩⟩
  rw [cell_of_row w g _ _ _ _ h2]
  have:i*sz+j<arr.size:=by
   rw [h3]
   have:=Nat.mul_le_mul_right sz (show i+1≤c by omega)
   rw [Nat.succ_mul] at this
   omega
  exact ⟨_,Array.getElem?_eq_getElem this⟩
theorem Cpy.put {B:Nat} {w:World} {e:TypeId} {sz n c:Nat} {p:Option Addr} (h:Cpy B w e sz p n c) (g j:Nat) (v:Value):Cpy B (w.setCell ⟨g,j,none⟩ v) e sz p n c:=by
 rcases h with h | ⟨g',arr,h1,h0,h2,h3,h4⟩
 ·exact .inl h
 ·by_cases q:g'=g
  ·subst q
   exact .inr ⟨g',_,h1,h0,heap_setCell_same w g' j _ _ v h2,by simpa using h3,h4⟩
  ·exact .inr ⟨g',arr,h1,h0,(heap_setCell_other _ _ _ _ q).trans h2,h3,h4⟩
theorem ro_code {w:World} {p:Option Addr} {cs:List Ins} (h:Ro w p (cs.flatMap insC)):CodeAt w p cs:=by
 rcases h with ⟨rfl,h⟩ | ⟨g,o,rfl,h⟩
 ·have:cs=[]:=by
   have:=congrArg List.length h
   rw [insC_len] at this
   exact List.eq_nil_of_length_eq_zero (by simp only [List.length_nil] at this;omega)
  subst this
  intro i hi
  simp at hi
 ·cases cs with
  | nil=>intro i hi;simp at hi
  | cons i cs=>exact codeAt_range (World.block_lt_of_cell? w _ (h 0 _ rfl)) h
abbrev rideV (a b c e th t:Int) (ao:Option Addr) (n cap:Nat) (po:Option Addr) (k co:Nat) (pw:Option Addr) (kw cw:Nat) (pp:Option Addr) (kp cp:Nat) (sp:Int):Array Value:=#[.int .i64 a,.int .i64 b,.int .i64 c,.int .i64 e,.int .i64 th,.int .i64 t,.slice ao n cap,.slice po k co,.slice pw kw cw,.slice pp kp cp,.int .i64 sp]
structure Bgn (w w':World) (bx bd:Nat) (x:Wx) (ao:Option Addr) (cs:List Ins):Prop where
 p:∃ z v zd qd,RawAt w' bx x z v∧Abv w.heap.size (gY bx v)∧Abv w.heap.size z.KK∧zd.cs=cs∧DRaw w' bd x zd qd∧Abv w.heap.size (bd::frY zd qd)∧Abv w.heap.size (fpR zd.pa)∧zd.KR=krA ao cs∧Sep (gY bx v) (dAll bd zd qd)∧Sep z.KK (bd::frY zd qd)∧VOk x v
 bl:Below w.heap.size w w'
theorem bgn_of {w u1 u2 u3 u4:World} {bx bd:Nat} {x:Wx} {ao:Option Addr} {cs:List Ins} (hC:CodeAt w ao cs) (h1:Below w.heap.size w u1) (hm:Made u1 u2 bx x) (t:∀ k,u1.heap.size≤k→k<u2.heap.size→u3.heap[k]?=u2.heap[k]?) (hs:u2.heap.size≤u3.heap.size) (hb3:Below w.heap.size w u3) (hd:DMade u3 u4 bd x ao cs):Bgn w u4 bx bd x ao cs:=by
 obtain ⟨z,v,m1,mv,m2,m3⟩:=hm.at_
 obtain ⟨zd,qd,d0,d4,d1,d2,d3⟩:=hd.at_
 have s1:=h1.size
 have s3:=hb3.size
 have s2:=hm.bl.size
 have r3:RawAt u3 bx x z v:=m1.keep ⟨hs,fun i hi=>t i (m2 i hi) (m1.blw i hi)⟩ ⟨hs,fun i hi=>t i (m3 i hi) (m1.blwK i hi)⟩
 have kr:Blw w zd.KR:=by rw [d4];exact krA_blw hC
 refine ⟨⟨z,v,zd,qd,r3.on hd.bl,m2.mono s1,m3.mono s1,d0,d1,d2.mono s3,d3.mono s3,d4,fun i hi y=>?_,fun i hi y=>?_,mv⟩,hb3.trans (hd.bl.mono s3)⟩
 ·have l1:=m1.blw i hi
  have l2:=m2 i hi
  have D2:i∈bd::frY zd qd→u3.heap.size≤i:=d2 i
  have D3:i∈fpR zd.pa→u3.heap.size≤i:=d3 i
  have D4:i∈zd.KR→i<w.heap.size:=kr i
  simp only [dAll,List.mem_cons,List.mem_append] at y D2
  rcases y with y | y | y | y
  ·have:=D2 (.inl y);omega
  ·have:=D2 (.inr y);omega
  ·have:=D4 y;omega
  ·have:=D3 y;omega
 ·have l1:=m1.blwK i hi
  have:=d2 i y
  omega
structure RideAt (W:World) (cs:List Ins) (l:List Nat) (ao po:Option Addr) (n k:Nat):Prop where
 sh:Shaped5 W
 hn:cs.length=n
 hk:l.length=k
 code:CodeAt W ao cs
 args:FlAt W po l
 cx:∀ i∈cs,i.x<18446744073709551616
 lx:∀ x∈l,x<18446744073709551616
 nb:n*24≤140737488355328
 kb:k*8≤140737488355328
theorem ride_cells {w:World} {x:Nat} {a b c e th t:Int} {ao:Option Addr} {n cap:Nat} {po:Option Addr} {k co:Nat} {pw:Option Addr} {kw cw:Nat} {pp:Option Addr} {kp cp:Nat} {sp:Int} (h:w.heap[x]?=some (.cells (rideV a b c e th t ao n cap po k co pw kw cw pp kp cp sp) 31 (0,0))):w.cell? ⟨x,0,none⟩=some (.int .i64 a)∧w.cell? ⟨x,1,none⟩=some (.int .i64 b)∧w.cell? ⟨x,2,none⟩=some (.int .i64 c)∧w.cell? ⟨x,3,none⟩=some (.int .i64 e)∧w.cell? ⟨x,4,none⟩=some (.int .i64 th)∧w.cell? ⟨x,5,none⟩=some (.int .i64 t)∧w.cell? ⟨x,6,none⟩=some (.slice ao n cap)∧w.cell? ⟨x,7,none⟩=some (.slice po k co)∧w.cell? ⟨x,8,none⟩=some (.slice pw kw cw)∧w.cell? ⟨x,9,none⟩=some (.slice pp kp cp)∧w.cell? ⟨x,10,none⟩=some (.int .i64 sp)∧x<w.heap.size :=
 ⟨(cell_of_row w x 0 _ _ _ h).trans rfl,(cell_of_row w x 1 _ _ _ h).trans rfl,(cell_of_row w x 2 _ _ _ h).trans rfl,(cell_of_row w x 3 _ _ _ h).trans rfl,(cell_of_row w x 4 _ _ _ h).trans rfl,(cell_of_row w x 5 _ _ _ h).trans rfl,(cell_of_row w x 6 _ _ _ h).trans rfl,(cell_of_row w x 7 _ _ _ h).trans rfl,(cell_of_row w x 8 _ _ _ h).trans rfl,(cell_of_row w x 9 _ _ _ h).trans rfl,(cell_of_row w x 10 _ _ _ h).trans rfl,lt_of_block h⟩
section
variable {W:World} {a b c e th t:Int} {ao:Option Addr} {cs:List Ins} {n cap:Nat} {po:Option Addr} {l:List Nat} {k co:Nat} {pw:Option Addr} {kw cw:Nat} {pp:Option Addr} {kp cp:Nat} {sp:Int}
attribute [local go_sem] run_store_float
theorem begun_any (h:RideAt W cs l ao po n k):Calls Tryz.prog 5 #[.agg (rideV a b c e th t ao n cap po k co pw kw cw pp kp cp sp)] W fun r w'=>∃ q1 q2,r=.returned (.tuple #[.pointer q1,.pointer q2])∧Hid ((mayX a b c e k th=true∧∃ bx bd,q1=some ⟨bx,0,none⟩∧q2=some ⟨bd,0,none⟩∧Bgn W w' bx bd (newY a b c e t cs l th) ao cs)∨(mayX a b c e k th=false∧q1=none∧q2=none∧Below W.heap.size W w')):=by
 obtain ⟨i1,hi1,hz1,hs1,hb1⟩:=info_parts fInfo
 obtain ⟨i2,hi2,hz2,hs2,hb2⟩:=info_parts insInfo
 have HA1:Hid (∀ u,Below W.heap.size W u→∃ v w',(Builtin.append_ #[27,27] 27 #[.slice none 0 0,.slice po k co]).run Tryz.prog u=.ok v w'∧∃ p c,v=.slice p k c∧Cpy u.heap.size w' 64 1 p k c∧Ro w' p (fls l)∧Below u.heap.size u w'):=fun u hu=>by
  have hsrc:=src_fl co (h.args.on hu)
  rw [h.hk] at hsrc
  have:=app_nil (ty:=27) (i:=i1) (z:=.float .f64 0) Tryz.underlying27 hi1 hz1 (by rw [hs1];rfl) (by rw [hs1];exact hsrc) (by rw [hb1];exact h.kb) (by have:=h.kb;omega)
  rw [hs1] at this
  exact this
 have HA2:Hid (∀ u,Below W.heap.size W u→∃ v w',(Builtin.append_ #[24,24] 24 #[.slice none 0 0,.slice ao n cap]).run Tryz.prog u=.ok v w'∧∃ p c,v=.slice p n c∧Cpy u.heap.size w' 66 3 p n c∧Ro w' p (cs.flatMap insC)∧Below u.heap.size u w'):=fun u hu=>by
  have hsrc:=src_code cap (h.code.on hu)
  rw [h.hn] at hsrc
  have:=app_nil (ty:=24) (i:=i2) (z:=.agg #[.int .i64 0,.int .i64 0,.float .f64 0]) Tryz.underlying24 hi2 hz2 (by rw [hs2];rfl) (by rw [hs2];exact hsrc) (by rw [hb2];exact h.nb) (by have:=h.nb;omega)
  rw [hs2] at this
  exact this
 have H0:Hid (Below W.heap.size W (W.alloc (.cells (rideV a b c e th t ao n cap po k co pw kw cw pp kp cp sp) 31))∧(W.alloc (.cells (rideV a b c e th t ao n cap po k co pw kw cw pp kp cp sp) 31)).heap[W.heap.size]?=some (.cells (rideV a b c e th t ao n cap po k co pw kw cw pp kp cp sp) 31 (0,0))):=⟨below_alloc _ _,heap_alloc_new _ _⟩
 clear hi1 hz1 hs1 hb1 hi2 hz2 hs2 hb2 i1 i2
 go_enter Tryz.func5,Tryz.ntmps5
 go_upto_region 2 with (at_builtin;refine wpList_append_ex rfl _ _ 27 27 rfl (.slice none 0 0) (.slice po k co) rfl rfl (HA1.out _ H0.out.1) ?_;rintro v u1 ⟨p1,c1,rfl,q1,q2,q3⟩;have H1:Hid (Cpy (W.heap.size+1) u1 64 1 p1 k c1∧FlAt u1 p1 l∧Below W.heap.size W u1∧u1.heap[W.heap.size]?=some (.cells (rideV a b c e th t ao n cap po k co pw kw cw pp kp cp sp) 31 (0,0))):=⟨q1.mono (by simp),q2.fl,H0.out.1.trans (q3.mono H0.out.1.size),(q3.block _ (lt_of_block H0.out.2)).trans H0.out.2⟩;clear q1 q2 q3)
 go_cut [5] (fun v5 wc=>∃ g5 p2 c2,v5=.pointer (some ⟨g5,0,none⟩)∧Hid (Cpy (W.heap.size+1) wc 66 3 p2 n c2∧CodeAt wc p2 cs∧wc.heap[g5]?=some (prgO t p2 n c2)∧u1.heap.size≤g5∧Below u1.heap.size u1 wc))
 case first =>
  obtain ⟨e0,e1,e2,e3,e4,e5,e6,e7,e8,e9,e10,lb⟩:=ride_cells H1.out.2.2.2
  refine wp_region_two (fun u=>u.cell? ⟨W.heap.size,5,none⟩=some (.int .i64 t)∧u.cell? ⟨W.heap.size,6,none⟩=some (.slice ao n cap)) [0,1,2,3,4,5] 6 [(7,true),(8,false),(9,false)] 8 [(6,false),(7,true),(9,false)] Md.Cv.follows13 (by kernel_rfl) (fun _ _ _ _ _ h=>h) ⟨e5,e6⟩ ?_
  repeat (refine wpTwo_take (v:=?_) rfl (by rfl) (fun wq hSq=>?_) ?_;rotate_left;(focus ((try dsimp only at hSq);go_simp;try with_reducible rfl));simp only [Act.put,List.setIfInBounds_toArray,List.set_cons_zero,List.set_cons_succ])
  refine wpTwo_nil ?_ ?_
  ·refine wpSeq_do rfl (by rfl) (fun KK hK=>?_)
   refine wp_append_ex _ _ 24 24 rfl (.slice none 0 0) (.slice ao n cap) rfl rfl (HA2.out _ (H1.out.2.2.1.trans ((Same.drew u1).below _))) ?_
   rintro v u2 ⟨p2,c2,rfl,q1,q2,q3⟩
   have q4:Below u1.heap.size u1 u2:=((Same.drew u1).below _).trans q3
   have ck:∀ j v,u1.cell? ⟨W.heap.size,j,none⟩=some v→u2.cell? ⟨W.heap.size,j,none⟩=some v:=fun j v hv=>(q4.cell (p:=⟨W.heap.size,j,none⟩) lb).trans hv
   refine hK.out _ _ ⟨ck 5 _ e5,ck 6 _ e6⟩ ?_
   (clear hK KK;try simp only [Act.put,List.setIfInBounds_toArray,List.set_cons_zero,List.set_cons_succ])
   (repeat ((first | (refine wpSeq_take (v:=?_) rfl (by rfl) (fun wq hSq=>?_) ?_;rotate_left;(focus ((try dsimp only at hSq);go_simp;try with_reducible rfl))) | refine wpSeq_skip rfl (by rfl) ?_);simp only [Act.put,List.setIfInBounds_toArray,List.set_cons_zero,List.set_cons_succ]))
   (refine wpSeq_do rfl (by rfl) (fun KK hK=>?_);go_simp)
   have l2:W.heap.size<u2.heap.size:=Nat.lt_of_lt_of_le lb q4.size
   refine hK.out _ _ ⟨(World.cell?_alloc_old _ _ _ (Nat.ne_of_lt l2)).trans (ck 5 _ e5),(World.cell?_alloc_old _ _ _ (Nat.ne_of_lt l2)).trans (ck 6 _ e6)⟩ ?_
   (clear hK KK;try simp only [Act.put,List.setIfInBounds_toArray,List.set_cons_zero,List.set_cons_succ])
   (refine wpSeq_do rfl (by rfl) (fun KK hK=>?_);go_simp)
   refine hK.out _ _ ⟨(World.cell?_alloc_old _ _ _ (Nat.ne_of_lt l2)).trans (ck 5 _ e5),(World.cell?_alloc_old _ _ _ (Nat.ne_of_lt l2)).trans (ck 6 _ e6)⟩ ?_
   (clear hK KK;try simp only [Act.put])
   refine wpSeq_nil ?_
   have hs:=H1.out.2.2.1.size
   have hl2:=lt_of_block H1.out.2.2.2
   have R:Hid (Cpy (W.heap.size+1) (u2.alloc (prgO t p2 n c2)) 66 3 p2 n c2∧CodeAt (u2.alloc (prgO t p2 n c2)) p2 cs∧(u2.alloc (prgO t p2 n c2)).heap[u2.heap.size]?=some (prgO t p2 n c2)∧u1.heap.size≤u2.heap.size∧Below u1.heap.size u1 (u2.alloc (prgO t p2 n c2))):=⟨(q1.mono (show W.heap.size+1≤u1.drew.heap.size from hl2)).on (below_alloc _ _),(ro_code q2).on (below_alloc _ _),heap_alloc_new _ _,q4.size,q4.alloc q4.size _⟩
   go_wp2_with fail
   go_meet
   exact ⟨_,p2,c2,rfl,R.out⟩
  ·(refine wpSeq_do rfl (by rfl) (fun KK hK=>?_);go_simp)
   obtain ⟨v1,hv1⟩:∃ v1,v1=(u1.alloc (.cells #[.int .i64 0,.slice none 0 0] 26)).drew:=⟨_,rfl⟩
   have b1:Below u1.heap.size u1 v1:=by rw [hv1];exact (below_alloc _ _).trans ((Same.drew _).below _)
   have x1:v1.heap[u1.heap.size]?=some (.cells #[.int .i64 0,.slice none 0 0] 26 (0,0)):=by rw [hv1];exact heap_alloc_new _ _
   rw [← hv1]
   clear hv1
   have ck:∀ j v,u1.cell? ⟨W.heap.size,j,none⟩=some v→v1.cell? ⟨W.heap.size,j,none⟩=some v:=fun j v hv=>(b1.cell (p:=⟨W.heap.size,j,none⟩) lb).trans hv
   refine hK.out _ _ ⟨ck 5 _ e5,ck 6 _ e6⟩ ?_
   (clear hK KK;try simp only [Act.put,List.setIfInBounds_toArray,List.set_cons_zero,List.set_cons_succ])
   refine wpSeq_do rfl (by rfl) (fun KK hK=>?_)
   refine wp_append_ex _ _ 24 24 rfl (.slice none 0 0) (.slice ao n cap) rfl rfl (HA2.out _ (H1.out.2.2.1.trans (b1.mono H1.out.2.2.1.size))) ?_
   rintro v u2 ⟨p2,c2,rfl,q1,q2,q3⟩
   have q4:Below u1.heap.size u1 u2:=b1.trans (q3.mono b1.size)
   have ck2:∀ j v,u1.cell? ⟨W.heap.size,j,none⟩=some v→u2.cell? ⟨W.heap.size,j,none⟩=some v:=fun j v hv=>(q4.cell (p:=⟨W.heap.size,j,none⟩) lb).trans hv
   have x2:u2.heap[u1.heap.size]?=some (.cells #[.int .i64 0,.slice none 0 0] 26 (0,0)):=(q3.block _ (lt_of_block x1)).trans x1
   obtain ⟨s0,s1,s2⟩:=cells2 x2
   have f0:=frozen_of_row u2 u1.heap.size 0 _ _ x2
   have f1:=frozen_of_row u2 u1.heap.size 1 _ _ x2
   refine hK.out _ _ ⟨ck2 5 _ e5,ck2 6 _ e6⟩ ?_
   (clear hK KK;try simp only [Act.put,List.setIfInBounds_toArray,List.set_cons_zero,List.set_cons_succ])
   (repeat ((first | (refine wpSeq_take (v:=?_) rfl (by rfl) (fun wq hSq=>?_) ?_;rotate_left;(focus ((try dsimp only at hSq);go_simp;try with_reducible rfl))) | refine wpSeq_skip rfl (by rfl) ?_);simp only [Act.put,List.setIfInBounds_toArray,List.set_cons_zero,List.set_cons_succ]))
   (refine wpSeq_do rfl (by rfl) (fun KK hK=>?_);go_simp)
   have ne:W.heap.size≠u1.heap.size:=Nat.ne_of_lt lb
   have x3:((u2.setCell ⟨u1.heap.size,0,none⟩ (.int .i64 t)).setCell ⟨u1.heap.size,1,none⟩ (.slice p2 n c2)).heap[u1.heap.size]?=some (prgO t p2 n c2):=by
    have a1:=(heap_setCell_same u2 u1.heap.size 0 _ _ (.int .i64 t) x2).trans (show _=some (Obj.cells #[.int .i64 t,.slice none 0 0] 26) from rfl)
    exact (heap_setCell_same _ u1.heap.size 1 _ _ (.slice p2 n c2) a1).trans rfl
   have oth:∀ y,y≠u1.heap.size→((u2.setCell ⟨u1.heap.size,0,none⟩ (.int .i64 t)).setCell ⟨u1.heap.size,1,none⟩ (.slice p2 n c2)).heap[y]?=u2.heap[y]?:=fun y hy=>(heap_setCell_other _ _ _ _ hy).trans (heap_setCell_other _ _ _ _ hy)
   refine hK.out _ _ ⟨(Md.Cv.cell_kept (oth _ ne) 5).trans (ck2 5 _ e5),(Md.Cv.cell_kept (oth _ ne) 6).trans (ck2 6 _ e6)⟩ ?_
   (clear hK KK;try simp only [Act.put])
   refine wpSeq_nil ?_
   have hl1:=lt_of_block x1
   have hc2:CodeAt ((u2.setCell ⟨u1.heap.size,0,none⟩ (.int .i64 t)).setCell ⟨u1.heap.size,1,none⟩ (.slice p2 n c2)) p2 cs:=by
    rcases q1 with ⟨r1,r2⟩ | ⟨g,arr,r1,r0,_⟩
    ·have:=h.hn
     intro i hi
     omega
    ·refine (ro_code q2).keep ⟨by simp,fun i hi=>oth i ?_⟩
     rw [r1] at hi
     simp [fpR] at hi
     omega
   have R:Hid (Cpy (W.heap.size+1) ((u2.setCell ⟨u1.heap.size,0,none⟩ (.int .i64 t)).setCell ⟨u1.heap.size,1,none⟩ (.slice p2 n c2)) 66 3 p2 n c2∧CodeAt ((u2.setCell ⟨u1.heap.size,0,none⟩ (.int .i64 t)).setCell ⟨u1.heap.size,1,none⟩ (.slice p2 n c2)) p2 cs∧((u2.setCell ⟨u1.heap.size,0,none⟩ (.int .i64 t)).setCell ⟨u1.heap.size,1,none⟩ (.slice p2 n c2)).heap[u1.heap.size]?=some (prgO t p2 n c2)∧u1.heap.size≤u1.heap.size∧Below u1.heap.size u1 ((u2.setCell ⟨u1.heap.size,0,none⟩ (.int .i64 t)).setCell ⟨u1.heap.size,1,none⟩ (.slice p2 n c2))):=⟨((q1.mono (by omega)).put _ _ _).put _ _ _,hc2,x3,Nat.le_refl _,(q4.setCell (Nat.le_refl _) _).setCell (Nat.le_refl _) _⟩
   go_wp2_with fail
   go_meet
   exact ⟨_,p2,c2,rfl,R.out⟩
 case rest =>
  obtain ⟨g5,p2,c2,rfl,H2⟩:=hcut
  have B2:Hid (Below W.heap.size W wc∧wc.heap[W.heap.size]?=some (.cells (rideV a b c e th t ao n cap po k co pw kw cw pp kp cp sp) 31 (0,0))∧Cpy (W.heap.size+1) wc 64 1 p1 k c1∧FlAt wc p1 l):=⟨H1.out.2.2.1.trans (H2.out.2.2.2.2.mono H1.out.2.2.1.size),(H2.out.2.2.2.2.block _ (lt_of_block H1.out.2.2.2)).trans H1.out.2.2.2,H1.out.1.on H2.out.2.2.2.2,H1.out.2.1.on H2.out.2.2.2.2⟩
  have HN:Hid (Calls Tryz.prog 18 #[cfgV a b c e,.int .i64 th,.agg #[.int .i64 t,.slice p2 n c2],.slice p1 k c1] wc fun r w'=>∃ q,r=.returned (.pointer q)∧Hid ((mayX a b c e k th=true∧∃ bx,q=some ⟨bx,0,none⟩∧Made wc w' bx (newY a b c e t cs l th))∨(mayX a b c e k th=false∧q=none∧Below wc.heap.size wc w'))):=by
   have nl:n≤9223372036854775807:=by have:=h.nb;omega
   unfold mayX
   cases hm:(Md.cfgB a b c e && decide (k≤8))
   ·exact (new_nil hm).mono fun r w' q=>⟨none,q.1,.inr ⟨by simp,rfl,q.2⟩⟩
   ·have hm':Md.cfgB a b c e=true∧k≤8:=by simpa using hm
    by_cases ht:0≤th∧th<b
    ·exact (new_yes hm'.1 h.hn h.hk hm'.2 (h.sh.on B2.out.1) H2.out.2.1 B2.out.2.2.2 nl ht.1 ht.2).mono fun r w' q=>by obtain ⟨bx,q1,q2⟩:=q;exact ⟨_,q1,.inl ⟨by simp [ht],bx,rfl,q2⟩⟩
    ·exact (new_out hm'.1 h.hn h.hk hm'.2 (h.sh.on B2.out.1) H2.out.2.1 B2.out.2.2.2 nl ht).mono fun r w' q=>⟨none,q.1,.inr ⟨by simp [ht],rfl,q.2⟩⟩
  have HD:Hid (∀ u,Below W.heap.size W u→Calls Tryz.prog 21 #[cfgV a b c e,.int .i64 th,.agg #[.int .i64 t,.slice ao n cap],.slice po k co] u fun r w'=>∃ q,r=.returned (.pointer q)∧Hid ((mayX a b c e k th=true∧∃ bd,q=some ⟨bd,0,none⟩∧DMade u w' bd (newY a b c e t cs l th) ao cs)∨(mayX a b c e k th=false∧q=none∧Below u.heap.size u w'))):=fun u hu=>by
   have nl:n≤9223372036854775807:=by have:=h.nb;omega
   unfold mayX
   cases hm:(Md.cfgB a b c e && decide (k≤8))
   ·exact (dnew_nil hm).mono fun r w' q=>⟨none,q.1,.inr ⟨by simp,rfl,q.2⟩⟩
   ·have hm':Md.cfgB a b c e=true∧k≤8:=by simpa using hm
    by_cases ht:0≤th∧th<b
    ·exact (dnew_yes hm'.1 h.hn h.hk hm'.2 (h.code.on hu) (h.args.on hu) nl ht.1 ht.2).mono fun r w' q=>by obtain ⟨bx,q1,q2⟩:=q;exact ⟨_,q1,.inl ⟨by simp [ht],bx,rfl,q2⟩⟩
    ·exact (dnew_out hm'.1 h.hn h.hk hm'.2 (h.code.on hu) (h.args.on hu) nl ht).mono fun r w' q=>⟨none,q.1,.inr ⟨by simp [ht],rfl,q.2⟩⟩
  have HCO:Hid (CodeAt W ao cs):=h.code
  have hkl:k≤140737488355328:=by have:=h.kb;omega
  have hnl:n≤140737488355328:=by have:=h.nb;omega
  obtain ⟨e0,e1,e2,e3,e4,e5,e6,e7,e8,e9,e10,lb⟩:=ride_cells B2.out.2.1
  obtain ⟨s0,s1,s2⟩:=cells2 H2.out.2.2.1
  clear HA1 HA2 H0 h
  go_wp2_with (go_at_call 18;refine HN.out.mono ?_;rintro r u2 ⟨qx,rfl,HX⟩;clear HN)
  have HSZ:Hid (wc.heap.size≤u2.heap.size∧Below wc.heap.size wc u2):=by
   rcases HX.out with ⟨_,bx,_,hm⟩ | ⟨_,_,hb⟩
   ·exact ⟨hm.bl.size,hm.bl⟩
   ·exact ⟨hb.size,hb⟩
  have HC1:Hid (Cpy (W.heap.size+1) u2 64 1 p1 k c1):=B2.out.2.2.1.on HSZ.out.2
  go_loopw [29] (fun vi wr=>∃ i:Nat,vi=.int .i64 i∧i≤k∧Hid (Cpy (W.heap.size+1) wr 64 1 p1 k c1∧Turn (fpR p1) (fpR p1) u2 wr)) (fun vi _=>k - (intOf vi).toNat)
  case atStart=>exact ⟨0,rfl,Nat.zero_le _,HC1.out,Turn.refl _ _⟩
  case round =>
   obtain ⟨i,rfl,hi,HR⟩:=hrel
   by_cases hlt:i<k
   ·have hlt':(i:Int)<(k:Int):=by omega
    obtain ⟨g,hp,hB,hg,hc⟩:=HR.out.1.at_ hlt
    obtain ⟨⟨v0,c0⟩,f0⟩:=hc 0 (by omega)
    rw [Nat.mul_one,Nat.add_zero] at c0 f0
    have HZ:Hid (Cpy (W.heap.size+1) (wr.setCell ⟨g,i,none⟩ (.float .f64 13858561215837503488)) 64 1 p1 k c1∧Turn (fpR p1) (fpR p1) u2 (wr.setCell ⟨g,i,none⟩ (.float .f64 13858561215837503488))):=⟨HR.out.1.put _ _ _,HR.out.2.trans (by rw [hp];exact turn_set wr g i _)⟩
    subst hp
    go_wp2_with fail
    exact ⟨⟨i+1,by first | rfl | (congr 1),by omega,HZ.out⟩,by simp [intOf];omega⟩
   ·have hlt':¬ (i:Int)<(k:Int):=by omega
    obtain ⟨wo,rfl⟩:∃ wo:World,wo=wr:=⟨_,rfl⟩
    have HW1:Hid (Turn (fpR p1) (fpR p1) u2 wo):=HR.out.2
    have HL1:Hid (∀ j∈fpR p1,W.heap.size+1≤j∧j<wc.heap.size∧j≠g5):=fun j hj=>by
     rcases B2.out.2.2.1 with ⟨r1,_⟩ | ⟨g,arr,r1,r0,r2,_⟩
     ·rw [r1] at hj;simp [fpR] at hj
     ·rw [r1] at hj
      simp [fpR] at hj
      subst hj
      exact ⟨r0,lt_of_block r2,Md.Cv.ne_ty r2 H2.out.2.2.1 (by decide)⟩
    have HL2:Hid (∀ j∈fpR p2,W.heap.size+1≤j∧j<wc.heap.size∧j≠g5∧j∉fpR p1):=fun j hj=>by
     rcases H2.out.1 with ⟨r1,_⟩ | ⟨g,arr,r1,r0,r2,_⟩
     ·rw [r1] at hj;simp [fpR] at hj
     ·rw [r1] at hj
      simp [fpR] at hj
      subst hj
      refine ⟨r0,lt_of_block r2,Md.Cv.ne_ty r2 H2.out.2.2.1 (by decide),fun y=>?_⟩
      rcases B2.out.2.2.1 with ⟨q1,_⟩ | ⟨g',arr',q1,q0,q2,_⟩
      ·rw [q1] at y;simp [fpR] at y
      ·rw [q1] at y
       simp [fpR] at y
       subst y
       exact Md.Cv.ne_ty r2 q2 (by decide) rfl
    have HG5:Hid (g5<wc.heap.size):=s2
    have HBX:Hid (wo.heap[g5]?=some (prgO t p2 n c2)):=(HW1.out.block g5 (Nat.lt_of_lt_of_le HG5.out HSZ.out.1) (fun y=>(HL1.out g5 y).2.2 rfl)).trans ((HSZ.out.2.block g5 HG5.out).trans H2.out.2.2.1)
    have HC2:Hid (Cpy (W.heap.size+1) wo 66 3 p2 n c2):=by
     have c2':=H2.out.1.on HSZ.out.2
     rcases c2' with r | ⟨g,arr,r1,r0,r2,r3⟩
     ·exact .inl r
     ·refine .inr ⟨g,arr,r1,r0,(HW1.out.block g (lt_of_block r2) (fun y=>?_)).trans r2,r3⟩
      exact (HL2.out g (by rw [r1];simp [fpR])).2.2.2 y
    obtain ⟨z0,z1,z2⟩:=cells2 HBX.out
    clear HR
    go_wp2_with fail
    go_loopw [39] (fun vi wr=>∃ i:Nat,vi=.int .i64 i∧i≤n∧Hid (Cpy (W.heap.size+1) wr 66 3 p2 n c2∧Turn (fpR p2) (fpR p2) wo wr)) (fun vi _=>n - (intOf vi).toNat)
    case atStart=>exact ⟨0,rfl,Nat.zero_le _,HC2.out,Turn.refl _ _⟩
    case round =>
     obtain ⟨i2,rfl,hi2,HR2⟩:=hrel
     have HB5:Hid (wr.heap[g5]?=some (prgO t p2 n c2)):=(HR2.out.2.block g5 (lt_of_block HBX.out) (fun y=>(HL2.out g5 y).2.2.1 rfl)).trans HBX.out
     obtain ⟨y0,y1,y2⟩:=cells2 HB5.out
     by_cases hlt2:i2<n
     ·have hlt2':(i2:Int)<(n:Int):=by omega
      obtain ⟨g,hp,hB,hg,hc⟩:=HR2.out.1.at_ hlt2
      obtain ⟨⟨v0,k0⟩,f0⟩:=hc 0 (by omega)
      obtain ⟨⟨v1,k1⟩,f1⟩:=hc 1 (by omega)
      obtain ⟨⟨v2,k2⟩,f2⟩:=hc 2 (by omega)
      rw [Nat.add_zero] at k0 f0
      have HZ:Hid (Cpy (W.heap.size+1) (((wr.setCell ⟨g,i2*3,none⟩ (.int .i64 19)).setCell ⟨g,i2*3+1,none⟩ (.int .i64 50)).setCell ⟨g,i2*3+2,none⟩ (.float .f64 0)) 66 3 p2 n c2∧Turn (fpR p2) (fpR p2) wo (((wr.setCell ⟨g,i2*3,none⟩ (.int .i64 19)).setCell ⟨g,i2*3+1,none⟩ (.int .i64 50)).setCell ⟨g,i2*3+2,none⟩ (.float .f64 0))):=⟨((HR2.out.1.put _ _ _).put _ _ _).put _ _ _,HR2.out.2.trans (by rw [hp];exact ((turn_set wr g _ _).trans (turn_set _ g _ _)).trans (turn_set _ g _ _))⟩
      subst hp
      clear hc HR2 HB5
      go_wp2_with fail
      exact ⟨⟨i2+1,by first | rfl | (congr 1),by omega,HZ.out⟩,by simp [intOf];omega⟩
     ·have hlt2':¬ (i2:Int)<(n:Int):=by omega
      have T2:Hid (Turn (fpR p1 ++ fpR p2) (fpR p1 ++ fpR p2) u2 wr):=turn_of (L:=fpR p1 ++ fpR p2) (HR2.out.2.os.trans HW1.out.os) (HR2.out.2.tape.trans HW1.out.tape) (HR2.out.2.output.trans HW1.out.output) (Nat.le_trans HW1.out.size HR2.out.2.size) (fun _ y=>y) fun j hj hn=>(HR2.out.2.block j (Nat.lt_of_lt_of_le hj HW1.out.size) (fun y=>hn (List.mem_append.2 (.inr y)))).trans (HW1.out.block j hj (fun y=>hn (List.mem_append.2 (.inl y))))
      have LL:Hid (∀ j∈fpR p1 ++ fpR p2,W.heap.size+1≤j∧j<wc.heap.size):=fun j hj=>by
       rcases List.mem_append.1 hj with y | y
       ·exact ⟨(HL1.out j y).1,(HL1.out j y).2.1⟩
       ·exact ⟨(HL2.out j y).1,(HL2.out j y).2.1⟩
      have BW:Hid (Below W.heap.size W u2):=B2.out.1.trans (HSZ.out.2.mono B2.out.1.size)
      have BE:Hid (Below W.heap.size W wr):=⟨T2.out.os.trans BW.out.os,T2.out.tape.trans BW.out.tape,T2.out.output.trans BW.out.output,Nat.le_trans BW.out.size T2.out.size,fun j hj=>(T2.out.block j (Nat.lt_of_lt_of_le hj BW.out.size) (fun y=>by have:=(LL.out j y).1;omega)).trans (BW.out.block j hj)⟩
      have XR:Hid (wr.heap[W.heap.size]?=some (.cells (rideV a b c e th t ao n cap po k co pw kw cw pp kp cp sp) 31 (0,0))):=(T2.out.block _ (Nat.lt_of_lt_of_le (lt_of_block B2.out.2.1) HSZ.out.1) (fun y=>by have:=(LL.out _ y).1;omega)).trans ((HSZ.out.2.block _ (lt_of_block B2.out.2.1)).trans B2.out.2.1)
      obtain ⟨x0,x1,x2,x3,x4,x5,x6,x7,x8,x9,x10,xb⟩:=ride_cells XR.out
      clear HR2 HB5 HL1 HL2
      go_wp2_with (go_at_call 21;refine (HD.out _ BE.out).mono ?_;rintro r u4 ⟨qd,rfl,HY⟩;clear HD)
      go_ret2
      refine ⟨qx,qd,rfl,?_⟩
      rcases HX.out with ⟨m1,bx,rfl,hm⟩ | ⟨m1,rfl,hb⟩
      ·rcases HY.out with ⟨_,bd,rfl,hd⟩ | ⟨m2,_⟩
       ·exact .inl ⟨m1,bx,bd,rfl,rfl,bgn_of HCO.out B2.out.1 hm (fun j hj hl=>T2.out.block j hl (fun y=>by have:=(LL.out j y).2;omega)) T2.out.size BE.out hd⟩
       ·rw [m1] at m2
        cases m2
      ·rcases HY.out with ⟨m2,_⟩ | ⟨_,rfl,hd⟩
       ·rw [m1] at m2
        cases m2
       ·exact .inr ⟨m1,rfl,rfl,BE.out.trans (hd.mono BE.out.size)⟩
end
end Go.Proofs.YteinilmecnlanabGreatDoor.Ww
namespace Go.Proofs.YteinilmecnlanabGreatDoor.Ww
open Go.ChangeShapes Go.WideShapes Go.ChangeAt Go.RowKit Go.Deep Rr
theorem cellsW:Tryz.prog.cellsOf 45=1:=by kernel_rfl
theorem cellsI:Tryz.prog.cellsOf 3=1:=by kernel_rfl
theorem cellsIns:Tryz.prog.cellsOf 66=3:=by kernel_rfl
theorem cellsPk:Tryz.prog.cellsOf 246=2:=by kernel_rfl
theorem cellsCf:Tryz.prog.cellsOf 23=4:=by kernel_rfl
theorem cellsPg:Tryz.prog.cellsOf 26=2:=by kernel_rfl
theorem cellsLI:Tryz.prog.cellsOf 24=1:=by kernel_rfl
theorem cellsLF:Tryz.prog.cellsOf 27=1:=by kernel_rfl
theorem cellsLW:Tryz.prog.cellsOf 28=1:=by kernel_rfl
theorem cellsLP:Tryz.prog.cellsOf 29=1:=by kernel_rfl
theorem cellsRi:Tryz.prog.cellsOf 31=11:=by kernel_rfl
theorem bytesI:Tryz.prog.bytesOf 66=24:=by kernel_rfl
theorem u64_of {z:Int} (h:(Lit.int .u64 z).wf=true):u64B z:=by
 simp [Lit.wf,IntKind.min,IntKind.max,IntKind.signed,IntKind.bits] at h
 exact ⟨by omega,by omega⟩
theorem i64_of {z:Int} (h:(Lit.int .i64 z).wf=true):-9223372036854775808≤z∧z≤9223372036854775807:=by
 simp [Lit.wf,IntKind.min,IntKind.max,IntKind.signed,IntKind.bits] at h
 exact ⟨by omega,by omega⟩
def UAt (w:World) (p:Option Addr) (l:List Int):Prop :=
 ∀ i,i<l.length→∃ g o,p=some ⟨g,o,none⟩∧g<w.heap.size∧w.cell? ⟨g,o+i,none⟩=some (.int .u64 (l.getD i 0))
theorem UAt.on {w w':World} {p:Option Addr} {l:List Int} (h:UAt w p l) (k:Below w.heap.size w w'):UAt w' p l:=fun i hi=>by
 obtain ⟨g,o,h1,h2,h3⟩:=h i hi
 exact ⟨g,o,h1,Nat.lt_of_lt_of_le h2 k.size,(k.cell (p:=⟨g,o+i,none⟩) h2).trans h3⟩
def PkAt (w:World) (p:Option Addr) (l:List (Int × Int)):Prop :=
 ∀ i,i<l.length→∃ g o,p=some ⟨g,o,none⟩∧g<w.heap.size∧w.cell? ⟨g,o+i*2,none⟩=some (.int .i64 (l.getD i (0,0)).1)∧w.cell? ⟨g,o+i*2+1,none⟩=some (.int .u64 (l.getD i (0,0)).2)
theorem PkAt.on {w w':World} {p:Option Addr} {l:List (Int × Int)} (h:PkAt w p l) (k:Below w.heap.size w w'):PkAt w' p l:=fun i hi=>by
 obtain ⟨g,o,h1,h2,h3,h4⟩:=h i hi
 exact ⟨g,o,h1,Nat.lt_of_lt_of_le h2 k.size,(k.cell (p:=⟨g,o+i*2,none⟩) h2).trans h3,(k.cell (p:=⟨g,o+i*2+1,none⟩) h2).trans h4⟩
section
variable {H:Type} {enc:TypeId × Value→H}
theorem open_codeT {W:World} {fuel:Nat} {cs:List Value} {x:DataW H × List MemPlace} (hf:DataW.trod enc Tryz.prog W 0 (fun _=>true) true fuel 24 cs=some x) :
  ∃ (ao:Option Addr) (c:List Ins) (cap:Nat),cs=[.slice ao c.length cap]∧(∀ i∈c,i.x<18446744073709551616)∧CodeAt W ao c∧((∀ z∈x.1.weights Tryz.prog 24,z≤reachBytes)→c.length*24≤reachBytes):=by
 rcases open_slice Tryz.underlying24 hf with ⟨hcs,_⟩ | ⟨a,len,cap,m,n,D,Pl,hcs,_,hl,hm,hmm,hd,hx⟩
 ·exact ⟨none,[],0,hcs,fun i hi=>(by cases hi),fun i hi=>absurd hi (Nat.not_lt_zero i),fun _=>by simp⟩
 ·simp only [if_true] at hmm
  have hd1:x.1=.slice ((List.range len).map D) ((List.range (m - len)).map fun j=>D (len+j)):=congrArg Prod.fst hd
  obtain ⟨b,off,spot⟩:=a
  have hs:0<len→spot=none:=by
   intro h0
   obtain ⟨cs',h1,_⟩:=hx 0 (by omega)
   rw [cellsIns] at h1
   obtain ⟨_,hlen,hcell⟩:=World.cells?_some h1
   match cs',hlen with
   | [c0,c1,c2],_ =>
    have f0:=hcell 0 (by omega)
    simpa [Addr.add] using World.cell?_spot f0
  have each:∀ i,i<len→∃ q:Ins,spot=none∧b<W.heap.size∧q.x<18446744073709551616∧W.cell? ⟨b,off+i*3,none⟩=some (.int .i64 q.op)∧W.cell? ⟨b,off+i*3+1,none⟩=some (.int .i64 q.n)∧W.cell? ⟨b,off+i*3+2,none⟩=some (.float .f64 q.x):=by
   intro i hi
   obtain ⟨cs',h1,h2⟩:=hx i (by omega)
   rw [cellsIns] at h1
   obtain ⟨_,hlen,hcell⟩:=World.cells?_some h1
   obtain ⟨xs,k,_,_,_,hxl,hg⟩:=DataW.trod_struct Tryz.underlying66 h2
   match xs,hxl,cs',hlen with
   | [y0,y1,y2],_,[c0,c1,c2],_ =>
    have g0:=hg 0 _ rfl
    have g1:=hg 1 _ rfl
    have g2:=hg 2 _ rfl
    simp [cellsI,cellsF] at g0 g1 g2
    obtain ⟨x0,e0,_,_⟩:=DataW.trod_int Tryz.underlying3 g0
    obtain ⟨x1,e1,_,_⟩:=DataW.trod_int Tryz.underlying3 g1
    obtain ⟨x2,e2,hx2⟩:=trod_f64 g2
    simp at e0 e1 e2
    subst e0 e1 e2
    have f0:=hcell 0 (by omega)
    have f1:=hcell 1 (by omega)
    have f2:=hcell 2 (by omega)
    rw [add_add] at f0 f1 f2
    have hspot:=hs (by omega)
    subst hspot
    rw [Go.WideShapes.add_plain] at f0 f1 f2
    exact ⟨⟨x0,x1,x2⟩,rfl,World.block_lt_of_cell? W _ f0,hx2,f0,f1,f2⟩
  have:Inhabited Ins:=⟨⟨0,0,0⟩⟩
  obtain ⟨q,hq⟩:=choose_lt each
  have hcl:((List.range len).map q).length=len:=by simp
  have hci:∀ i,i<len→ci ((List.range len).map q) i=q i:=fun i hi=>by
   unfold ci
   simp [List.getD_eq_getElem?_getD,hi]
  refine ⟨some ⟨b,off,spot⟩,(List.range len).map q,cap,by rw [hcl];exact hcs,fun i hi=>?_,fun i hi=>?_,fun hz=>?_⟩
  ·obtain ⟨j,hj,rfl⟩:=List.mem_map.1 hi
   exact (hq j (List.mem_range.1 hj)).2.2.1
  ·rw [hcl] at hi
   rw [hci i hi]
   obtain ⟨rfl,h2,_,r⟩:=hq i hi
   exact ⟨b,off,rfl,h2,r⟩
  ·have:=hz ((len+(m - len))*24) (by
    rw [hd1]
    simp [DataW.weights,Tryz.underlying24,bytesI])
   rw [hcl]
   omega
theorem open_flsT {W:World} {fuel:Nat} {cs:List Value} {x:DataW H × List MemPlace} (hf:DataW.trod enc Tryz.prog W 0 (fun _=>true) true fuel 27 cs=some x) :
  ∃ (ao:Option Addr) (l:List Nat) (cap:Nat),cs=[.slice ao l.length cap]∧(∀ y∈l,y<18446744073709551616)∧FlAt W ao l∧((∀ z∈x.1.weights Tryz.prog 27,z≤reachBytes)→l.length*8≤reachBytes):=by
 rcases open_slice1 Tryz.underlying27 cellsF hf with ⟨hcs,_⟩ | ⟨a,len,cap,m,n,V,D,Pl,hcs,_,hl,hm,hmm,hd,hx⟩
 ·exact ⟨none,[],0,hcs,fun y hy=>(by cases hy),fun i hi=>absurd hi (Nat.not_lt_zero i),fun _=>by simp⟩
 ·simp only [if_true] at hmm
  have hd1:x.1=.slice ((List.range len).map D) ((List.range (m - len)).map fun j=>D (len+j)):=congrArg Prod.fst hd
  obtain ⟨b,off,spot⟩:=a
  have hs:0<len→spot=none:=by
   intro h0
   obtain ⟨h1,_⟩:=hx 0 (by omega)
   simpa [Addr.add] using World.cell?_spot h1
  have each:∀ i,i<len→∃ q:Nat,spot=none∧b<W.heap.size∧q<18446744073709551616∧W.cell? ⟨b,off+i,none⟩=some (.float .f64 q):=by
   intro i hi
   obtain ⟨h1,h2⟩:=hx i (by omega)
   obtain ⟨q,e,hq⟩:=trod_f64 h2
   simp at e
   rw [e] at h1
   have hs:=hs (by omega)
   subst hs
   rw [Go.WideShapes.add_plain] at h1
   exact ⟨q,rfl,World.block_lt_of_cell? W _ h1,hq,h1⟩
  obtain ⟨q,hq⟩:=choose_lt each
  have hlen:((List.range len).map q).length=len:=by simp
  have hget:∀ i,i<len→((List.range len).map q).getD i 0=q i:=fun i hi=>by simp [hi]
  refine ⟨some ⟨b,off,spot⟩,(List.range len).map q,cap,by rw [hlen];exact hcs,fun y hy=>?_,fun i hi=>?_,fun hz=>?_⟩
  ·obtain ⟨j,hj,rfl⟩:=List.mem_map.1 hy
   exact (hq j (List.mem_range.1 hj)).2.2.1
  ·rw [hlen] at hi
   obtain ⟨rfl,r1,_,r3⟩:=hq i hi
   exact ⟨b,off,rfl,r1,by rw [hget i hi];exact r3⟩
  ·have:=hz ((len+(m - len))*8) (by
    rw [hd1]
    simp [DataW.weights,Tryz.underlying27,bytesF])
   rw [hlen]
   omega
theorem open_wordsT {W:World} {fuel:Nat} {cs:List Value} {x:DataW H × List MemPlace} (hf:DataW.trod enc Tryz.prog W 0 (fun _=>true) true fuel 28 cs=some x) :
  ∃ (ao:Option Addr) (l:List Int) (cap:Nat),cs=[.slice ao l.length cap]∧okW l∧UAt W ao l∧l.length≤9223372036854775807:=by
 rcases open_slice1 Tryz.underlying28 cellsW hf with ⟨hcs,_⟩ | ⟨a,len,cap,m,n,V,D,Pl,hcs,_,hl,hm,hmm,hd,hx⟩
 ·exact ⟨none,[],0,hcs,fun y hy=>(by cases hy),fun i hi=>absurd hi (Nat.not_lt_zero i),Nat.zero_le _⟩
 ·simp only [if_true] at hmm
  obtain ⟨b,off,spot⟩:=a
  have hs:0<len→spot=none:=by
   intro h0
   obtain ⟨h1,_⟩:=hx 0 (by omega)
   simpa [Addr.add] using World.cell?_spot h1
  have each:∀ i,i<len→∃ q:Int,spot=none∧b<W.heap.size∧u64B q∧W.cell? ⟨b,off+i,none⟩=some (.int .u64 q):=by
   intro i hi
   obtain ⟨h1,h2⟩:=hx i (by omega)
   obtain ⟨q,e,_,hq⟩:=DataW.trod_int Tryz.underlying45 h2
   simp at e
   rw [e] at h1
   have hs:=hs (by omega)
   subst hs
   rw [Go.WideShapes.add_plain] at h1
   exact ⟨q,rfl,World.block_lt_of_cell? W _ h1,u64_of hq,h1⟩
  obtain ⟨q,hq⟩:=choose_lt each
  have hlen:((List.range len).map q).length=len:=by simp
  have hget:∀ i,i<len→((List.range len).map q).getD i 0=q i:=fun i hi=>by simp [hi]
  refine ⟨some ⟨b,off,spot⟩,(List.range len).map q,cap,by rw [hlen];exact hcs,fun y hy=>?_,fun i hi=>?_,by rw [hlen];exact Nat.le_trans hl hm⟩
  ·obtain ⟨j,hj,rfl⟩:=List.mem_map.1 hy
   exact (hq j (List.mem_range.1 hj)).2.2.1
  ·rw [hlen] at hi
   obtain ⟨rfl,r1,_,r3⟩:=hq i hi
   exact ⟨b,off,rfl,r1,by rw [hget i hi];exact r3⟩
theorem open_pokesT {W:World} {fuel:Nat} {cs:List Value} {x:DataW H × List MemPlace} (hf:DataW.trod enc Tryz.prog W 0 (fun _=>true) true fuel 29 cs=some x) :
  ∃ (ao:Option Addr) (l:List (Int × Int)) (cap:Nat),cs=[.slice ao l.length cap]∧(∀ p∈l,(-9223372036854775808≤p.1∧p.1≤9223372036854775807)∧u64B p.2)∧PkAt W ao l∧l.length≤9223372036854775807:=by
 rcases open_slice Tryz.underlying29 hf with ⟨hcs,_⟩ | ⟨a,len,cap,m,n,D,Pl,hcs,_,hl,hm,hmm,hd,hx⟩
 ·exact ⟨none,[],0,hcs,fun i hi=>(by cases hi),fun i hi=>absurd hi (Nat.not_lt_zero i),Nat.zero_le _⟩
 ·simp only [if_true] at hmm
  obtain ⟨b,off,spot⟩:=a
  have hs:0<len→spot=none:=by
   intro h0
   obtain ⟨cs',h1,_⟩:=hx 0 (by omega)
   rw [cellsPk] at h1
   obtain ⟨_,hlen,hcell⟩:=World.cells?_some h1
   match cs',hlen with
   | [c0,c1],_ =>
    have f0:=hcell 0 (by omega)
    simpa [Addr.add] using World.cell?_spot f0
  have each:∀ i,i<len→∃ q:Int × Int,spot=none∧b<W.heap.size∧((-9223372036854775808≤q.1∧q.1≤9223372036854775807)∧u64B q.2)∧W.cell? ⟨b,off+i*2,none⟩=some (.int .i64 q.1)∧W.cell? ⟨b,off+i*2+1,none⟩=some (.int .u64 q.2):=by
   intro i hi
   obtain ⟨cs',h1,h2⟩:=hx i (by omega)
   rw [cellsPk] at h1
   obtain ⟨_,hlen,hcell⟩:=World.cells?_some h1
   obtain ⟨xs,k,_,_,_,hxl,hg⟩:=DataW.trod_struct Tryz.underlying246 h2
   match xs,hxl,cs',hlen with
   | [y0,y1],_,[c0,c1],_ =>
    have g0:=hg 0 _ rfl
    have g1:=hg 1 _ rfl
    simp [cellsI,cellsW] at g0 g1
    obtain ⟨x0,e0,_,w0⟩:=DataW.trod_int Tryz.underlying3 g0
    obtain ⟨x1,e1,_,w1⟩:=DataW.trod_int Tryz.underlying45 g1
    simp at e0 e1
    subst e0 e1
    have f0:=hcell 0 (by omega)
    have f1:=hcell 1 (by omega)
    rw [add_add] at f0 f1
    have hspot:=hs (by omega)
    subst hspot
    rw [Go.WideShapes.add_plain] at f0 f1
    exact ⟨(x0,x1),rfl,World.block_lt_of_cell? W _ f0,⟨i64_of w0,u64_of w1⟩,f0,f1⟩
  obtain ⟨q,hq⟩:=choose_lt each
  have hcl:((List.range len).map q).length=len:=by simp
  have hget:∀ i,i<len→((List.range len).map q).getD i (0,0)=q i:=fun i hi=>by simp [hi]
  refine ⟨some ⟨b,off,spot⟩,(List.range len).map q,cap,by rw [hcl];exact hcs,fun i hi=>?_,fun i hi=>?_,by rw [hcl];exact Nat.le_trans hl hm⟩
  ·obtain ⟨j,hj,rfl⟩:=List.mem_map.1 hi
   exact (hq j (List.mem_range.1 hj)).2.2.1
  ·rw [hcl] at hi
   rw [hget i hi]
   obtain ⟨rfl,h2,_,r⟩:=hq i hi
   exact ⟨b,off,rfl,h2,r⟩
structure RideIn (W:World) (a b c e th t:Int) (ao:Option Addr) (cs:List Ins) (cap:Nat) (po:Option Addr) (l:List Nat) (co:Nat) (pw:Option Addr) (lw:List Int) (cw:Nat) (pp:Option Addr) (lp:List (Int × Int)) (cp:Nat):Prop where
 cx:∀ i∈cs,i.x<18446744073709551616
 code:CodeAt W ao cs
 lx:∀ x∈l,x<18446744073709551616
 args:FlAt W po l
 wx:okW lw
 words:UAt W pw lw
 wl:lw.length≤9223372036854775807
 px:∀ p∈lp,(-9223372036854775808≤p.1∧p.1≤9223372036854775807)∧u64B p.2
 pokes:PkAt W pp lp
 pl:lp.length≤9223372036854775807
 nb:cs.length*24≤reachBytes
 kb:l.length*8≤reachBytes
theorem open_ride {W:World} {base:Nat} {v:Value} {d:DataW H} {ps:List MemPlace} (hval:Value.okWide Tryz.prog W .any base 31 v) (h:DataW.Trod enc Tryz.prog W 0 (fun _=>true) true 31 v d ps)
  {ts:List TypeId} {ds:List (DataW H)} (hz:(DataW.weightsEach Tryz.prog ts ds).all (·≤reachBytes)=true) {j:Nat} (h1:ts[j]?=some 31) (h2:ds[j]?=some d) :
  ∃ a b c e th t ao cs cap po l co pw lw cw pp lp cp sp,v=.agg (rideV a b c e th t ao cs.length cap po l.length co pw lw.length cw pp lp.length cp sp)∧RideIn W a b c e th t ao cs cap po l co pw lw cw pp lp cp:=by
 obtain ⟨csv,rfl,hsz⟩:=okWide_struct Tryz.underlying31 hval
 rw [cellsRi] at hsz
 obtain ⟨lv⟩:=csv
 match lv,hsz with
 | [c0,c1,c2,c3,c4,c5,c6,c7,c8,c9,c10],_ =>
  obtain ⟨fuel,hf⟩:=h
  obtain ⟨xs,n,_,hxd,_,hlen,hg⟩:=DataW.trod_struct Tryz.underlying31 hf
  match xs,hlen with
  | [y0,y1,y2,y3,y4,y5,y6],_ =>
   have g0:=hg 0 _ rfl
   have g1:=hg 1 _ rfl
   have g2:=hg 2 _ rfl
   have g3:=hg 3 _ rfl
   have g4:=hg 4 _ rfl
   have g5:=hg 5 _ rfl
   have g6:=hg 6 _ rfl
   simp [cellsCf,cellsI,cellsPg,cellsLF,cellsLW,cellsLP,Value.cells] at g0 g1 g2 g3 g4 g5 g6
   obtain ⟨zs,n0,_,_,_,zl,zg⟩:=DataW.trod_struct Tryz.underlying23 g0
   obtain ⟨us,n2,_,hu,_,ul,ug⟩:=DataW.trod_struct Tryz.underlying26 g2
   match zs,zl,us,ul with
   | [z0,z1,z2,z3],_,[u0,u1],_ =>
    have k0:=zg 0 _ rfl
    have k1:=zg 1 _ rfl
    have k2:=zg 2 _ rfl
    have k3:=zg 3 _ rfl
    have m0:=ug 0 _ rfl
    have m1:=ug 1 _ rfl
    simp [cellsI,cellsLI] at k0 k1 k2 k3 m0 m1
    obtain ⟨a,ea,_,_⟩:=DataW.trod_int Tryz.underlying3 k0
    obtain ⟨b,eb,_,_⟩:=DataW.trod_int Tryz.underlying3 k1
    obtain ⟨c,ec,_,_⟩:=DataW.trod_int Tryz.underlying3 k2
    obtain ⟨e,ee,_,_⟩:=DataW.trod_int Tryz.underlying3 k3
    obtain ⟨th,eh,_,_⟩:=DataW.trod_int Tryz.underlying3 g1
    obtain ⟨sp,es,_,_⟩:=DataW.trod_int Tryz.underlying3 g6
    obtain ⟨t,et,_,_⟩:=DataW.trod_int Tryz.underlying3 m0
    obtain ⟨ao,cs,cap,e1,q1,q2,q3⟩:=open_codeT m1
    obtain ⟨po,l,co,e2,r1,r2,r3⟩:=open_flsT g3
    obtain ⟨pw,lw,cw,e3,s1,s2,s3⟩:=open_wordsT g4
    obtain ⟨pp,lp,cp,e4,t1,t2,t3⟩:=open_pokesT g5
    simp at ea eb ec ee eh et e1 e2 e3 e4 es
    have hd0:d=.agg [y0.1,y1.1,y2.1,y3.1,y4.1,y5.1,y6.1]:=congrArg Prod.fst hxd
    have hd2:y2.1=.agg [u0.1,u1.1]:=congrArg Prod.fst hu
    have wt:∀ z∈d.weights Tryz.prog 31,z≤reachBytes:=fun z hz'=>by simpa using List.all_eq_true.1 hz _ (DataW.weights_mem_each h1 h2 z hz')
    rw [hd0,hd2] at wt
    simp [DataW.weights,DataW.weightsEach,Tryz.underlying31,Tryz.underlying26] at wt
    refine ⟨a,b,c,e,th,t,ao,cs,cap,po,l,co,pw,lw,cw,pp,lp,cp,sp,by rw [ea,eb,ec,ee,eh,et,e1,e2,e3,e4,es],⟨q1,q2,r1,r2,s1,s2,s3,t1,t2,t3,q3 fun z hz'=>wt z ?_,r3 fun z hz'=>wt z ?_⟩⟩
    ·simp [hz']
    ·simp [hz']
end
theorem RideIn.at_ {W:World} {a b c e th t:Int} {ao:Option Addr} {cs:List Ins} {cap:Nat} {po:Option Addr} {l:List Nat} {co:Nat} {pw:Option Addr} {lw:List Int} {cw:Nat} {pp:Option Addr} {lp:List (Int × Int)} {cp:Nat} (h:RideIn W a b c e th t ao cs cap po l co pw lw cw pp lp cp) (hs:Shaped5 W):RideAt W cs l ao po cs.length l.length:=⟨hs,rfl,rfl,h.code,h.args,h.cx,h.lx,Nat.le_trans h.nb (by decide),Nat.le_trans h.kb (by decide)⟩
end Go.Proofs.YteinilmecnlanabGreatDoor.Ww
namespace Go.Proofs.YteinilmecnlanabGreatDoor.Ww
open Go.ChangeShapes Go.WideShapes Go.ChangeAt Go.RowKit Num Rr
theorem RideAt.on {W w:World} {cs:List Ins} {l:List Nat} {ao po:Option Addr} {n k:Nat} (h:RideAt W cs l ao po n k) (q:Below W.heap.size W w):RideAt w cs l ao po n k:=⟨h.sh.on q,h.hn,h.hk,h.code.on q,h.args.on q,h.cx,h.lx,h.nb,h.kb⟩
theorem RideAt.inY {W:World} {a b c e t th:Int} {cs:List Ins} {l:List Nat} {ao po:Option Addr} {n k:Nat} (h:RideAt W cs l ao po n k) (hm:mayX a b c e k th=true):InY (newY a b c e t cs l th):=by
 simp only [mayX,Bool.and_eq_true,decide_eq_true_eq] at hm
 refine new_inY hm.1.1 (fun j hj=>?_) h.lx (by rw [h.hk];exact hm.1.2) hm.2
 refine h.cx _ ?_
 have:ci cs j=cs[j]:=by simp [ci,hj]
 rw [this]
 exact List.getElem_mem hj
theorem full_of {W w u:World} {bx mb mg:Nat} {x:Wx} {z:Wz} {v:Wv} {ws:List Int} {o:Bool} {n:Int} (h:RawAt w bx x z v) (hv:VOk x v) (a1:Abv W.heap.size (gY bx v)) (hW:Below W.heap.size W w) (hm:MemAt 95 u mb mg ws o n) (hb:Below w.heap.size w u) (ab:w.heap.size≤mb) (ag:w.heap.size≤mg):Full u (mb::mg::gY bx v) bx z mb mg u x ws o n∧Turn [] (mb::mg::gY bx v) W u:=by
 have hs:=hW.size
 refine ⟨⟨v,⟨h.on hb,hm,fun i hi y=>?_,fun i hi y=>?_,Turn.refl _ _⟩,hv⟩,?_⟩
 ·have:=h.blw i y
  simp only [List.mem_cons,List.not_mem_nil,or_false] at hi
  omega
 ·have:=h.blwK i y
  simp only [List.mem_cons,List.not_mem_nil,or_false] at hi
  omega
 ·refine (Below.turn (hW.trans (hb.mono hs)) []).mono fun i hi=>.inr ?_
  simp only [List.mem_cons] at hi
  rcases hi with hi | hi | hi
  ·omega
  ·omega
  ·have:=a1 i hi;omega
theorem Full.keepG {w w':World} {G:List Nat} {b mb mg:Nat} {x:Wx} {z:Wz} {ws:List Int} {o:Bool} {n:Int} (h:Full w G b z mb mg w x ws o n) (k:Kept G w w') (k2:Kept z.KK w w'):Full w' G b z mb mg w' x ws o n:=by
 obtain ⟨v,⟨h1,h2,h3,h4,t⟩,h5⟩:=h
 have hin:∀ i∈mb::mg::gY b v,i∈G:=fun i hi=>by
  rcases t.own i hi with y | y
  ·exact y
  ·have:i<w.heap.size:=by
    simp only [List.mem_cons] at hi
    rcases hi with rfl | rfl | hi
    ·exact h2.ltB
    ·exact h2.ltG
    ·exact h1.blw i hi
   omega
 refine ⟨v,⟨h1.keep ⟨k.1,fun i hi=>k.2 i (hin i (by simp [hi]))⟩ k2,h2.keep (k.2 _ (hin _ (by simp))) (k.2 _ (hin _ (by simp))),h3,h4,⟨rfl,rfl,rfl,Nat.le_refl _,fun _ _ _=>rfl,fun i hi=>.inl (hin i hi)⟩⟩,h5⟩
def dOwn (bd:Nat) (zd:Dz) (bw gw:Nat):List Nat:=[bd,zd.br,zd.bl,bw,gw]
structure Both (W w:World) (bx:Nat) (z:Wz) (mb mg:Nat) (x:Wx) (ws:List Int) (o:Bool) (n:Int) (bd:Nat) (zd:Dz) (bw gw:Nat) (xd:Wx) (wd:List Int) (nd:Int):Prop where
 ex:∃ G qd,Full w G bx z mb mg w x ws o n∧Turn [] G W w∧Blw w G∧Sep z.KK G∧Blw w z.KK∧DRaw w bd xd zd qd∧WdAt w bw gw wd nd∧Sep [bw,gw] (dAll bd zd qd)∧Sep (bw::gw::dAll bd zd qd) G∧Sep (dOwn bd zd bw gw) z.KK∧Abv W.heap.size (dOwn bd zd bw gw)
section
variable {W w w':World} {bx:Nat} {z:Wz} {mb mg:Nat} {x:Wx} {ws:List Int} {o:Bool} {n:Int} {bd:Nat} {zd:Dz} {bw gw:Nat} {xd:Wx} {wd:List Int} {nd:Int}
theorem dAll_blw {qd:Dq} (h:DRaw w bd xd zd qd) (k:WdAt w bw gw wd nd):Blw w (bw::gw::dAll bd zd qd):=fun i hi=>by
 simp only [List.mem_cons] at hi
 rcases hi with rfl | rfl | hi
 ·exact k.ltB
 ·exact k.ltG
 ·exact h.blw i hi
theorem dOwn_in {qd:Dq} (h:DRaw w bd xd zd qd):∀ i∈dOwn bd zd bw gw,i∈bw::gw::dAll bd zd qd:=fun i hi=>by
 have:=h.at_.1
 simp only [dOwn,List.mem_cons,List.not_mem_nil,or_false] at hi
 simp only [dAll,frY,Fr,List.mem_cons,List.mem_append]
 rw [this]
 rcases hi with y | y | y | y | y <;> simp [y]
theorem Both.below (h:Both W w bx z mb mg x ws o n bd zd bw gw xd wd nd):Below W.heap.size W w:=by
 obtain ⟨G,qd,h1,h2,_⟩:=h.ex
 exact (h1.from h2).below
theorem Both.mem (h:Both W w bx z mb mg x ws o n bd zd bw gw xd wd nd):MemAt 95 w mb mg ws o n:=by
 obtain ⟨G,qd,h1,_⟩:=h.ex
 exact h1.mem
theorem Both.words (h:Both W w bx z mb mg x ws o n bd zd bw gw xd wd nd):WdAt w bw gw wd nd:=by
 obtain ⟨G,qd,_,_,_,_,_,_,h7,_⟩:=h.ex
 exact h7
theorem Both.draw (h:Both W w bx z mb mg x ws o n bd zd bw gw xd wd nd):∃ qd,DRaw w bd xd zd qd:=by
 obtain ⟨G,qd,_,_,_,_,_,h6,_⟩:=h.ex
 exact ⟨qd,h6⟩
theorem Both.raw (h:Both W w bx z mb mg x ws o n bd zd bw gw xd wd nd):∃ v,RawAt w bx x z v∧VOk x v:=by
 obtain ⟨G,qd,h1,_⟩:=h.ex
 exact h1.raw
theorem Both.p (h:Both W w bx z mb mg x ws o n bd zd bw gw xd wd nd):∃ G,Full w G bx z mb mg w x ws o n∧(Shaped5 W→TabAt w G)∧∀ w' x' ws' o' n',Full w G bx z mb mg w' x' ws' o' n'→Both W w' bx z mb mg x' ws' o' n' bd zd bw gw xd wd nd:=by
 obtain ⟨G,qd,h1,h2,h3,h4,h5,h6,h7,h8,h9,h10,h11⟩:=h.ex
 refine ⟨G,h1,fun hs=>(show TabAt W [] from ⟨hs,by simp⟩).turn h2,fun w' x' ws' o' n' k=>?_⟩
 obtain ⟨G',k1,k2,k3,k4,k5⟩:=k.rebase
 have hb:=dAll_blw h6 h7
 have kD:=k2.kept h9 hb
 exact ⟨G',qd,k1,h2.trans k2,k3,k4,k5,h6.keep ⟨kD.1,fun i hi=>kD.2 i (by simp [hi])⟩,h7.keep ⟨kD.1,fun i hi=>kD.2 i (by simp only [List.mem_cons,List.not_mem_nil,or_false] at hi ⊢;rcases hi with y | y <;> simp [y])⟩,h8,h9.turn hb k2,h10,h11⟩
theorem Both.d (h:Both W w bx z mb mg x ws o n bd zd bw gw xd wd nd):∃ R0,DMid w R0 bd zd bw gw w xd wd nd∧∀ w' xd' wd' nd',DMid w R0 bd zd bw gw w' xd' wd' nd'→Both W w' bx z mb mg x ws o n bd zd bw gw xd' wd' nd':=by
 obtain ⟨G,qd,h1,h2,h3,h4,h5,h6,h7,h8,h9,h10,h11⟩:=h.ex
 refine ⟨frY zd qd,⟨qd,h6,h7,h8,Turn.refl _ _,fun _ hk=>.inl hk⟩,fun w' xd' wd' nd' k=>?_⟩
 obtain ⟨qd',k1,k2,k3,k4,k5⟩:=k
 have sO:Sep G (dOwn bd zd bw gw):=fun i hi y=>h9 i (dOwn_in h6 i y) hi
 have kG:=k4.kept sO h3
 have kK:=k4.kept h10.symm h5
 have blW:=k4.below h11 h2.size
 refine ⟨G,qd',h1.keepG kG kK,⟨k4.os.trans h2.os,k4.tape.trans h2.tape,k4.output.trans h2.output,Nat.le_trans h2.size k4.size,fun i hi hn=>(blW.block i hi).trans (h2.block i hi hn),fun i hi=>h2.own i hi⟩,fun i hi=>Nat.lt_of_lt_of_le (h3 i hi) k4.size,h4,fun i hi=>Nat.lt_of_lt_of_le (h5 i hi) k4.size,k1,k2,k3,fun i hi y=>?_,h10,h11⟩
 have old:∀ i,i∈bw::gw::dAll bd zd qd→i∈G→False:=fun i=>h9 i
 have M:∀ {i},i∈bw::gw::dAll bd zd qd ↔ i=bw∨i=gw∨i∈dAll bd zd qd:=by simp
 have M2:i=bw∨i=gw∨i∈dAll bd zd qd':=by simpa using hi
 rcases M2 with q | q | q
 ·exact old i (M.2 (.inl q)) y
 ·exact old i (M.2 (.inr (.inl q))) y
 ·rcases mem_dAll.1 q with q | q | q | q | q
  ·exact old i (M.2 (.inr (.inr (mem_dAll.2 (.inl q))))) y
  ·rcases k5 i (List.mem_append.2 (.inl q)) with q | q
   ·exact old i (M.2 (.inr (.inr (by simp only [dAll,List.mem_cons,List.mem_append];exact .inr (.inl q))))) y
   ·have:=h3 i y
    omega
  ·rcases k5 i (List.mem_append.2 (.inr q)) with q | q
   ·exact old i (M.2 (.inr (.inr (by simp only [dAll,List.mem_cons,List.mem_append];exact .inr (.inl q))))) y
   ·have:=h3 i y
    omega
  ·exact old i (M.2 (.inr (.inr (mem_dAll.2 (.inr (.inr (.inr (.inl q)))))))) y
  ·exact old i (M.2 (.inr (.inr (mem_dAll.2 (.inr (.inr (.inr (.inr q)))))))) y
theorem Both.on (h:Both W w bx z mb mg x ws o n bd zd bw gw xd wd nd) (k:Below w.heap.size w w'):Both W w' bx z mb mg x ws o n bd zd bw gw xd wd nd:=by
 obtain ⟨G,h1,_,h3⟩:=h.p
 exact h3 _ _ _ _ _ (h1.on k)
theorem both_new {W0 W u w:World} {ao:Option Addr} {cs:List Ins} (hW:Below W0.heap.size W0 W) (h:Bgn W u bx bd x ao cs) (hm:MemAt 95 w mb mg ws o n) (hd:WdAt w bw gw wd nd) (hb:Below u.heap.size u w) (a1:u.heap.size≤mb) (a2:u.heap.size≤mg) (a3:u.heap.size≤bw) (a4:u.heap.size≤gw) (s:Sep [bw,gw] [mb,mg]):∃ z zd,zd.cs=cs∧Both W0 w bx z mb mg x ws o n bd zd bw gw x wd nd:=by
 obtain ⟨z,v,zd,qd,k1,k2,k3,k4,k5,k6,k7,k8,k9,k10,kv⟩:=h.p
 have hs:=hW.size
 have hu:=h.bl.size
 obtain ⟨f1,f2⟩:=full_of k1 kv (k2.mono hs) (hW.trans (h.bl.mono hs)) hm hb a1 a2
 have D:=k5.on hb
 have lD:=k5.blw
 have hsz:=hb.size
 have lkk:=k1.blwK
 refine ⟨z,zd,k4,⟨_,qd,f1,f2,fun i hi=>?_,fun i hi y=>?_,fun i hi=>Nat.lt_of_lt_of_le (lkk i hi) hsz,D,hd,fun i hi y=>?_,fun i hi y=>?_,fun i hi y=>?_,fun i hi=>?_⟩⟩
 ·simp only [List.mem_cons] at hi
  rcases hi with rfl | rfl | hi
  ·exact hm.ltB
  ·exact hm.ltG
  ·exact Nat.lt_of_lt_of_le (k1.blw i hi) hsz
 ·have:=lkk i hi
  simp only [List.mem_cons] at y
  rcases y with y | y | y
  ·omega
  ·omega
  ·exact k1.sep i hi y
 ·have:=lD i y
  simp only [List.mem_cons,List.not_mem_nil,or_false] at hi
  omega
 ·simp only [List.mem_cons] at hi y
  have sm:=s i
  simp only [List.mem_cons,List.not_mem_nil,or_false] at sm
  rcases y with y | y | y
  ·rcases hi with hi | hi | hi
   ·exact sm (.inl hi) (.inl y)
   ·exact sm (.inr hi) (.inl y)
   ·have:=lD i hi;omega
  ·rcases hi with hi | hi | hi
   ·exact sm (.inl hi) (.inr y)
   ·exact sm (.inr hi) (.inr y)
   ·have:=lD i hi;omega
  ·have:=k1.blw i y
   rcases hi with hi | hi | hi
   ·omega
   ·omega
   ·exact k9 i y hi
 ·have:=lkk i y
  have bl:=k5.at_.1
  simp only [dOwn,List.mem_cons,List.not_mem_nil,or_false] at hi
  rcases hi with hi | hi | hi | hi | hi
  ·exact k10 i y (by simp [hi])
  ·exact k10 i y (by simp [hi,frY,Fr])
  ·exact k10 i y (by simp [hi,frY,Fr,bl])
  ·omega
  ·omega
 ·have bl:=k5.at_.1
  have K6:=k6 i
  simp only [frY,Fr,List.mem_cons,List.mem_append] at K6
  simp only [dOwn,List.mem_cons,List.not_mem_nil,or_false] at hi
  rcases hi with hi | hi | hi | hi | hi
  ·have:=K6 (.inl hi);omega
  ·have:=K6 (.inr (.inl (.inl hi)));omega
  ·have:=K6 (.inr (.inl (.inr (.inl (by rw [bl];exact hi)))));omega
  ·omega
  ·omega
end
end Go.Proofs.YteinilmecnlanabGreatDoor.Ww
namespace Go.Proofs.YteinilmecnlanabGreatDoor.Ww
open Go.ChangeShapes Go.WideShapes Go.ChangeAt Go.RowKit Num Rr
abbrev planO (b:Int) (N:Nat):Obj:=.cells #[.int .i64 0,.int .i64 1,.int .i64 2,.int .i64 3,.int .i64 (3+b),.int .i64 (N:Int)] 43
structure Laid (w w':World) (N mb mg bw gw:Nat) (ws:List Int):Prop where
 len:ws.length=N
 ok:okW ws
 mem:MemAt 95 w' mb mg ws false 0
 wds:WdAt w' bw gw ws 0
 am:w.heap.size≤mb
 ag:w.heap.size≤mg
 aw:w.heap.size≤bw
 av:w.heap.size≤gw
 sep:Sep [bw,gw] [mb,mg]
 bl:Below w.heap.size w w'
theorem okW_zeros (N:Nat):okW (List.replicate N 0):=fun v hv=>by rw [List.eq_of_mem_replicate hv];exact ⟨by decide,by decide⟩
theorem poked_nat {ws:List Int} {i:Nat} (h:i<ws.length) (v:Int):Md.poked ws (i:Int) v=ws.set i v:=by
 unfold Md.poked
 rw [if_pos (by simp [hasB];omega)]
 simp
theorem getD_ok {ws:List Int} (h:okW ws) (i:Nat):u64B (ws.getD i 0):=by
 by_cases q:i<ws.length
 ·have e:ws.getD i 0=ws[i]:=by simp [q]
  rw [e]
  exact h _ (List.getElem_mem q)
 ·have e:ws.getD i 0=0:=by simp [List.getD_eq_getElem?_getD,List.getElem?_eq_none (Nat.le_of_not_lt q)]
  rw [e]
  exact ⟨by decide,by decide⟩
theorem Laid.put {w u u1:World} {N mb mg bw gw:Nat} {ws:List Int} (h:Laid w u N mb mg bw gw ws) {i:Nat} (hi:i<N) {v:Int} (hv:u64B v) (k1:MemAt 95 u1 mb mg (Md.poked ws (i:Int) v) false 0) (k2:Chg mb mg u u1):Laid w (u1.setCell ⟨gw,i,none⟩ (.int .u64 v)) N mb mg bw gw (ws.set i v):=by
 have s:∀ y,y=bw∨y=gw→y≠mb∧y≠mg:=fun y hy=>by
  have:=h.sep y (by simpa using hy)
  simpa using this
 rw [poked_nat (by rw [h.len];exact hi)] at k1
 have w1:WdAt u1 bw gw ws 0:=h.wds.keep ⟨k2.size,fun y hy=>by
  have hy':y=bw∨y=gw:=by simpa using hy
  refine k2.block y ?_ (s y hy').1 (s y hy').2
  rcases hy' with rfl | rfl
  ·exact h.wds.ltB
  ·exact h.wds.ltG⟩
 have b1:Below w.heap.size w u1:=h.bl.trans (k2.below h.am h.ag h.bl.size)
 exact ⟨by rw [List.length_set];exact h.len,h.ok.set _ hv,k1.other (fun y=>(s gw (.inr rfl)).1 y.symm) (fun y=>(s gw (.inr rfl)).2 y.symm) _ _,w1.setW i v,h.am,h.ag,h.aw,h.av,h.sep,b1.setCell h.av _⟩
theorem Laid.drew {w u:World} {N mb mg bw gw:Nat} {ws:List Int} (h:Laid w u N mb mg bw gw ws):Laid w u.drew N mb mg bw gw ws:=⟨h.len,h.ok,h.mem.drew,⟨h.wds.box,h.wds.row,h.wds.ne,h.wds.many⟩,h.am,h.ag,h.aw,h.av,h.sep,h.bl.trans ((Same.drew u).below _)⟩
section
variable {W:World} {a b c e:Int} {pw:Option Addr} {lw:List Int} {kw cw:Nat}
theorem laid_any (hc:Md.cfgB a b c e=true) (hw:UAt W pw lw) (hk:lw.length=kw) (hl:okW lw) (hx:kw≤9223372036854775807) {N:Nat} (hN:3+b+3*a=(N:Int)):Calls Tryz.prog 6 #[cfgV a b c e,.slice pw kw cw] W fun r w'=>∃ mb bw,r=.returned (.tuple #[.pointer (some ⟨mb,0,none⟩),.pointer (some ⟨bw,0,none⟩)])∧Hid (∃ mg gw ws,Laid W w' N mb mg bw gw ws):=by
 obtain ⟨h1,h2,h3,h4⟩:=Md.cfgB_iff.1 hc
 have n1:1≤N∧N≤4096:=by omega
 have HP:=Lib.hid (fun u=>Md.refPlace_any a b c e u)
 simp only [hc,if_true,hN] at HP
 have HM:Hid (∀ u,Calls Tryz.prog 17 #[.int .i64 (N:Int)] u fun e w'=>e=.returned (.tuple #[.pointer (some ⟨u.heap.size+1,0,none⟩),.int .i64 0])∧MemAt 95 w' (u.heap.size+1) u.heap.size (List.replicate N 0) false 0∧Below u.heap.size u w'):=fun u=>Md.new_some N n1.1 n1.2 u
 have HK:=fun u=>Md.make_words N n1.2 u
 have HWW:Hid (UAt W pw lw∧okW lw∧lw.length=kw):=⟨hw,hl,hk⟩
 clear hc h1 h2 h3 h4 hw hl hk hN
 go_enter Tryz.func6,Tryz.ntmps6
 go_upto_region 8 with (first
  | (go_at_call 17;refine (HM.out _).mono ?_;rintro r u2 ⟨rfl,q1,q2⟩;have H2:=Lib.hid (And.intro q1 q2);obtain ⟨p0,p1,p2,p3,p4,p5,lp⟩:=cells6 ((q2.block _ (lt_of_block H1.out.2)).trans H1.out.2);clear q1 q2 HM)
  | (go_at_call 22;refine (HP.out _).mono ?_;rintro r u1 ⟨rfl,q⟩;have H1:Hid (Below W.heap.size W (u1.alloc (planO b N))∧(u1.alloc (planO b N)).heap[u1.heap.size]?=some (planO b N)):=⟨(below_chain (below_alloc W _) q).alloc (below_chain (below_alloc W _) q).size _,heap_alloc_new _ _⟩;clear q HP))
 have HL0:Hid (Laid (u1.alloc (planO b N)) ((u2.alloc (.cells (u64s (List.replicate N 0)).toArray 45)).alloc (.cells #[.slice (some ⟨u2.heap.size,0,none⟩) N N,.int .i64 0] 76)) N (u1.heap.size+1+1) (u1.heap.size+1) (u2.heap.size+1) u2.heap.size (List.replicate N 0)):=by
  have e:(u1.alloc (planO b N)).heap.size=u1.heap.size+1:=by simp
  obtain ⟨m1,m2⟩:=H2.out
  rw [e] at m1
  have l1:=m1.ltB
  have l2:=m1.ltG
  have k2:Below u2.heap.size u2 ((u2.alloc (.cells (u64s (List.replicate N 0)).toArray 45)).alloc (.cells #[.slice (some ⟨u2.heap.size,0,none⟩) N N,.int .i64 0] 76)):=(below_alloc _ _).trans ((below_alloc _ _).mono (by simp))
  refine ⟨by simp,okW_zeros N,m1.on k2,⟨?_,heap_old (heap_alloc_new _ _),by omega,by simp;exact n1.2⟩,by rw [e];omega,by rw [e];omega,by rw [e];omega,by rw [e];omega,fun i hi y=>?_,m2.trans (k2.mono m2.size)⟩
  ·have:=heap_alloc_new (u2.alloc (.cells (u64s (List.replicate N 0)).toArray 45)) (.cells #[.slice (some ⟨u2.heap.size,0,none⟩) N N,.int .i64 0] 76)
   simpa using this
  ·simp only [List.mem_cons,List.not_mem_nil,or_false] at hi y
   omega
 clear H2 p0 p1 p2 p3 p4 p5 lp HK
 generalize u1.heap.size+1+1=mb at HL0
 generalize u1.heap.size+1=mg at HL0
 generalize hbw:u2.heap.size+1=bw at HL0
 generalize u2.heap.size=gw at HL0
 clear hbw
 go_wp2_with fail
 go_loopw [11] (fun vi wr=>∃ i:Nat,vi=.int .i64 i∧i≤N∧Hid (∃ ws,Laid (u1.alloc (planO b N)) wr N mb mg bw gw ws)) (fun vi _=>N - (intOf vi).toNat)
 case atStart=>exact ⟨0,rfl,Nat.zero_le _,_,HL0.out⟩
 case round =>
  obtain ⟨i,rfl,hi,HR⟩:=hrel
  obtain ⟨ws,hws⟩:=HR.out
  have HR2:=Lib.hid hws
  clear HR hws
  obtain ⟨p0,p1,p2,p3,p4,p5,lp⟩:=cells6 ((HR2.out.bl.block _ (lt_of_block H1.out.2)).trans H1.out.2)
  clear p0 p1 p2 p3 p4
  by_cases hlt:i<N∧i<kw
  ·have hlt':(i:Int)<(N:Int):=by omega
   have hlk':(i:Int)<(kw:Int):=by omega
   obtain ⟨g,off,hp,hg,hcell⟩:=HWW.out.1 i (by rw [HWW.out.2.2];exact hlt.2)
   have HV:Hid (u64B (lw.getD i 0)):=getD_ok HWW.out.2.1 i
   generalize lw.getD i 0=v at hcell HV
   subst hp
   have HB:Hid (∀ u,Below (u1.alloc (planO b N)).heap.size (u1.alloc (planO b N)) u→u.cell? ⟨g,off+i,none⟩=some (.int .u64 v)∧g<u.heap.size):=fun u q=>by
    have q2:=H1.out.1.trans (q.mono H1.out.1.size)
    exact ⟨(q2.cell (p:=⟨g,off+i,none⟩) hg).trans hcell,Nat.lt_of_lt_of_le hg q2.size⟩
   obtain ⟨x1,x2⟩:=HB.out _ HR2.out.bl
   have HPK:=Lib.hid (Md.poke_any HR2.out.mem (i:Int) v)
   have HPUT:Hid (∀ u1',MemAt 95 u1' mb mg (Md.poked ws (i:Int) v) false 0→Chg mb mg wr u1'→Laid (u1.alloc (planO b N)) (u1'.setCell ⟨gw,i,none⟩ (.int .u64 v)) N mb mg bw gw (ws.set i v)∧Below (u1.alloc (planO b N)).heap.size (u1.alloc (planO b N)) u1'∧WdAt u1' bw gw ws 0):=fun u' k1 k2=>by
    have b1:=HR2.out.bl.trans (k2.below HR2.out.am HR2.out.ag HR2.out.bl.size)
    refine ⟨HR2.out.put hlt.1 HV.out k1 k2,b1,HR2.out.wds.keep ⟨k2.size,fun y hy=>?_⟩⟩
    have hy':y=bw∨y=gw:=by simpa using hy
    have s:=HR2.out.sep y hy
    refine k2.block y ?_ (fun q=>s (by simp [q])) (fun q=>s (by simp [q]))
    rcases hy' with rfl | rfl
    ·exact HR2.out.wds.ltB
    ·exact HR2.out.wds.ltG
   have hgw:Hid (g≠gw):=fun q=>by have h1:=HR2.out.av;have h2:=H1.out.1.size;omega
   have HLEN:Hid (ws.length=N):=HR2.out.len
   clear hcell HWW
   go_upto_region 12 with (go_at_call 23;refine HPK.out.mono ?_;rintro r u3 ⟨rfl,q1,q2⟩;have H3:=Lib.hid (HPUT.out _ q1 q2);obtain ⟨y1,y2⟩:=HB.out _ H3.out.2.1;have c0:=H3.out.2.2.cell0;rw [HLEN.out] at c0;have lb:=H3.out.2.2.ltB;have f0:=H3.out.2.2.freeG i;have lg:=H3.out.2.2.ltG;clear q1 q2 HPK HPUT)
   have hne:=H3.out.2.2.ne
   refine wp_region_seq (fun u=>u.cell? ⟨g,off+i,none⟩=some (.int .u64 v)∧u.cell? ⟨bw,0,none⟩=some (.slice (some ⟨gw,0,none⟩) N N) )  ((0,true)::(1,true)::(2,true)::(3,true)::(4,true)::(5,true)::(6,true)::(7,true)::(8,true)::(9,true)::(10,false)::[])  Md.Cv.follows13 (by kernel_rfl) (fun _ _ _ _ _ h=>h)  ⟨y1,c0⟩ ?_
   (repeat ((first | (refine wpSeq_take (v:=?_) rfl (by rfl) (fun wq hSq=>?_) ?_;rotate_left;(focus ((try dsimp only at hSq);go_simp;try with_reducible rfl))) | refine wpSeq_skip rfl (by rfl) ?_);simp only [Act.put,List.setIfInBounds_toArray,List.set_cons_zero,List.set_cons_succ]))
   have cw:=H3.out.2.2.word (i:=i) (by rw [HLEN.out];exact hlt.1)
   (refine wpSeq_do rfl (by rfl) (fun KK hK=>?_);go_simp)
   refine hK.out _ _ ⟨(World.cell?_setCell_far _ _ _ _ (fun q=>hgw.out q.symm)).trans y1,(World.cell?_setCell_far _ _ _ _ (fun q=>hne q.symm)).trans c0⟩ ?_
   (clear hK KK;try simp only [Act.put])
   refine wpSeq_nil ?_
   go_wp2_with fail
   exact ⟨⟨i+1,by first | rfl | (congr 1),by omega,_,H3.out.1.drew⟩,by simp [intOf];omega⟩
  ·have HF:Hid (∃ mg gw ws,Laid W wr N mb mg bw gw ws):=by
    have q:=HR2.out
    have hs:=H1.out.1.size
    exact ⟨mg,gw,ws,q.len,q.ok,q.mem,q.wds,Nat.le_trans hs q.am,Nat.le_trans hs q.ag,Nat.le_trans hs q.aw,Nat.le_trans hs q.av,q.sep,H1.out.1.trans (q.bl.mono hs)⟩
   by_cases h1:i<N
   ·have h1':(i:Int)<(N:Int):=by omega
    have h2':¬ (i:Int)<(kw:Int):=by omega
    go_wp2_with fail
    go_ret2
    exact ⟨mb,bw,rfl,HF.out⟩
   ·have h1':¬ (i:Int)<(N:Int):=by omega
    go_wp2_with fail
    go_ret2
    exact ⟨mb,bw,rfl,HF.out⟩
end
section
variable {W w:World} {bx:Nat} {z:Wz} {mb mg:Nat} {x:Wx} {ws:List Int} {o:Bool} {n:Int} {bd:Nat} {zd:Dz} {bw gw:Nat} {xd:Wx} {wd:List Int} {nd:Int} {pp:Option Addr} {lp:List (Int × Int)} {kp cp:Nat}
theorem Both.setW (h:Both W w bx z mb mg x ws o n bd zd bw gw xd wd nd) (i:Nat) (v:Int):Both W (w.setCell ⟨gw,i,none⟩ (.int .u64 v)) bx z mb mg x ws o n bd zd bw gw xd (wd.set i v) nd:=by
 obtain ⟨R0,h1,h3⟩:=h.d
 exact h3 _ _ _ _ (h1.wrds ((turn_set w gw i _).wide (by simp)) (h1.words.setW i v))
end
end Go.Proofs.YteinilmecnlanabGreatDoor.Ww
namespace Go.Proofs.YteinilmecnlanabGreatDoor.Ww
open Go.ChangeShapes Go.WideShapes Go.ChangeAt Go.RowKit Num Rr
structure RideAll (W:World) (cs:List Ins) (l:List Nat) (ao po:Option Addr) (n k:Nat) (lw:List Int) (pw:Option Addr) (kw:Nat) (lp:List (Int × Int)) (pp:Option Addr) (kp:Nat):Prop where
 at_:RideAt W cs l ao po n k
 words:UAt W pw lw
 wx:okW lw
 wl:lw.length=kw
 wb:kw≤9223372036854775807
 pokes:PkAt W pp lp
 px:∀ p∈lp,(-9223372036854775808≤p.1∧p.1≤9223372036854775807)∧u64B p.2
 pl:lp.length=kp
theorem RideAll.on {W w:World} {cs:List Ins} {l:List Nat} {ao po:Option Addr} {n k:Nat} {lw:List Int} {pw:Option Addr} {kw:Nat} {lp:List (Int × Int)} {pp:Option Addr} {kp:Nat} (h:RideAll W cs l ao po n k lw pw kw lp pp kp) (q:Below W.heap.size W w):RideAll w cs l ao po n k lw pw kw lp pp kp:=⟨h.at_.on q,h.words.on q,h.wx,h.wl,h.wb,h.pokes.on q,h.px,h.pl⟩
theorem RideIn.all {W:World} {a b c e th t:Int} {ao:Option Addr} {cs:List Ins} {cap:Nat} {po:Option Addr} {l:List Nat} {co:Nat} {pw:Option Addr} {lw:List Int} {cw:Nat} {pp:Option Addr} {lp:List (Int × Int)} {cp:Nat} (h:RideIn W a b c e th t ao cs cap po l co pw lw cw pp lp cp) (hs:Shaped5 W):RideAll W cs l ao po cs.length l.length lw pw lw.length lp pp lp.length:=⟨h.at_ hs,h.words,h.wx,rfl,h.wl,h.pokes,h.px,rfl⟩
end Go.Proofs.YteinilmecnlanabGreatDoor.Ww
namespace Go.Proofs.YteinilmecnlanabGreatDoor.Ww
open Go.ChangeShapes Go.WideShapes Go.ChangeAt Go.RowKit Num Rr
section
variable {W w:World} {bx:Nat} {z:Wz} {mb mg:Nat} {x:Wx} {ws:List Int} {o:Bool} {n:Int} {bd:Nat} {zd:Dz} {bw gw:Nat} {xd:Wx} {wd:List Int} {nd:Int}
theorem Both.step (h:Both W w bx z mb mg x ws o n bd zd bw gw xd wd nd) (hs:Shaped5 W) (hI:InY x) (hp:x.part≠9) (hl:plY x≤(ws.length:Int)) (h0:0≤x.steps) (h1:x.steps≤1000000) {y:Wx} {ws':List Int} {ac:Bool} (hy:stepY x ws=(y,ws',ac)) {n':Int} (hn:(if ac then up n else n)=n') {ov:Bool} (hov:decide ((y.part:Int)=9)=ov):Calls Tryz.prog 8 #[.pointer (some ⟨bx,0,none⟩),.pointer (some ⟨mb,0,none⟩)] w fun r w'=>r=.returned (.tuple #[.bool ov,.int .i64 0])∧Both W w' bx z mb mg y ws' (!ac) n' bd zd bw gw xd wd nd:=by
 obtain ⟨G,h1',h2,h3⟩:=h.p
 refine (step_any h1' (h2 hs) hI hp hl h0 h1 hy).mono ?_
 rintro r w' ⟨rfl,k⟩
 rw [hov]
 rw [hn] at k
 exact ⟨rfl,h3 _ _ _ _ _ k⟩
theorem Both.over (h:Both W w bx z mb mg x ws o n bd zd bw gw xd wd nd) (hl:plY x≤(ws.length:Int)) (hp:x.part=9):Calls Tryz.prog 8 #[.pointer (some ⟨bx,0,none⟩),.pointer (some ⟨mb,0,none⟩)] w fun r w'=>r=.returned (.tuple #[.bool false,.int .i64 3])∧Both W w' bx z mb mg x ws o n bd zd bw gw xd wd nd:=by
 obtain ⟨G,h1,_,_⟩:=h.p
 refine (step_over h1 hl hp).mono ?_
 rintro r w' ⟨rfl,k⟩
 exact ⟨rfl,h.on (k.below _)⟩
theorem Both.plan (h:Both W w bx z mb mg x ws o n bd zd bw gw xd wd nd):w.cell? ⟨bd,0,none⟩=some (.int .i64 0)∧w.cell? ⟨bd,1,none⟩=some (.int .i64 1)∧w.cell? ⟨bd,2,none⟩=some (.int .i64 2)∧w.cell? ⟨bd,3,none⟩=some (.int .i64 3)∧w.cell? ⟨bd,4,none⟩=some (.int .i64 (3+xd.b))∧w.cell? ⟨bd,5,none⟩=some (.int .i64 (3+xd.b+3*xd.a))∧bd<w.heap.size:=by
 obtain ⟨qd,k⟩:=h.draw
 exact ⟨(k.cell 0).trans rfl,(k.cell 1).trans rfl,(k.cell 2).trans rfl,(k.cell 3).trans rfl,(k.cell 4).trans rfl,(k.cell 5).trans rfl,k.ltB⟩
theorem Both.phase (h:Both W w bx z mb mg x ws o n bd zd bw gw xd wd nd) {p:Int} (hp:(x.part:Int)=p):Calls Tryz.prog 16 #[.pointer (some ⟨bx,0,none⟩)] w fun r w'=>r=.returned (.int .i64 p)∧w'=w:=by
 obtain ⟨v,k,_⟩:=h.raw
 have:=phase_raw k
 rw [hp] at this
 exact this
end
end Go.Proofs.YteinilmecnlanabGreatDoor.Ww
