import Derived.Test.YteinilmecnlanabGreatDoorJC2
import Derived.Test.YteinilmecnlanabGreatDoorSq
import Derived.Deep.AppendSrc
import Derived.Deep.MidRow
import Derived.Test.YteinilmecnlanabGreatDoorJC1
set_option maxRecDepth 100000
set_option maxHeartbeats 8000000
namespace Go.Proofs.YteinilmecnlanabGreatDoor.Ww
open Go.ChangeShapes Go.WideShapes Go.ChangeAt Go.RowKit Num Rr
structure Wx where
 a:Int
 b:Int
 th:Int
 tag:Int
 args:List Nat
 m:Mac
 steps:Int
 part:Nat
 tick:Int
 stamp:Int
 was:List Nat
 at_:Nat
 num:Int
def plY (x:Wx):Int:=3+x.b+3*x.a
def atC (x:Wx) (c j:Int):Int:=3+x.b+3*c+j
def nowN (x:Wx) (ws:List Int) (c:Int):Nat:=fixB (wordAt ws (atC x c 1)).toNat
def runY (x:Wx) (ws:List Int):Wx × Bool :=
 if (stepM x.m).2.kind=1 then ({ x with m:=giveM (stepM x.m).1 (nowN x ws (stepM x.m).2.cell) },true)
 else if (stepM x.m).2.kind=3∧(stepM x.m).2.first=true then ({ x with m:=(stepM x.m).1,was:=x.was ++ [nowN x ws (stepM x.m).2.cell] },true)
 else if (stepM x.m).2.kind=4 then ({ x with m:=(stepM x.m).1,part:=if (stepM x.m).1.how=1 then 5 else 8 },false)
 else ({ x with m:=(stepM x.m).1 },false)
def scanY (x:Wx) (ws:List Int):Wx :=
 if wordAt ws (3+(x.at_:Int))=0∨x.stamp<wordAt ws (3+(x.at_:Int)) then
  (if ((x.at_+1:Nat):Int)=x.b then { x with at_:=0,part:=if x.m.buf.length=0 then 7 else 6 } else { x with at_:=x.at_+1 })
 else x
def backW (x:Wx) (ws:List Int):List Int :=
 if x.at_ % 3=0 then ws.set (atC x (x.m.buf.getD (x.at_ / 3) (0,0)).1 2).toNat ((x.was.getD (x.at_ / 3) 0:Nat):Int)
 else if x.at_ % 3=1 then ws.set (atC x (x.m.buf.getD (x.at_ / 3) (0,0)).1 0).toNat (Md.Cv.passV x.stamp)
 else ws.set (atC x (x.m.buf.getD (x.at_ / 3) (0,0)).1 1).toNat (((x.m.buf.getD (x.at_ / 3) (0,0)).2:Nat):Int)
def backY (x:Wx):Wx:={ x with at_:=x.at_+1,part:=if x.at_+1=3*x.m.buf.length then 7 else 6 }
def tickY (x:Wx):Wx:={ x with steps:=x.steps+1 }
def stepY0 (x:Wx) (ws:List Int):Wx × List Int × Bool :=
 if x.part=1 then ({ x with tick:=wordAt ws 0,part:=2 },ws.set 0 (Md.Cv.passV (wordAt ws 0)),true)
 else if x.part=2 then ((if wordAt ws 1=x.tick then { x with part:=3 } else x),ws,true)
 else if x.part=3 then ({ x with stamp:=wordAt ws 2,part:=4 },ws,true)
 else if x.part=4 then ((runY x ws).1,ws,(runY x ws).2)
 else if x.part=5 then (scanY x ws,ws,true)
 else if x.part=6 then (backY x,backW x ws,true)
 else if x.part=7 then ({ x with num:=wrap64 (Md.Cv.passV x.stamp),part:=8 },ws.set 2 (Md.Cv.passV x.stamp),true)
 else ({ x with part:=9 },ws.set 1 (Md.Cv.passV x.tick),true)
def stepY (x:Wx) (ws:List Int):Wx × List Int × Bool:=stepY0 (tickY x) ws
structure AlikeY (x y:Wx):Prop where
 a:y.a=x.a
 b:y.b=x.b
 th:y.th=x.th
 tag:y.tag=x.tag
 args:y.args=x.args
 lk:Like x.m y.m
theorem AlikeY.refl (x:Wx):AlikeY x x:=⟨rfl,rfl,rfl,rfl,rfl,Like.refl _⟩
theorem AlikeY.trans {x y z:Wx} (h:AlikeY x y) (k:AlikeY y z):AlikeY x z:=⟨k.a.trans h.a,k.b.trans h.b,k.th.trans h.th,k.tag.trans h.tag,k.args.trans h.args,h.lk.trans k.lk⟩
theorem plY_alike {x y:Wx} (h:AlikeY x y):plY y=plY x:=by unfold plY;rw [h.a,h.b]
structure InY (x:Wx):Prop where
 ca:1≤x.a∧x.a≤256
 cb:1≤x.b∧x.b≤8
 cel:x.m.cells=x.a
 th:0≤x.th∧x.th<x.b
 rest:Rest x.m
 few:x.args.length≤8
 part:1≤x.part∧x.part≤9
 tk:u64B x.tick
 sp:u64B x.stamp
 wlen:x.was.length=x.m.buf.length
 wok:∀ v∈x.was,okN v
 run:x.part≤4→x.m.how=0
 fin:5≤x.part→x.m.how≠0
 com:5≤x.part→x.part≤7→x.m.how=1
 at4:x.part≤4→x.at_=0
 at5:x.part=5→(x.at_:Int)<x.b
 at6:x.part=6→x.at_<3*x.m.buf.length
theorem InY.tick {x:Wx} (h:InY x):InY (tickY x):=⟨h.ca,h.cb,h.cel,h.th,h.rest,h.few,h.part,h.tk,h.sp,h.wlen,h.wok,h.run,h.fin,h.com,h.at4,h.at5,h.at6⟩
theorem now_ok {ws:List Int} (h:okW ws) (x:Wx) (c:Int):okN (nowN x ws c):=okN_fix (by have:=h.at (atC x c 1);have h1:=this.1;have h2:=this.2;omega)
section
variable {x:Wx} {ws:List Int}
theorem rest_step {m:Mac} (h:Rest m) (hk:(stepM m).2.kind≠1):Rest (stepM m).1:=by
 have:=h.go (s:=[]) (fun _ hx=>by cases hx)
 rw [go_kindN hk] at this
 exact this
theorem rest_give {m:Mac} (h:Rest m) (h0:m.how=0) (hk:(stepM m).2.kind=1) {v:Nat} (hv:okN v):Rest (giveM (stepM m).1 v)∧(giveM (stepM m).1 v).how=0∧Like m (giveM (stepM m).1 v)∧(giveM (stepM m).1 v).used=m.used+1∧(giveM (stepM m).1 v).buf=m.buf:=by
 obtain ⟨lk,tr⟩:=step_turns h.inv h.nw h0
 have hb:=step_bufs h.inv h.nw h0
 rcases tr with ⟨k4,_⟩ | ⟨_,e1,e2,e3,e4⟩ | ⟨k0,_⟩
 ·omega
 ·obtain ⟨g1,g2,g3,g4⟩:=give_goes e2 v
  have eb:(giveM (stepM m).1 v).buf=m.buf:=by
   rw [give_bufs]
   rcases hb with ⟨q,_⟩ | ⟨q,_⟩ | ⟨_,e,_⟩ | ⟨q,_⟩ | ⟨q,_⟩
   ·omega
   ·omega
   ·exact e
   ·omega
   ·omega
  refine ⟨⟨inv_give (inv_step h.inv) hv.2,g1,?_,?_⟩,g2.trans e3,lk.trans g4,g3.trans e4,eb⟩
  ·rw [eb,(lk.trans g4).cells];exact h.cel
  ·rw [eb];exact h.nod
 ·omega
theorem run_inY (h:InY x) (hp:x.part=4) (hW:okW ws):InY (runY x ws).1∧AlikeY x (runY x ws).1∧(runY x ws).1.steps=x.steps:=by
 have h0:=h.run (by omega)
 have hR:=h.rest
 obtain ⟨lk,tr⟩:=step_turns hR.inv hR.nw h0
 have hb:=step_bufs hR.inv hR.nw h0
 unfold runY
 by_cases k1:(stepM x.m).2.kind=1
 ·rw [if_pos k1]
  obtain ⟨r1,r2,r3,r4,r5⟩:=rest_give hR h0 k1 (now_ok hW x (stepM x.m).2.cell)
  exact ⟨⟨h.ca,h.cb,r3.cells.trans h.cel,h.th,r1,h.few,h.part,h.tk,h.sp,by dsimp only;rw [r5];exact h.wlen,h.wok,fun _=>r2,(fun q=>by dsimp only at q;omega),(fun q=>by dsimp only at q;omega),h.at4,(fun q=>by dsimp only at q;omega),(fun q=>by dsimp only at q;omega)⟩,⟨rfl,rfl,rfl,rfl,rfl,r3⟩,rfl⟩
 ·rw [if_neg k1]
  have rs:=rest_step hR k1
  by_cases k3:(stepM x.m).2.kind=3∧(stepM x.m).2.first=true
  ·rw [if_pos k3]
   have hh:(stepM x.m).1.how=0:=by
    rcases tr with ⟨k4,_⟩ | ⟨q,_⟩ | ⟨_,_,e,_⟩
    ·omega
    ·omega
    ·exact e
   have hl:(stepM x.m).1.buf.length=x.m.buf.length+1:=by
    rcases hb with ⟨q,_⟩ | ⟨q,_⟩ | ⟨q,_⟩ | ⟨q,_⟩ | ⟨_,e,f,_⟩
    ·omega
    ·omega
    ·omega
    ·omega
    ·rw [e,putC_len]
     rw [k3.2] at f
     have hc:hasC x.m.buf (stepM x.m).2.cell=false:=by simpa using f.symm
     rw [hc]
     rfl
   refine ⟨⟨h.ca,h.cb,lk.cells.trans h.cel,h.th,rs,h.few,h.part,h.tk,h.sp,?_,fun v hv=>?_,fun _=>hh,(fun q=>by dsimp only at q;omega),(fun q=>by dsimp only at q;omega),h.at4,(fun q=>by dsimp only at q;omega),(fun q=>by dsimp only at q;omega)⟩,⟨rfl,rfl,rfl,rfl,rfl,lk⟩,rfl⟩
   ·dsimp only
    rw [List.length_append,h.wlen,hl]
    rfl
   ·rcases List.mem_append.1 hv with q | q
    ·exact h.wok v q
    ·have q':v=nowN x ws (stepM x.m).2.cell:=by simpa using q
     rw [q']
     exact now_ok hW x _
  ·rw [if_neg k3]
   have hl:(stepM x.m).1.buf.length=x.m.buf.length:=by
    rcases hb with ⟨_,e⟩ | ⟨_,e⟩ | ⟨_,e,_⟩ | ⟨_,e,_⟩ | ⟨q,e,f,_⟩
    ·rw [e]
    ·rw [e]
    ·rw [e]
    ·rw [e]
    ·rw [e,putC_len]
     have hc:hasC x.m.buf (stepM x.m).2.cell=true:=by
      cases hq:hasC x.m.buf (stepM x.m).2.cell with
      | true=>rfl
      | false=>exact absurd ⟨q,by rw [f,hq];rfl⟩ k3
     rw [hc]
     rfl
   by_cases k4:(stepM x.m).2.kind=4
   ·rw [if_pos k4]
    have hh:(stepM x.m).1.how≠0:=by
     rcases tr with ⟨_,e,_⟩ | ⟨q,_⟩ | ⟨q,_⟩
     ·exact e
     ·omega
     ·omega
    by_cases hc:(stepM x.m).1.how=1
    ·rw [if_pos hc]
     exact ⟨⟨h.ca,h.cb,lk.cells.trans h.cel,h.th,rs,h.few,by dsimp only;omega,h.tk,h.sp,by dsimp only;rw [hl];exact h.wlen,h.wok,(fun q=>by dsimp only at q;omega),fun _=>hh,fun _ _=>hc,(fun q=>by dsimp only at q;omega),(fun _=>by dsimp only;rw [h.at4 (by omega)];have:=h.cb;omega),(fun q=>by dsimp only at q;omega)⟩,⟨rfl,rfl,rfl,rfl,rfl,lk⟩,rfl⟩
    ·rw [if_neg hc]
     exact ⟨⟨h.ca,h.cb,lk.cells.trans h.cel,h.th,rs,h.few,by dsimp only;omega,h.tk,h.sp,by dsimp only;rw [hl];exact h.wlen,h.wok,(fun q=>by dsimp only at q;omega),fun _=>hh,(fun _ q=>by dsimp only at q;omega),(fun q=>by dsimp only at q;omega),(fun q=>by dsimp only at q;omega),(fun q=>by dsimp only at q;omega)⟩,⟨rfl,rfl,rfl,rfl,rfl,lk⟩,rfl⟩
   ·rw [if_neg k4]
    have hh:(stepM x.m).1.how=0:=by
     rcases tr with ⟨q,_⟩ | ⟨q,_⟩ | ⟨_,_,e,_⟩
     ·omega
     ·omega
     ·exact e
    exact ⟨⟨h.ca,h.cb,lk.cells.trans h.cel,h.th,rs,h.few,h.part,h.tk,h.sp,by dsimp only;rw [hl];exact h.wlen,h.wok,fun _=>hh,(fun q=>by dsimp only at q;omega),(fun q=>by dsimp only at q;omega),h.at4,(fun q=>by dsimp only at q;omega),(fun q=>by dsimp only at q;omega)⟩,⟨rfl,rfl,rfl,rfl,rfl,lk⟩,rfl⟩
theorem scan_inY (h:InY x) (hp:x.part=5):InY (scanY x ws)∧AlikeY x (scanY x ws)∧(scanY x ws).steps=x.steps:=by
 have h5:=h.at5 hp
 unfold scanY
 split
 ·split
  ·by_cases hl:x.m.buf.length=0
   ·rw [if_pos hl]
    exact ⟨⟨h.ca,h.cb,h.cel,h.th,h.rest,h.few,by dsimp only;omega,h.tk,h.sp,h.wlen,h.wok,(fun q=>by dsimp only at q;omega),fun _=>h.fin (by omega),fun _ _=>h.com (by omega) (by omega),(fun q=>by dsimp only at q;omega),(fun q=>by dsimp only at q;omega),(fun q=>by dsimp only at q;omega)⟩,⟨rfl,rfl,rfl,rfl,rfl,Like.refl _⟩,rfl⟩
   ·rw [if_neg hl]
    exact ⟨⟨h.ca,h.cb,h.cel,h.th,h.rest,h.few,by dsimp only;omega,h.tk,h.sp,h.wlen,h.wok,(fun q=>by dsimp only at q;omega),fun _=>h.fin (by omega),fun _ _=>h.com (by omega) (by omega),(fun q=>by dsimp only at q;omega),(fun q=>by dsimp only at q;omega),(fun _=>by dsimp only;omega)⟩,⟨rfl,rfl,rfl,rfl,rfl,Like.refl _⟩,rfl⟩
  ·next hne=>exact ⟨⟨h.ca,h.cb,h.cel,h.th,h.rest,h.few,h.part,h.tk,h.sp,h.wlen,h.wok,h.run,h.fin,h.com,(fun q=>by dsimp only at q;omega),(fun _=>by dsimp only;omega),(fun q=>by dsimp only at q;omega)⟩,⟨rfl,rfl,rfl,rfl,rfl,Like.refl _⟩,rfl⟩
 ·exact ⟨h,AlikeY.refl x,rfl⟩
theorem back_inY (h:InY x) (hp:x.part=6) (hW:okW ws):InY (backY x)∧AlikeY x (backY x)∧okW (backW x ws)∧(backW x ws).length=ws.length:=by
 have h6:=h.at6 hp
 have hk:x.at_ / 3<x.m.buf.length:=by omega
 have hw:(x.was.getD (x.at_ / 3) 0)<18446744073709551616:=(getD_all 0 okN_zero x.was h.wok _).2
 have hm:x.m.buf.getD (x.at_ / 3) (0,0)=x.m.buf[x.at_ / 3]:=by simp [hk]
 have hv:(x.m.buf.getD (x.at_ / 3) (0,0)).2<18446744073709551616:=by
  rw [hm]
  exact (h.rest.inv.buf _ (List.getElem_mem hk)).2
 refine ⟨?_,⟨rfl,rfl,rfl,rfl,rfl,Like.refl _⟩,?_,?_⟩
 ·unfold backY
  by_cases q:x.at_+1=3*x.m.buf.length
  ·rw [if_pos q]
   exact ⟨h.ca,h.cb,h.cel,h.th,h.rest,h.few,by dsimp only;omega,h.tk,h.sp,h.wlen,h.wok,(fun q=>by dsimp only at q;omega),fun _=>h.fin (by omega),fun _ _=>h.com (by omega) (by omega),(fun q=>by dsimp only at q;omega),(fun q=>by dsimp only at q;omega),(fun q=>by dsimp only at q;omega)⟩
  ·rw [if_neg q]
   exact ⟨h.ca,h.cb,h.cel,h.th,h.rest,h.few,by dsimp only;omega,h.tk,h.sp,h.wlen,h.wok,(fun q=>by dsimp only at q;omega),fun _=>h.fin (by omega),fun _ _=>h.com (by omega) (by omega),(fun q=>by dsimp only at q;omega),(fun q=>by dsimp only at q;omega),(fun _=>by dsimp only;omega)⟩
 ·unfold backW
  split
  ·exact hW.set _ ⟨by omega,by omega⟩
  ·split
   ·exact hW.set _ (pass_in _)
   ·exact hW.set _ ⟨by omega,by omega⟩
 ·unfold backW
  split
  ·simp
  ·split <;> simp
theorem step_inY (h:InY x) (hp:x.part≠9) (hW:okW ws):InY (stepY x ws).1∧AlikeY x (stepY x ws).1∧(stepY x ws).1.steps=x.steps+1∧okW (stepY x ws).2.1∧(stepY x ws).2.1.length=ws.length:=by
 have hP:=h.part
 have t:=h.tick
 have e8:(tickY x).part=x.part:=rfl
 unfold stepY stepY0
 rcases (by omega:x.part=1∨x.part=2∨x.part=3∨x.part=4∨x.part=5∨x.part=6∨x.part=7∨x.part=8) with e | e | e | e | e | e | e | e
 ·rw [if_pos (e8.trans e)]
  exact ⟨⟨h.ca,h.cb,h.cel,h.th,h.rest,h.few,by dsimp only;omega,hW.at _,h.sp,h.wlen,h.wok,fun _=>h.run (by omega),(fun q=>by dsimp only at q;omega),(fun q=>by dsimp only at q;omega),fun _=>h.at4 (by omega),(fun q=>by dsimp only at q;omega),(fun q=>by dsimp only at q;omega)⟩,⟨rfl,rfl,rfl,rfl,rfl,Like.refl _⟩,rfl,hW.set _ (pass_in _),by simp⟩
 ·rw [if_neg (by omega),if_pos (e8.trans e)]
  dsimp only
  split
  ·exact ⟨⟨h.ca,h.cb,h.cel,h.th,h.rest,h.few,by dsimp only;omega,h.tk,h.sp,h.wlen,h.wok,fun _=>h.run (by omega),(fun q=>by dsimp only at q;omega),(fun q=>by dsimp only at q;omega),fun _=>h.at4 (by omega),(fun q=>by dsimp only at q;omega),(fun q=>by dsimp only at q;omega)⟩,⟨rfl,rfl,rfl,rfl,rfl,Like.refl _⟩,rfl,hW,rfl⟩
  ·exact ⟨t,⟨rfl,rfl,rfl,rfl,rfl,Like.refl _⟩,rfl,hW,rfl⟩
 ·rw [if_neg (by omega),if_neg (by omega),if_pos (e8.trans e)]
  exact ⟨⟨h.ca,h.cb,h.cel,h.th,h.rest,h.few,by dsimp only;omega,h.tk,hW.at _,h.wlen,h.wok,fun _=>h.run (by omega),(fun q=>by dsimp only at q;omega),(fun q=>by dsimp only at q;omega),fun _=>h.at4 (by omega),(fun q=>by dsimp only at q;omega),(fun q=>by dsimp only at q;omega)⟩,⟨rfl,rfl,rfl,rfl,rfl,Like.refl _⟩,rfl,hW,rfl⟩
 ·rw [if_neg (by omega),if_neg (by omega),if_neg (by omega),if_pos (e8.trans e)]
  obtain ⟨k1,k2,k3⟩:=run_inY t (e8.trans e) hW
  exact ⟨k1,⟨k2.a,k2.b,k2.th,k2.tag,k2.args,k2.lk⟩,k3,hW,rfl⟩
 ·rw [if_neg (by omega),if_neg (by omega),if_neg (by omega),if_neg (by omega),if_pos (e8.trans e)]
  obtain ⟨k1,k2,k3⟩:=scan_inY (ws:=ws) t (e8.trans e)
  exact ⟨k1,⟨k2.a,k2.b,k2.th,k2.tag,k2.args,k2.lk⟩,k3,hW,rfl⟩
 ·rw [if_neg (by omega),if_neg (by omega),if_neg (by omega),if_neg (by omega),if_neg (by omega),if_pos (e8.trans e)]
  obtain ⟨k1,k2,k3,k4⟩:=back_inY t (e8.trans e) hW
  exact ⟨k1,⟨k2.a,k2.b,k2.th,k2.tag,k2.args,k2.lk⟩,rfl,k3,k4⟩
 ·rw [if_neg (by omega),if_neg (by omega),if_neg (by omega),if_neg (by omega),if_neg (by omega),if_neg (by omega),if_pos (e8.trans e)]
  exact ⟨⟨h.ca,h.cb,h.cel,h.th,h.rest,h.few,by dsimp only;omega,h.tk,h.sp,h.wlen,h.wok,(fun q=>by dsimp only at q;omega),fun _=>h.fin (by omega),(fun _ q=>by dsimp only at q;omega),(fun q=>by dsimp only at q;omega),(fun q=>by dsimp only at q;omega),(fun q=>by dsimp only at q;omega)⟩,⟨rfl,rfl,rfl,rfl,rfl,Like.refl _⟩,rfl,hW.set _ (pass_in _),by simp⟩
 ·rw [if_neg (by omega),if_neg (by omega),if_neg (by omega),if_neg (by omega),if_neg (by omega),if_neg (by omega),if_neg (by omega)]
  exact ⟨⟨h.ca,h.cb,h.cel,h.th,h.rest,h.few,by dsimp only;omega,h.tk,h.sp,h.wlen,h.wok,(fun q=>by dsimp only at q;omega),fun _=>h.fin (by omega),(fun _ q=>by dsimp only at q;omega),(fun q=>by dsimp only at q;omega),(fun q=>by dsimp only at q;omega),(fun q=>by dsimp only at q;omega)⟩,⟨rfl,rfl,rfl,rfl,rfl,Like.refl _⟩,rfl,hW.set _ (pass_in _),by simp⟩
end
end Go.Proofs.YteinilmecnlanabGreatDoor.Ww
namespace Go.Proofs.YteinilmecnlanabGreatDoor.Ww
open Go.ChangeShapes Go.WideShapes Go.ChangeAt Go.RowKit Num Rr
structure Wz where
 bm:Nat
 K:List Nat
 pa:Option Addr
 ca:Nat
def Wz.KK (z:Wz):List Nat:=z.K ++ fpR z.pa
def ptrV (q:Option Nat):Value:=.pointer (q.map fun n=>⟨n,0,none⟩)
structure Wv where
 ph:Option Addr
 ch:Nat
 qs:Option Nat
 s:Md.Cv.Ss
 qw:Option Nat
 t:Md.Ce.Wt
 bg:Int
 nb:Int
 nx:Value
 F:List Nat
def partF (p:Nat):FuncId:=if p=1 then 46 else if p=2 then 70 else if p=3 then 90 else if p=4 then 110 else if p=5 then 143 else if p=6 then 187 else if p=7 then 184 else 141
def fnV (f:FuncId):Value:=.func (.func f) #[] #[]
def nextV (p:Nat):Value:=if p=9 then .nilFunc else fnV (partF p)
def boxY (x:Wx) (z:Wz) (v:Wv):Array Value:=#[.int .i64 0,.int .i64 1,.int .i64 2,.int .i64 3,.int .i64 (3+x.b),.int .i64 (3+x.b+3*x.a),.int .i64 x.b,.int .i64 x.tag,.slice z.pa x.args.length z.ca,.pointer (some ⟨z.bm,0,none⟩),.int .i64 x.steps,.int .i64 (x.part:Int),v.nx,.int .u64 x.tick,.int .u64 x.stamp,.slice v.ph x.was.length v.ch,ptrV v.qs,.int .i64 v.bg,ptrV v.qw,.int .u64 v.nb]
def ownY (b:Nat) (v:Wv):List (List Nat):=[[b],fpR v.ph,v.qs.toList,v.qw.toList,v.F]
def LY (b:Nat) (z:Wz) (v:Wv):List (List Nat):=[[b],fpR v.ph,v.qs.toList,v.qw.toList,v.F,z.KK]
def gY (b:Nat) (v:Wv):List Nat:=(ownY b v).flatten
structure RawAt (w:World) (b:Nat) (x:Wx) (z:Wz) (v:Wv):Prop where
 box:w.heap[b]?=some (.cells (boxY x z v) 83 (0,0))
 mac:Mc w z.bm v.F z.K x.m
 had:RowAt 64 w v.ph v.ch (fls x.was)
 sc:∀ n,v.qs=some n→Md.Cv.ScAt w n v.s
 wr:∀ n,v.qw=some n→Md.Ce.WtAt w n v.t
 arg:RowAt 64 w z.pa z.ca (fls x.args)
 apart:Apart (LY b z v)
theorem turn_of {L F:List Nat} {w w':World} (o1:w'.os=w.os) (o2:w'.tape=w.tape) (o3:w'.output=w.output) (hs:w.heap.size≤w'.heap.size) (hL:∀ k,k∈L→k∈F) (hb:∀ k,k<w.heap.size→k∉L→w'.heap[k]?=w.heap[k]?):Turn F F w w' :=
 ⟨o1,o2,o3,hs,fun k hk hn=>hb k hk (fun q=>hn (hL k q)),fun _ h=>.inl h⟩
theorem keptB {F:List Nat} {w:World} {b j:Nat} {v:Value} (h:b∉F):Kept F w (w.setCell ⟨b,j,none⟩ v):=⟨by simp,fun i hi=>heap_setCell_other _ _ _ _ (fun (e:i=b)=>h (e ▸ hi))⟩
section
variable {w w':World} {b:Nat} {x:Wx} {z:Wz} {v:Wv}
theorem mem_gY {k:Nat}:k∈gY b v ↔ k=b∨k∈fpR v.ph∨v.qs=some k∨v.qw=some k∨k∈v.F:=by
 simp only [gY,ownY,List.flatten_cons,List.flatten_nil,List.append_nil,List.mem_append,List.mem_cons,List.not_mem_nil,or_false,Option.mem_toList]
theorem in_b:b∈gY b v:=mem_gY.2 (.inl rfl)
theorem in_h {k:Nat} (h:k∈fpR v.ph):k∈gY b v:=mem_gY.2 (.inr (.inl h))
theorem in_s {k:Nat} (h:v.qs=some k):k∈gY b v:=mem_gY.2 (.inr (.inr (.inl h)))
theorem in_w {k:Nat} (h:v.qw=some k):k∈gY b v:=mem_gY.2 (.inr (.inr (.inr (.inl h))))
theorem in_F {k:Nat} (h:k∈v.F):k∈gY b v:=mem_gY.2 (.inr (.inr (.inr (.inr h))))
theorem own_inY {j k:Nat} (hj:j<5) (h:k∈(LY b z v).getD j []):k∈gY b v:=by
 match j,hj with
 | 0,_=>exact mem_gY.2 (.inl (by simpa [LY] using h))
 | 1,_=>exact in_h h
 | 2,_=>exact in_s (by simpa [LY] using h)
 | 3,_=>exact in_w (by simpa [LY] using h)
 | 4,_=>exact in_F h
theorem in_ownY {k:Nat} (h:k∈gY b v):∃ j,j<5∧k∈(LY b z v).getD j []:=by
 rcases mem_gY.1 h with h | h | h | h | h
 ·exact ⟨0,by omega,by simp [LY,h]⟩
 ·exact ⟨1,by omega,h⟩
 ·exact ⟨2,by omega,by simp [LY,h]⟩
 ·exact ⟨3,by omega,by simp [LY,h]⟩
 ·exact ⟨4,by omega,h⟩
theorem RawAt.ltB (h:RawAt w b x z v):b<w.heap.size:=lt_of_block h.box
theorem RawAt.blwK (h:RawAt w b x z v):Blw w z.KK:=fun k hk=>by
 rcases List.mem_append.1 hk with hk | hk
 ·exact h.mac.blwK k hk
 ·exact h.arg.blw k hk
theorem RawAt.blws (h:RawAt w b x z v):∀ j,Blw w ((LY b z v).getD j []):=fun j=>by
 match j with
 | 0=>exact fun k hk=>by rw [show k=b by simpa [LY] using hk];exact h.ltB
 | 1=>exact h.had.blw
 | 2=>intro k hk;exact (h.sc k (by simpa [LY] using hk)).lt
 | 3=>intro k hk;exact (h.wr k (by simpa [LY] using hk)).lt
 | 4=>exact h.mac.blw
 | 5=>exact h.blwK
 | n+6=>intro k hk;simp [LY] at hk
theorem RawAt.blw (h:RawAt w b x z v):Blw w (gY b v):=fun k hk=>by
 obtain ⟨j,_,hj⟩:=in_ownY (z:=z) hk
 exact h.blws j k hj
theorem RawAt.sep (h:RawAt w b x z v):Sep z.KK (gY b v):=fun k hk q=>by
 obtain ⟨j,hj,hq⟩:=in_ownY (z:=z) q
 exact h.apart 5 j (by omega) k hk hq
theorem RawAt.all (h:RawAt w b x z v) (hs:w.heap.size≤w'.heap.size) (k:∀ j,Kept ((LY b z v).getD j []) w w'):RawAt w' b x z v :=
 ⟨((k 0).2 b (by simp [LY])).trans h.box,h.mac.keep (k 4) ⟨hs,fun i hi=>(k 5).2 i (List.mem_append.2 (.inl hi))⟩,h.had.keep (k 1),fun n hn=>(h.sc n hn).keep ((k 2).2 n (by simp [LY,hn])),fun n hn=>(h.wr n hn).keep ((k 3).2 n (by simp [LY,hn])),h.arg.keep ⟨hs,fun i hi=>(k 5).2 i (List.mem_append.2 (.inr hi))⟩,h.apart⟩
theorem RawAt.keep (h:RawAt w b x z v) (k:Kept (gY b v) w w') (k2:Kept z.KK w w'):RawAt w' b x z v :=
 h.all k.1 fun j=>by
  by_cases hj:j<5
  ·exact ⟨k.1,fun i hi=>k.2 i (own_inY hj hi)⟩
  ·by_cases h5:j=5
   ·subst h5;exact k2
   ·exact ⟨k.1,fun i hi=>by
     match j,hj,h5,hi with
     | n+6,_,_,hi=>simp [LY] at hi⟩
theorem RawAt.on (h:RawAt w b x z v) (k:Below w.heap.size w w'):RawAt w' b x z v:=h.keep (kept_below k h.blw) (kept_below k h.blwK)
theorem RawAt.cell (h:RawAt w b x z v) (j:Nat):w.cell? ⟨b,j,none⟩=(boxY x z v)[j]?:=cell_of_row w b j _ _ _ h.box
theorem RawAt.free (h:RawAt w b x z v) (j:Nat):w.frozen? ⟨b,j,none⟩=false:=frozen_of_row w b j _ _ h.box
theorem RawAt.others (h:RawAt w b x z v) {i:Nat} {F':List Nat} (t:Turn ((LY b z v).getD i []) F' w w'):∀ j,j≠i→Kept ((LY b z v).getD j []) w w':=fun j hj=>t.kept (h.apart j i hj) (h.blws j)
theorem RawAt.put (h:RawAt w b x z v) (j:Nat) (u:Value) (x':Wx) (v':Wv) (e:(boxY x z v).setIfInBounds j u=boxY x' z v') (hm:x'.m=x.m∧x'.args=x.args∧x'.was=x.was) (hv:v'.ph=v.ph∧v'.ch=v.ch∧v'.qs=v.qs∧v'.s=v.s∧v'.qw=v.qw∧v'.t=v.t∧v'.F=v.F):RawAt (w.setCell ⟨b,j,none⟩ u) b x' z v':=by
 obtain ⟨m1,m2,m3⟩:=hm
 obtain ⟨v1,v2,v3,v4,v5,v6,v7⟩:=hv
 have kk:=h.others (i:=0) (turn_set w b j u)
 have eL:LY b z v'=LY b z v:=by unfold LY;rw [v1,v3,v5,v7]
 refine ⟨?_,by rw [m1,v7];exact h.mac.keep (kk 4 (by omega)) ⟨by simp,fun i hi=>(kk 5 (by omega)).2 i (List.mem_append.2 (.inl hi))⟩,by rw [m3,v1,v2];exact h.had.keep (kk 1 (by omega)),fun n hn=>by rw [v3] at hn;rw [v4];exact (h.sc n hn).keep ((kk 2 (by omega)).2 n (by simp [LY,hn])),fun n hn=>by rw [v5] at hn;rw [v6];exact (h.wr n hn).keep ((kk 3 (by omega)).2 n (by simp [LY,hn])),by rw [m2];exact h.arg.keep ⟨by simp,fun i hi=>(kk 5 (by omega)).2 i (List.mem_append.2 (.inr hi))⟩,by rw [eL];exact h.apart⟩
 rw [← e]
 exact heap_setCell_same w b j _ _ u h.box
theorem RawAt.putS (h:RawAt w b x z v) {n:Nat} {s:Md.Cv.Ss} (hs:Md.Cv.ScAt w n s) (hg:n∉gY b v) (hK:n∉z.KK):RawAt (w.setCell ⟨b,16,none⟩ (.pointer (some ⟨n,0,none⟩))) b x z { v with qs:=some n,s:=s }:=by
 have kk:=h.others (i:=0) (turn_set w b 16 (.pointer (some ⟨n,0,none⟩)))
 have nb:n≠b:=fun e=>hg (e ▸ in_b)
 refine ⟨heap_setCell_same w b 16 _ _ _ h.box,h.mac.keep (kk 4 (by omega)) ⟨by simp,fun i hi=>(kk 5 (by omega)).2 i (List.mem_append.2 (.inl hi))⟩,h.had.keep (kk 1 (by omega)),fun m hm=>?_,fun m hm=>(h.wr m hm).keep ((kk 3 (by omega)).2 m (by simp only [LY];simpa using hm)),h.arg.keep ⟨by simp,fun i hi=>(kk 5 (by omega)).2 i (List.mem_append.2 (.inr hi))⟩,fun i j hij=>?_⟩
 ·obtain rfl:n=m:=Option.some.inj hm
  exact hs.keep (heap_setCell_other _ _ _ _ nb)
 ·have P:∀ j,j≠2→(LY b z { v with qs:=some n,s:=s }).getD j []=(LY b z v).getD j []:=fun j hj=>by
   match j,hj with
   | 0,_=>rfl
   | 1,_=>rfl
   | 3,_=>rfl
   | 4,_=>rfl
   | 5,_=>rfl
   | j+6,_=>rfl
  have N:∀ j,j≠2→n∉(LY b z v).getD j []:=fun j hj y=>by
   by_cases h5:j<5
   ·exact hg (own_inY h5 y)
   ·match j,h5,y with
    | 5,_,y=>exact hK y
    | j+6,_,y=>simp [LY] at y
  by_cases i2:i=2
  ·subst i2
   rw [P j (by omega)]
   intro k hk y
   have:k=n:=by simpa [LY,eq_comm] using hk
   exact N j (by omega) (this ▸ y)
  ·rw [P i i2]
   by_cases j2:j=2
   ·subst j2
    intro k hk y
    have:k=n:=by simpa [LY,eq_comm] using y
    exact N i i2 (this ▸ hk)
   ·rw [P j j2]
    exact h.apart i j hij
theorem RawAt.putW (h:RawAt w b x z v) {n:Nat} {t:Md.Ce.Wt} (hs:Md.Ce.WtAt w n t) (hg:n∉gY b v) (hK:n∉z.KK):RawAt (w.setCell ⟨b,18,none⟩ (.pointer (some ⟨n,0,none⟩))) b x z { v with qw:=some n,t:=t }:=by
 have kk:=h.others (i:=0) (turn_set w b 18 (.pointer (some ⟨n,0,none⟩)))
 have nb:n≠b:=fun e=>hg (e ▸ in_b)
 refine ⟨heap_setCell_same w b 18 _ _ _ h.box,h.mac.keep (kk 4 (by omega)) ⟨by simp,fun i hi=>(kk 5 (by omega)).2 i (List.mem_append.2 (.inl hi))⟩,h.had.keep (kk 1 (by omega)),fun m hm=>(h.sc m hm).keep ((kk 2 (by omega)).2 m (by simp only [LY];simpa using hm)),fun m hm=>?_,h.arg.keep ⟨by simp,fun i hi=>(kk 5 (by omega)).2 i (List.mem_append.2 (.inr hi))⟩,fun i j hij=>?_⟩
 ·obtain rfl:n=m:=Option.some.inj hm
  exact hs.keep (heap_setCell_other _ _ _ _ nb)
 ·have P:∀ j,j≠3→(LY b z { v with qw:=some n,t:=t }).getD j []=(LY b z v).getD j []:=fun j hj=>by
   match j,hj with
   | 0,_=>rfl
   | 1,_=>rfl
   | 2,_=>rfl
   | 4,_=>rfl
   | 5,_=>rfl
   | j+6,_=>rfl
  have N:∀ j,j≠3→n∉(LY b z v).getD j []:=fun j hj y=>by
   by_cases h5:j<5
   ·exact hg (own_inY h5 y)
   ·match j,h5,y with
    | 5,_,y=>exact hK y
    | j+6,_,y=>simp [LY] at y
  by_cases i2:i=3
  ·subst i2
   rw [P j (by omega)]
   intro k hk y
   have:k=n:=by simpa [LY,eq_comm] using hk
   exact N j (by omega) (this ▸ y)
  ·rw [P i i2]
   by_cases j2:j=3
   ·subst j2
    intro k hk y
    have:k=n:=by simpa [LY,eq_comm] using y
    exact N i i2 (this ▸ hk)
   ·rw [P j j2]
    exact h.apart i j hij
theorem RawAt.scans (h:RawAt w b x z v) {n:Nat} {s:Md.Cv.Ss} (hn:v.qs=some n) (hs:w.heap.size≤w'.heap.size) (k:∀ j,j≠2→Kept ((LY b z v).getD j []) w w') (h2:Md.Cv.ScAt w' n s):RawAt w' b x z { v with s:=s } :=
 ⟨((k 0 (by omega)).2 b (by simp [LY])).trans h.box,h.mac.keep (k 4 (by omega)) ⟨hs,fun i hi=>(k 5 (by omega)).2 i (List.mem_append.2 (.inl hi))⟩,h.had.keep (k 1 (by omega)),fun m hm=>by have e:=hn.symm.trans hm;cases e;exact h2,fun m hm=>(h.wr m hm).keep ((k 3 (by omega)).2 m (by simp only [LY];simpa using hm)),h.arg.keep ⟨hs,fun i hi=>(k 5 (by omega)).2 i (List.mem_append.2 (.inr hi))⟩,h.apart⟩
theorem RawAt.writes (h:RawAt w b x z v) {n:Nat} {t:Md.Ce.Wt} (hn:v.qw=some n) (hs:w.heap.size≤w'.heap.size) (k:∀ j,j≠3→Kept ((LY b z v).getD j []) w w') (h2:Md.Ce.WtAt w' n t):RawAt w' b x z { v with t:=t } :=
 ⟨((k 0 (by omega)).2 b (by simp [LY])).trans h.box,h.mac.keep (k 4 (by omega)) ⟨hs,fun i hi=>(k 5 (by omega)).2 i (List.mem_append.2 (.inl hi))⟩,h.had.keep (k 1 (by omega)),fun m hm=>(h.sc m hm).keep ((k 2 (by omega)).2 m (by simp only [LY];simpa using hm)),fun m hm=>by have e:=hn.symm.trans hm;cases e;exact h2,h.arg.keep ⟨hs,fun i hi=>(k 5 (by omega)).2 i (List.mem_append.2 (.inr hi))⟩,h.apart⟩
theorem RawAt.mach (h:RawAt w b x z v) {m':Mac} (g:Gm w v.F z.bm z.K w' m'):∃ F',RawAt w' b { x with m:=m' } z { v with F:=F' }∧Turn v.F F' w w':=by
 obtain ⟨F',hM,t⟩:=g.mc
 have kk:=h.others (i:=4) t
 exact ⟨F',⟨((kk 0 (by omega)).2 b (by simp [LY])).trans h.box,hM,h.had.keep (kk 1 (by omega)),fun n hn=>(h.sc n hn).keep ((kk 2 (by omega)).2 n (by simp only [LY];simpa using hn)),fun n hn=>(h.wr n hn).keep ((kk 3 (by omega)).2 n (by simp only [LY];simpa using hn)),h.arg.keep ⟨t.size,fun i hi=>(kk 5 (by omega)).2 i (List.mem_append.2 (.inr hi))⟩,h.apart.turn (i:=4) h.blws (by simp [LY]) t⟩,t⟩
theorem RawAt.hads (h:RawAt w b x z v) {w3:World} {u:Value} {y:Nat} (hown:w3.ownsRow 0 64 1 u (x.was.length+1) (fls x.was ++ [.float .f64 y])) (hg:w.grownBy w3 (Value.slice v.ph x.was.length v.ch).ownBlock) (hat:u.ownBlock=(Value.slice v.ph x.was.length v.ch).ownBlock∨∃ s,u.ownBlock=some s∧w.heap.size≤s) :
  ∃ p' c',u=.slice p' (x.was.length+1) c'∧Turn (fpR v.ph) (fpR p') w w3∧RawAt (w3.setCell ⟨b,15,none⟩ u) b { x with was:=x.was ++ [y] } z { v with ph:=p',ch:=c' }:=by
 obtain ⟨p',c',rfl,hr⟩:=ownsRow_slice hown
 have hl:(fls x.was ++ [Value.float .f64 y]).length=x.was.length+1:=by simp [fls_len]
 rw [hl] at hat ⊢
 have ho:∀ k,k∈fpR p'→k∈fpR v.ph∨w.heap.size≤k:=by
  rcases hat with q | ⟨s,q,hs⟩
  ·exact own_at (s:=w.heap.size) (.inl q) (Nat.le_refl _)
  ·exact own_at (n:=x.was.length) (c:=v.ch) (.inr q) hs
 have t:Turn (fpR v.ph) (fpR p') w w3:=⟨hg.os,hg.tape,hg.output,hg.size,fun k hk hn=>hg.block k hk (fun q=>hn (own_fpR.2 q.symm)),ho⟩
 have kk:=h.others (i:=1) t
 have hbox:w3.heap[b]?=_:=((kk 0 (by omega)).2 b (by simp [LY])).trans h.box
 have ap:Apart (LY b z { v with ph:=p',ch:=c' }):=h.apart.turn (i:=1) h.blws (by simp [LY]) t
 have k2:∀ j,j≠0→∀ F,F=(LY b z { v with ph:=p',ch:=c' }).getD j []→Kept F w3 (w3.setCell ⟨b,15,none⟩ (.slice p' (x.was.length+1) c')):=fun j hj F hF=>keptB (fun y=>ap j 0 hj b (hF ▸ y) (by simp [LY]))
 have tr:∀ {F},Kept F w w3→Kept F w3 (w3.setCell ⟨b,15,none⟩ (.slice p' (x.was.length+1) c'))→Kept F w (w3.setCell ⟨b,15,none⟩ (.slice p' (x.was.length+1) c')):=fun a c=>⟨Nat.le_trans a.1 c.1,fun i hi=>(c.2 i hi).trans (a.2 i hi)⟩
 have k4:=tr (kk 4 (by omega)) (k2 4 (by omega) _ rfl)
 have k5:=tr (kk 5 (by omega)) (k2 5 (by omega) _ rfl)
 refine ⟨p',c',rfl,t,⟨?_,h.mac.keep k4 ⟨k5.1,fun i hi=>k5.2 i (List.mem_append.2 (.inl hi))⟩,?_,fun n hn=>(h.sc n hn).keep ((tr (kk 2 (by omega)) (k2 2 (by omega) _ rfl)).2 n (by simp only [LY];simpa using hn)),fun n hn=>(h.wr n hn).keep ((tr (kk 3 (by omega)) (k2 3 (by omega) _ rfl)).2 n (by simp only [LY];simpa using hn)),h.arg.keep ⟨k5.1,fun i hi=>k5.2 i (List.mem_append.2 (.inr hi))⟩,ap⟩⟩
 ·refine (heap_setCell_same w3 b 15 _ _ _ hbox).trans ?_
  have:(x.was ++ [y]).length=x.was.length+1:=by simp
  unfold boxY
  rw [this]
  rfl
 ·rw [fls_snoc]
  exact hr.keep (k2 1 (by omega) _ rfl)
end
def Mid (W:World) (G0:List Nat) (b:Nat) (z:Wz) (mb mg:Nat) (w:World) (x:Wx) (v:Wv) (ws:List Int) (o:Bool) (n:Int):Prop :=
 RawAt w b x z v∧MemAt 95 w mb mg ws o n∧Sep [mb,mg] (gY b v)∧Sep [mb,mg] z.KK∧Turn G0 (mb::mg::gY b v) W w
section
variable {W w w':World} {G0:List Nat} {b mb mg:Nat} {x:Wx} {z:Wz} {v:Wv} {ws:List Int} {o:Bool} {n:Int}
theorem Mid.raw (h:Mid W G0 b z mb mg w x v ws o n):RawAt w b x z v:=h.1
theorem Mid.mem (h:Mid W G0 b z mb mg w x v ws o n):MemAt 95 w mb mg ws o n:=h.2.1
theorem Mid.cell (h:Mid W G0 b z mb mg w x v ws o n) (j:Nat):w.cell? ⟨b,j,none⟩=(boxY x z v)[j]?:=h.1.cell j
theorem Mid.free (h:Mid W G0 b z mb mg w x v ws o n) (j:Nat):w.frozen? ⟨b,j,none⟩=false:=h.1.free j
theorem Mid.ltB (h:Mid W G0 b z mb mg w x v ws o n):b<w.heap.size:=h.1.ltB
theorem Mid.size (h:Mid W G0 b z mb mg w x v ws o n):W.heap.size≤w.heap.size:=h.2.2.2.2.size
theorem Mid.on (h:Mid W G0 b z mb mg w x v ws o n) (k:Below w.heap.size w w'):Mid W G0 b z mb mg w' x v ws o n:=by
 obtain ⟨h1,h2,h3,h4,t⟩:=h
 exact ⟨h1.on k,h2.on k,h3,h4,t.trans (Below.turn k _)⟩
theorem Mid.alloc (h:Mid W G0 b z mb mg w x v ws o n) (y:Obj):Mid W G0 b z mb mg (w.alloc y) x v ws o n:=h.on (below_alloc _ y)
theorem Mid.same (h:Mid W G0 b z mb mg w x v ws o n) (k:Same w w'):Mid W G0 b z mb mg w' x v ws o n:=h.on (k.below _)
theorem Mid.drew (h:Mid W G0 b z mb mg w x v ws o n):Mid W G0 b z mb mg w.drew x v ws o n:=h.same (Same.drew w)
theorem Mid.put (h:Mid W G0 b z mb mg w x v ws o n) (j:Nat) (u:Value) (x':Wx) (v':Wv) (e:(boxY x z v).setIfInBounds j u=boxY x' z v') (hm:x'.m=x.m∧x'.args=x.args∧x'.was=x.was) (hv:v'.ph=v.ph∧v'.ch=v.ch∧v'.qs=v.qs∧v'.s=v.s∧v'.qw=v.qw∧v'.t=v.t∧v'.F=v.F):Mid W G0 b z mb mg (w.setCell ⟨b,j,none⟩ u) x' v' ws o n:=by
 obtain ⟨h1,h2,h3,h4,t⟩:=h
 have eg:gY b v'=gY b v:=by obtain ⟨v1,_,v3,_,v5,_,v7⟩:=hv;unfold gY ownY;rw [v1,v3,v5,v7]
 have tb:Turn (mb::mg::gY b v) (mb::mg::gY b v) w (w.setCell ⟨b,j,none⟩ u):=turn_of (L:=[b]) rfl rfl rfl (by simp) (fun k hk=>by
  simp only [List.mem_cons,List.not_mem_nil,or_false] at hk
  subst hk
  exact List.mem_cons_of_mem _ (List.mem_cons_of_mem _ in_b)) fun k _ hn=>heap_setCell_other _ _ _ _ (by simpa using hn)
 refine ⟨h1.put j u x' v' e hm hv,h2.other (fun e=>h3 mb (by simp) (e ▸ in_b)) (fun e=>h3 mg (by simp) (e ▸ in_b)) j u,by rw [eg];exact h3,h4,?_⟩
 rw [eg]
 exact t.trans tb
theorem Mid.memb {ws':List Int} {o':Bool} {n':Int} (h:Mid W G0 b z mb mg w x v ws o n) (k:Chg mb mg w w') (hm:MemAt 95 w' mb mg ws' o' n'):Mid W G0 b z mb mg w' x v ws' o' n':=by
 obtain ⟨h1,h2,h3,h4,t⟩:=h
 refine ⟨h1.keep ⟨k.size,fun i hi=>k.block i (h1.blw i hi) (fun e=>h3 mb (by simp) (e ▸ hi)) (fun e=>h3 mg (by simp) (e ▸ hi))⟩ ⟨k.size,fun i hi=>k.block i (h1.blwK i hi) (fun e=>h4 mb (by simp) (e ▸ hi)) (fun e=>h4 mg (by simp) (e ▸ hi))⟩,hm,h3,h4,t.trans (turn_of (L:=[mb,mg]) k.os k.tape k.output k.size (fun i hi=>?_) fun i hi hn=>k.block i hi (fun e=>hn (by simp [e])) (fun e=>hn (by simp [e])))⟩
 simp only [List.mem_cons,List.not_mem_nil,or_false] at hi
 rcases hi with rfl | rfl <;> simp
theorem Mid.rest (h:Mid W G0 b z mb mg w x v ws o n) {i0 i:Nat} (hs:w.heap.size≤w'.heap.size) (k:∀ i,i<w.heap.size→i∉[mb,mg,i0]→w'.heap[i]?=w.heap[i]?) (hi:i0∈(LY b z v).getD i []):∀ j,j≠i→Kept ((LY b z v).getD j []) w w':=fun j hj=>by
 obtain ⟨h1,h2,h3,h4,t⟩:=h
 refine ⟨hs,fun q hq=>k q (h1.blws j q hq) (fun e=>?_)⟩
 have M:∀ m,m∈[mb,mg]→m≠q:=fun m hm e=>by
  by_cases h5:j<5
  ·exact h3 m hm (e ▸ own_inY h5 hq)
  ·match j,h5,hq with
   | 5,_,hq=>exact h4 m hm (e ▸ hq)
   | j+6,_,hq=>simp [LY] at hq
 simp only [List.mem_cons,List.not_mem_nil,or_false] at e
 rcases e with e | e | e
 ·exact M mb (by simp) e.symm
 ·exact M mg (by simp) e.symm
 ·exact h1.apart j i hj q hq (e ▸ hi)
theorem Mid.scans {ws':List Int} {o':Bool} {n':Int} {i0:Nat} {s:Md.Cv.Ss} (h:Mid W G0 b z mb mg w x v ws o n) (hq:v.qs=some i0) (k:Md.Cv.Ch3 mb mg i0 w w') (hm:MemAt 95 w' mb mg ws' o' n') (hr:Md.Cv.ScAt w' i0 s):Mid W G0 b z mb mg w' x { v with s:=s } ws' o' n':=by
 have K:∀ i,i<w.heap.size→i∉[mb,mg,i0]→w'.heap[i]?=w.heap[i]?:=fun i hi hn=>k.block i hi (fun e=>hn (by simp [e])) (fun e=>hn (by simp [e])) (fun e=>hn (by simp [e]))
 have R:=h.rest (i0:=i0) (i:=2) k.size K (by simp [LY,hq])
 obtain ⟨h1,h2,h3,h4,t⟩:=h
 refine ⟨h1.scans hq k.size R hr,hm,h3,h4,t.trans (turn_of (L:=[mb,mg,i0]) k.os k.tape k.output k.size (fun i hi=>?_) K)⟩
 simp only [List.mem_cons,List.not_mem_nil,or_false] at hi
 rcases hi with rfl | rfl | rfl
 ·simp
 ·simp
 ·exact List.mem_cons_of_mem _ (List.mem_cons_of_mem _ (in_s hq))
theorem Mid.writes {ws':List Int} {o':Bool} {n':Int} {i0:Nat} {s:Md.Ce.Wt} (h:Mid W G0 b z mb mg w x v ws o n) (hq:v.qw=some i0) (k:Md.Ce.Ch [mb,mg,i0] w w') (hm:MemAt 95 w' mb mg ws' o' n') (hr:Md.Ce.WtAt w' i0 s):Mid W G0 b z mb mg w' x { v with t:=s } ws' o' n':=by
 have R:=h.rest (i0:=i0) (i:=3) k.size k.block (by simp [LY,hq])
 obtain ⟨h1,h2,h3,h4,t⟩:=h
 refine ⟨h1.writes hq k.size R hr,hm,h3,h4,t.trans (turn_of (L:=[mb,mg,i0]) k.os k.tape k.output k.size (fun i hi=>?_) k.block)⟩
 simp only [List.mem_cons,List.not_mem_nil,or_false] at hi
 rcases hi with rfl | rfl | rfl
 ·simp
 ·simp
 ·exact List.mem_cons_of_mem _ (List.mem_cons_of_mem _ (in_w hq))
theorem Mid.new (h:Mid W G0 b z mb mg w x v ws o n) {i0:Nat} (hi:w.heap.size≤i0):i0∉gY b v∧i0∉z.KK∧i0≠mb∧i0≠mg:=by
 obtain ⟨h1,h2,h3,h4,t⟩:=h
 exact ⟨fun y=>absurd (h1.blw i0 y) (Nat.not_lt.2 hi),fun y=>absurd (h1.blwK i0 y) (Nat.not_lt.2 hi),fun e=>by have:=h2.ltB;omega,fun e=>by have:=h2.ltG;omega⟩
theorem Mid.scanNew {w1:World} {s:Md.Cv.Ss} {i0:Nat} (h:Mid W G0 b z mb mg w x v ws o n) (k:Below w.heap.size w w1) (hi:w.heap.size≤i0) (hr:Md.Cv.ScAt w1 i0 s):Mid W G0 b z mb mg (w1.setCell ⟨b,16,none⟩ (.pointer (some ⟨i0,0,none⟩))) x { v with qs:=some i0,s:=s } ws o n:=by
 obtain ⟨n1,n2,n3,n4⟩:=h.new hi
 have hs:=h.size
 obtain ⟨h1,h2,h3,h4,t⟩:=h
 have tt:Turn (mb::mg::gY b v) (mb::mg::gY b v) w1 (w1.setCell ⟨b,16,none⟩ (.pointer (some ⟨i0,0,none⟩))):=⟨rfl,rfl,rfl,by simp,fun i _ hn=>heap_setCell_other _ _ _ _ (fun (e:i=b)=>hn (e ▸ List.mem_cons_of_mem _ (List.mem_cons_of_mem _ in_b))),fun i hy=>.inl hy⟩
 have G:∀ i,i∈gY b { v with qs:=some i0,s:=s }→i=i0∨i∈gY b v:=fun i hy=>by
  rcases mem_gY.1 hy with y | y | y | y | y
  ·exact .inr (mem_gY.2 (.inl y))
  ·exact .inr (in_h y)
  ·exact .inl (Option.some.inj y).symm
  ·exact .inr (in_w y)
  ·exact .inr (in_F y)
 refine ⟨(h1.on k).putS hr n1 n2,(h2.on k).other (fun e=>h3 mb (by simp) (e ▸ in_b)) (fun e=>h3 mg (by simp) (e ▸ in_b)) 16 _,fun i hi2 hy=>?_,h4,((t.trans (Below.turn k _)).trans tt).mono fun i hy=>?_⟩
 ·rcases G i hy with e | y
  ·subst e
   simp only [List.mem_cons,List.not_mem_nil,or_false] at hi2
   omega
  ·exact h3 i hi2 y
 ·simp only [List.mem_cons] at hy
  rcases hy with y | y | y
  ·exact t.own i (by simp [y])
  ·exact t.own i (by simp [y])
  ·rcases G i y with e | y
   ·exact .inr (by omega)
   ·exact t.own i (by simp [y])
theorem Mid.writeNew {w1:World} {s:Md.Ce.Wt} {i0:Nat} (h:Mid W G0 b z mb mg w x v ws o n) (k:Below w.heap.size w w1) (hi:w.heap.size≤i0) (hr:Md.Ce.WtAt w1 i0 s):Mid W G0 b z mb mg (w1.setCell ⟨b,18,none⟩ (.pointer (some ⟨i0,0,none⟩))) x { v with qw:=some i0,t:=s } ws o n:=by
 obtain ⟨n1,n2,n3,n4⟩:=h.new hi
 have hs:=h.size
 obtain ⟨h1,h2,h3,h4,t⟩:=h
 have tt:Turn (mb::mg::gY b v) (mb::mg::gY b v) w1 (w1.setCell ⟨b,18,none⟩ (.pointer (some ⟨i0,0,none⟩))):=⟨rfl,rfl,rfl,by simp,fun i _ hn=>heap_setCell_other _ _ _ _ (fun (e:i=b)=>hn (e ▸ List.mem_cons_of_mem _ (List.mem_cons_of_mem _ in_b))),fun i hy=>.inl hy⟩
 have G:∀ i,i∈gY b { v with qw:=some i0,t:=s }→i=i0∨i∈gY b v:=fun i hy=>by
  rcases mem_gY.1 hy with y | y | y | y | y
  ·exact .inr (mem_gY.2 (.inl y))
  ·exact .inr (in_h y)
  ·exact .inr (in_s y)
  ·exact .inl (Option.some.inj y).symm
  ·exact .inr (in_F y)
 refine ⟨(h1.on k).putW hr n1 n2,(h2.on k).other (fun e=>h3 mb (by simp) (e ▸ in_b)) (fun e=>h3 mg (by simp) (e ▸ in_b)) 18 _,fun i hi2 hy=>?_,h4,((t.trans (Below.turn k _)).trans tt).mono fun i hy=>?_⟩
 ·rcases G i hy with e | y
  ·subst e
   simp only [List.mem_cons,List.not_mem_nil,or_false] at hi2
   omega
  ·exact h3 i hi2 y
 ·simp only [List.mem_cons] at hy
  rcases hy with y | y | y
  ·exact t.own i (by simp [y])
  ·exact t.own i (by simp [y])
  ·rcases G i y with e | y
   ·exact .inr (by omega)
   ·exact t.own i (by simp [y])
theorem Mid.mach (h:Mid W G0 b z mb mg w x v ws o n):Gm w v.F z.bm z.K w x.m∧(TabAt W G0→TabAt w v.F)∧∀ w' m',Gm w v.F z.bm z.K w' m'→∃ F',Mid W G0 b z mb mg w' { x with m:=m' } { v with F:=F' } ws o n:=by
 obtain ⟨h1,h2,h3,h4,t⟩:=h
 refine ⟨h1.mac.gm,fun hT=>?_,fun w' m' g=>?_⟩
 ·have:=hT.turn t
  exact ⟨this.1,fun y=>this.2 (List.mem_cons_of_mem _ (List.mem_cons_of_mem _ (in_F y)))⟩
 ·obtain ⟨F',g1,tF⟩:=h1.mach g
  have nm:∀ i,i∈[mb,mg]→i∉v.F:=fun i hi y=>h3 i hi (in_F y)
  have lM:Blw w [mb,mg]:=fun k hk=>by
   simp only [List.mem_cons,List.not_mem_nil,or_false] at hk
   rcases hk with rfl | rfl
   ·exact h2.ltB
   ·exact h2.ltG
  have sp:Sep [mb,mg] F':=Sep.turn (fun i hi y=>nm i hi y) lM tF
  have G:∀ i,i∈gY b { v with F:=F' }→i∈F'∨i∈gY b v:=fun i hy=>by
   rcases mem_gY.1 hy with y | y | y | y | y
   ·exact .inr (mem_gY.2 (.inl y))
   ·exact .inr (in_h y)
   ·exact .inr (in_s y)
   ·exact .inr (in_w y)
   ·exact .inl y
  refine ⟨F',g1,h2.keep (tF.block mb h2.ltB (nm mb (by simp))) (tF.block mg h2.ltG (nm mg (by simp))),fun i hi hy=>?_,h4,t.trans ⟨tF.os,tF.tape,tF.output,tF.size,fun k hk hn=>tF.block k hk (fun y=>hn (List.mem_cons_of_mem _ (List.mem_cons_of_mem _ (in_F y)))),fun i hy=>?_⟩⟩
  ·rcases G i hy with y | y
   ·exact sp i hi y
   ·exact h3 i hi y
  ·simp only [List.mem_cons] at hy
   rcases hy with y | y | y
   ·exact .inl (by simp [y])
   ·exact .inl (by simp [y])
   ·rcases G i y with y | y
    ·rcases tF.own i y with y | y
     ·exact .inl (List.mem_cons_of_mem _ (List.mem_cons_of_mem _ (in_F y)))
     ·exact .inr y
    ·exact .inl (by simp [y])
theorem Mid.hads (h:Mid W G0 b z mb mg w x v ws o n) {w3:World} {u:Value} {y:Nat} (hown:w3.ownsRow 0 64 1 u (x.was.length+1) (fls x.was ++ [.float .f64 y])) (hg:w.grownBy w3 (Value.slice v.ph x.was.length v.ch).ownBlock) (hat:u.ownBlock=(Value.slice v.ph x.was.length v.ch).ownBlock∨∃ s,u.ownBlock=some s∧w.heap.size≤s) :
  ∃ p' c',u=.slice p' (x.was.length+1) c'∧w3.heap[b]?=some (.cells (boxY x z v) 83 (0,0))∧Mid W G0 b z mb mg (w3.setCell ⟨b,15,none⟩ u) { x with was:=x.was ++ [y] } { v with ph:=p',ch:=c' } ws o n:=by
 obtain ⟨h1,h2,h3,h4,t⟩:=h
 obtain ⟨p',c',e,tH,g1⟩:=h1.hads hown hg hat
 have hbox:w3.heap[b]?=_:=((h1.others (i:=1) tH 0 (by omega)).2 b (by simp [LY])).trans h1.box
 have nm:∀ i,i∈[mb,mg]→i∉fpR v.ph:=fun i hi y=>h3 i hi (in_h y)
 have lM:Blw w [mb,mg]:=fun k hk=>by
  simp only [List.mem_cons,List.not_mem_nil,or_false] at hk
  rcases hk with rfl | rfl
  ·exact h2.ltB
  ·exact h2.ltG
 have sp:Sep [mb,mg] (fpR p'):=Sep.turn (fun i hi y=>nm i hi y) lM tH
 have G:∀ i,i∈gY b { v with ph:=p',ch:=c' }→i∈fpR p'∨i∈gY b v:=fun i hy=>by
  rcases mem_gY.1 hy with y | y | y | y | y
  ·exact .inr (mem_gY.2 (.inl y))
  ·exact .inl y
  ·exact .inr (in_s y)
  ·exact .inr (in_w y)
  ·exact .inr (in_F y)
 have m3:MemAt 95 w3 mb mg ws o n:=h2.keep (tH.block mb h2.ltB (nm mb (by simp))) (tH.block mg h2.ltG (nm mg (by simp)))
 refine ⟨p',c',e,hbox,g1,m3.other (fun e=>h3 mb (by simp) (e ▸ in_b)) (fun e=>h3 mg (by simp) (e ▸ in_b)) 15 _,fun i hi hy=>?_,h4,t.trans ⟨tH.os,tH.tape,tH.output,by simpa using tH.size,fun k hk hn=>?_,fun i hy=>?_⟩⟩
 ·rcases G i hy with y | y
  ·exact sp i hi y
  ·exact h3 i hi y
 ·have nb:k≠b:=fun e=>hn (e ▸ List.mem_cons_of_mem _ (List.mem_cons_of_mem _ in_b))
  exact (heap_setCell_other _ _ _ _ nb).trans (tH.block k hk (fun y=>hn (List.mem_cons_of_mem _ (List.mem_cons_of_mem _ (in_h y)))))
 ·simp only [List.mem_cons] at hy
  rcases hy with y | y | y
  ·exact .inl (by simp [y])
  ·exact .inl (by simp [y])
  ·rcases G i y with y | y
   ·rcases tH.own i y with y | y
    ·exact .inl (List.mem_cons_of_mem _ (List.mem_cons_of_mem _ (in_h y)))
    ·exact .inr y
   ·exact .inl (by simp [y])
end
end Go.Proofs.YteinilmecnlanabGreatDoor.Ww
namespace Go.Proofs.YteinilmecnlanabGreatDoor.Md.Ct
open Go.ChangeShapes Go.WideShapes Go.ChangeAt Go.RowKit
def plnV (a b c d e f:Int):Value:=.agg #[.int .i64 a,.int .i64 b,.int .i64 c,.int .i64 d,.int .i64 e,.int .i64 f]
theorem letW_any {f:FuncId} {cap:Array Value} {w:World} {Q:World→Prop} (x y:Int) (z:Int) (hz:(if y=0 then x else 0)=z) (hcall:∀ (args:Array Value) (w:World),(callFunc f args).run Tryz.prog w=.ok (.enter f args) w)
  (hf:Calls Tryz.prog f cap w fun e w'=>e=.returned (.tuple #[.int .u64 x,.int .i64 y])∧Q w'):Calls Tryz.prog 86 #[.func (.func f) #[] cap] w fun e w'=>e=.returned (.tuple #[.int .u64 z,.int .i64 y])∧Q w':=by
 subst hz
 have HF:=Lib.hid hf
 clear hf
 by_cases hy:y=0
 ·subst hy
  go_enter Tryz.func86,Tryz.ntmps86
  go_wp2_with (refine HF.out.mono ?_;rintro e w' ⟨rfl,hq⟩)
  go_ret2
  exact ⟨rfl,hq⟩
 ·rw [if_neg hy]
  go_enter Tryz.func86,Tryz.ntmps86
  go_wp2_with (refine HF.out.mono ?_;rintro e w' ⟨rfl,hq⟩)
  go_ret2
  exact ⟨rfl,hq⟩
theorem letB_any {f:FuncId} {cap:Array Value} {w:World} {Q:World→Prop} (x:Bool) (y:Int) (z:Bool) (hz:(if y=0 then x else false)=z) (hcall:∀ (args:Array Value) (w:World),(callFunc f args).run Tryz.prog w=.ok (.enter f args) w)
  (hf:Calls Tryz.prog f cap w fun e w'=>e=.returned (.tuple #[.bool x,.int .i64 y])∧Q w'):Calls Tryz.prog 106 #[.func (.func f) #[] cap] w fun e w'=>e=.returned (.tuple #[.bool z,.int .i64 y])∧Q w':=by
 subst hz
 have HF:=Lib.hid hf
 clear hf
 by_cases hy:y=0
 ·subst hy
  go_enter Tryz.func106,Tryz.ntmps106
  go_wp2_with (refine HF.out.mono ?_;rintro e w' ⟨rfl,hq⟩)
  go_ret2
  exact ⟨rfl,hq⟩
 ·rw [if_neg hy]
  go_enter Tryz.func106,Tryz.ntmps106
  go_wp2_with (refine HF.out.mono ?_;rintro e w' ⟨rfl,hq⟩)
  go_ret2
  exact ⟨rfl,hq⟩
theorem cell_kept {w w':World} {b:Nat} (e:w'.heap[b]?=w.heap[b]?) (o:Nat):w'.cell? ⟨b,o,none⟩=w.cell? ⟨b,o,none⟩:=by simp [World.cell?,e]
end Go.Proofs.YteinilmecnlanabGreatDoor.Md.Ct
namespace Go.Proofs.YteinilmecnlanabGreatDoor.Md.Ct
open Go.ChangeShapes Go.WideShapes Go.ChangeAt Go.RowKit
section
variable {w:World} {b g:Nat} {ws:List Int} {o:Bool} {c:Int}
def lookB (ws:List Int) (o:Bool) (i t:Int):Bool:=(hasB ws i && o) && decide (wordAt ws i=t)
def passV (t:Int):Int:=IntKind.u64.wrap (t+1)
theorem told_let (ws:List Int) (o:Bool) (i:Int):(if errA ws o i=0 then toldW ws o i else 0)=toldW ws o i:=by
 unfold errA toldW
 cases q:hasB ws i <;> cases o <;> simp
theorem look_let (ws:List Int) (o:Bool) (i t:Int):(if errA ws o i=0 then decide (toldW ws o i=t) else false)=lookB ws o i t:=by
 unfold errA toldW lookB
 cases q:hasB ws i <;> cases o <;> simp
theorem drawAct_any (h:MemAt 95 w b g ws o c) (pm pp:Nat) (a:Int) (h0:w.cell? ⟨pm,0,none⟩=some (.pointer (some ⟨b,0,none⟩))) (h1:w.cell? ⟨pp,0,none⟩=some (.int .i64 a)) :
  Calls Tryz.prog 87 #[.pointer (some ⟨pm,0,none⟩),.pointer (some ⟨pp,0,none⟩)] w fun e w'=>e=.returned (.tuple #[.int .u64 (toldW ws o a),.int .i64 (errA ws o a)])∧MemAt 95 w' b g (stored ws o a (addV (wordAt ws a) 1)) (spentO ws o a) (spentC ws o a c)∧Chg b g w w':=by
 have HA:=Lib.hid (add_any h a 1)
 clear h
 go_enter Tryz.func87,Tryz.ntmps87
 go_wp2_with (go_at_call 88;refine HA.out.mono ?_;rintro e w' ⟨rfl,hq⟩)
 go_ret2
 exact ⟨rfl,hq⟩
theorem draw_any (h:MemAt 95 w b g ws o c) (a0 a1 a2 a3 a4 a5:Int) :
  Calls Tryz.prog 69 #[.pointer (some ⟨b,0,none⟩),plnV a0 a1 a2 a3 a4 a5] w fun e w'=>e=.returned (.tuple #[.int .u64 (toldW ws o a0),.int .i64 (errA ws o a0)])∧MemAt 95 w' b g (stored ws o a0 (addV (wordAt ws a0) 1)) (spentO ws o a0) (spentC ws o a0 c)∧Chg b g w w':=by
 unfold plnV
 have HM:=Lib.hid h
 clear h
 go_enter Tryz.func69,Tryz.ntmps69
 go_wp2_with (go_at_call 86;refine (letW_any _ _ _ (told_let ..) (enter_run Tryz.func87 (by kernel_rfl) (by kernel_rfl)) (drawAct_any ((HM.out.alloc _).alloc _) _ _ a0 (by simp [go_sem]) (by simp [go_sem]))).mono ?_;rintro e w' ⟨rfl,hm,hc⟩;have HX:=Lib.hid (And.intro hm (((Chg.refl b g w).alloc _).alloc _ |>.trans hc));clear hm hc)
 go_ret2
 exact ⟨rfl,HX.out⟩
theorem lookAct_any (h:MemAt 95 w b g ws o c) (pm pp pt:Nat) (a t:Int) (nb:pt≠b) (ng:pt≠g) (h0:w.cell? ⟨pm,0,none⟩=some (.pointer (some ⟨b,0,none⟩))) (h1:w.cell? ⟨pp,1,none⟩=some (.int .i64 a)) (h2:w.cell? ⟨pt,0,none⟩=some (.int .u64 t)) :
  Calls Tryz.prog 107 #[.pointer (some ⟨pm,0,none⟩),.pointer (some ⟨pp,0,none⟩),.pointer (some ⟨pt,0,none⟩)] w fun e w'=>e=.returned (.tuple #[.bool (decide (toldW ws o a=t)),.int .i64 (errA ws o a)])∧MemAt 95 w' b g ws (spentO ws o a) (spentC ws o a c)∧Chg b g w w':=by
 have HA:=Lib.hid (load_any h a)
 have hlt:=World.block_lt_of_cell? w _ h2
 have HN:=Lib.hid (And.intro nb ng)
 clear h nb ng
 generalize toldW ws o a=x at *
 by_cases hx:x=t
 ·go_enter Tryz.func107,Tryz.ntmps107
  go_wp2_with (go_at_call 108;refine HA.out.mono ?_;rintro e w' ⟨rfl,hm,hc⟩;have q2:w'.cell? ⟨pt,0,none⟩=some (.int .u64 t):=((cell_kept (hc.block pt hlt HN.out.1 HN.out.2) 0).trans h2);have HX:=Lib.hid (And.intro hm hc);clear hm hc)
  go_ret2
  exact ⟨by simp [hx],HX.out⟩
 ·go_enter Tryz.func107,Tryz.ntmps107
  go_wp2_with (go_at_call 108;refine HA.out.mono ?_;rintro e w' ⟨rfl,hm,hc⟩;have q2:w'.cell? ⟨pt,0,none⟩=some (.int .u64 t):=((cell_kept (hc.block pt hlt HN.out.1 HN.out.2) 0).trans h2);have HX:=Lib.hid (And.intro hm hc);clear hm hc)
  go_ret2
  exact ⟨by simp [hx],HX.out⟩
theorem look_any (h:MemAt 95 w b g ws o c) (a0 a1 a2 a3 a4 a5 t:Int) :
  Calls Tryz.prog 89 #[.pointer (some ⟨b,0,none⟩),plnV a0 a1 a2 a3 a4 a5,.int .u64 t] w fun e w'=>e=.returned (.tuple #[.bool (lookB ws o a1 t),.int .i64 (errA ws o a1)])∧MemAt 95 w' b g ws (spentO ws o a1) (spentC ws o a1 c)∧Chg b g w w':=by
 unfold plnV
 have HM:=Lib.hid h
 have HLT:Hid (b<w.heap.size∧g<w.heap.size):=⟨h.ltB,h.ltG⟩
 clear h
 go_enter Tryz.func89,Tryz.ntmps89
 go_wp2_with (go_at_call 106;refine (letB_any _ _ _ (look_let ..) (enter_run Tryz.func107 (by kernel_rfl) (by kernel_rfl)) (lookAct_any (((HM.out.alloc _).alloc _).alloc _) _ _ _ a1 t (by have:=HLT.out;omega) (by have:=HLT.out;omega) (by simp [go_sem]) (by simp [go_sem]) (by simp [go_sem]))).mono ?_;rintro e w' ⟨rfl,hm,hc⟩;have HX:=Lib.hid (And.intro hm ((((Chg.refl b g w).alloc _).alloc _).alloc _ |>.trans hc));clear hm hc)
 go_ret2
 exact ⟨rfl,HX.out⟩
theorem passAct_any (h:MemAt 95 w b g ws o c) (pm pp pt:Nat) (a t:Int) (h0:w.cell? ⟨pm,0,none⟩=some (.pointer (some ⟨b,0,none⟩))) (h1:w.cell? ⟨pp,1,none⟩=some (.int .i64 a)) (h2:w.cell? ⟨pt,0,none⟩=some (.int .u64 t)) :
  Calls Tryz.prog 179 #[.pointer (some ⟨pt,0,none⟩),.pointer (some ⟨pm,0,none⟩),.pointer (some ⟨pp,0,none⟩)] w fun e w'=>e=.returned (.tuple #[.int .u64 (passV t),.int .i64 (errA ws o a)])∧MemAt 95 w' b g (stored ws o a (passV t)) (spentO ws o a) (spentC ws o a c)∧Chg b g w w':=by
 have HA:=Lib.hid (store_any h a (passV t))
 unfold passV at *
 clear h
 go_enter Tryz.func179,Tryz.ntmps179
 go_wp2_with (go_at_call 180;refine HA.out.mono ?_;rintro e w' ⟨rfl,hm,hc⟩;have HX:=Lib.hid (And.intro hm hc);clear hm hc)
 go_ret2
 exact ⟨rfl,HX.out⟩
theorem pass_any (h:MemAt 95 w b g ws o c) (a0 a1 a2 a3 a4 a5 t:Int) :
  Calls Tryz.prog 155 #[.pointer (some ⟨b,0,none⟩),plnV a0 a1 a2 a3 a4 a5,.int .u64 t] w fun e w'=>e=.returned (.int .i64 (errA ws o a1))∧MemAt 95 w' b g (stored ws o a1 (passV t)) (spentO ws o a1) (spentC ws o a1 c)∧Chg b g w w':=by
 unfold plnV
 have HM:=Lib.hid h
 obtain ⟨z,hz⟩:∃ z,(if errA ws o a1=0 then passV t else 0)=z:=⟨_,rfl⟩
 have HZ:=Lib.hid hz
 clear hz
 clear h
 go_enter Tryz.func155,Tryz.ntmps155
 go_wp2_with (go_at_call 86;refine (letW_any _ _ z HZ.out (enter_run Tryz.func179 (by kernel_rfl) (by kernel_rfl)) (passAct_any (((HM.out.alloc _).alloc _).alloc _) _ _ _ a1 t (by simp [go_sem]) (by simp [go_sem]) (by simp [go_sem]))).mono ?_;rintro e w' ⟨rfl,hm,hc⟩;have HX:=Lib.hid (And.intro hm ((((Chg.refl b g w).alloc _).alloc _).alloc _ |>.trans hc));clear hm hc)
 go_ret
 exact ⟨rfl,HX.out⟩
end
end Go.Proofs.YteinilmecnlanabGreatDoor.Md.Ct
namespace Go.Proofs.YteinilmecnlanabGreatDoor.Ww
open Go.ChangeShapes Go.WideShapes Go.ChangeAt Go.RowKit Num Rr
theorem hasB_of {ws:List Int} {i:Int} (h:0≤i) (k:i<(ws.length:Int)):hasB ws i=true:=decide_eq_true ⟨h,k⟩
theorem errA_of {ws:List Int} {i:Int} (h:0≤i) (k:i<(ws.length:Int)):errA ws true i=0:=by unfold errA;rw [hasB_of h k];rfl
def bufC (x:Wx) (k:Nat):Int:=(x.m.buf.getD k (0,0)).1
def bufX (x:Wx) (k:Nat):Nat:=(x.m.buf.getD k (0,0)).2
def wtK (x:Wx) (k d:Nat):Md.Ce.Wt:=⟨3+x.b,bufC x k,((x.was.getD k 0:Nat):Int),Md.Cv.passV x.stamp,((bufX x k:Nat):Int),d⟩
structure VOk (x:Wx) (v:Wv):Prop where
 nx:v.nx=nextV x.part
 s5:x.part=5→(∃ n,v.qs=some n)∧v.s.B=3∧v.s.H=x.b∧v.s.D=x.stamp∧v.s.P=(x.at_:Int)
 b5:x.part≤5→v.bg=0
 w6:x.part=6→(∃ n,v.qw=some n)∧v.bg=((x.at_ / 3+1:Nat):Int)∧v.t=wtK x (x.at_ / 3) (x.at_ % 3)
 nb:wrap64 v.nb=x.num
theorem nextV_ne {p:Nat} (h:p≠9):nextV p=fnV (partF p):=by unfold nextV;rw [if_neg h]
theorem VOk.tick {x:Wx} {v:Wv} (h:VOk x v):VOk (tickY x) v:=⟨h.nx,h.s5,h.b5,h.w6,h.nb⟩
section
variable {x:Wx} {ws:List Int}
def letsY (x:Wx) (ws:List Int):Bool:=decide (wordAt ws (3+(x.at_:Int))=0∨x.stamp<wordAt ws (3+(x.at_:Int)))
theorem scan_rel (hI:InY x) (hp:x.part=5) (hl:plY x≤(ws.length:Int)) {s:Md.Cv.Ss} (hB:s.B=3) (hH:s.H=x.b) (hD:s.D=x.stamp) (hP:s.P=(x.at_:Int)) (n:Int) :
  Md.Cv.sE s ws true=0∧Md.Cv.sP s ws true=false∧Md.Cv.sQ s ws true n=up n∧Md.Cv.SOk s∧Md.Cv.sO s ws true=(letsY x ws && decide (((x.at_+1:Nat):Int)=x.b))∧(letsY x ws=true→Md.Cv.sC s ws true=⟨3,x.b,x.stamp,((x.at_+1:Nat):Int),s.Q⟩)∧(letsY x ws=false→Md.Cv.sC s ws true=⟨3,x.b,x.stamp,(x.at_:Int),up s.Q⟩):=by
 obtain ⟨B,H,D,P,Q⟩:=s
 dsimp only at hB hH hD hP
 subst hB hH hD hP
 have h5:=hI.at5 hp
 have hb:=hI.cb
 have ha:=hI.ca
 unfold plY at hl
 have hpl:Md.Cv.plc 3 (x.at_:Int)=3+(x.at_:Int):=by unfold Md.Cv.plc;rw [if_pos (by omega)]
 have hm:Md.Cv.mayH x.b=true:=decide_eq_true ⟨hb.1,hb.2⟩
 have hE:Md.Cv.sE ⟨3,x.b,x.stamp,(x.at_:Int),Q⟩ ws true=0:=by
  unfold Md.Cv.sE
  dsimp only
  rw [hm,if_pos rfl,if_neg (by omega),hpl]
  exact errA_of (by omega) (by omega)
 have hC:Md.Cv.sC ⟨3,x.b,x.stamp,(x.at_:Int),Q⟩ ws true=Md.Cv.sN ⟨3,x.b,x.stamp,(x.at_:Int),Q⟩ (wordAt ws (3+(x.at_:Int))):=by
  unfold Md.Cv.sC
  rw [if_pos hE]
  dsimp only
  rw [hpl]
 have hL:Md.Cv.letB x.stamp (wordAt ws (3+(x.at_:Int)))=letsY x ws:=by
  unfold Md.Cv.letB letsY
  rw [Bool.eq_iff_iff]
  simp
 have hN:Md.Cv.sN ⟨3,x.b,x.stamp,(x.at_:Int),Q⟩ (wordAt ws (3+(x.at_:Int)))=if letsY x ws then ⟨3,x.b,x.stamp,(x.at_:Int)+1,Q⟩ else ⟨3,x.b,x.stamp,(x.at_:Int),up Q⟩:=by
  unfold Md.Cv.sN
  dsimp only
  rw [hL]
 refine ⟨hE,?_,?_,⟨by dsimp only;omega,fun _=>by dsimp only;omega⟩,?_,fun q=>?_,fun q=>?_⟩
 ·unfold Md.Cv.sP;rw [if_pos hE]
 ·unfold Md.Cv.sQ;rw [if_pos hE]
 ·unfold Md.Cv.sO
  rw [hE,hC,hN,decide_eq_true rfl,Bool.true_and]
  cases letsY x ws
  ·rw [Bool.false_and]
   exact decide_eq_false (by simp;omega)
  ·rw [Bool.true_and]
   simp
 ·rw [hC,hN,q]
  simp
 ·rw [hC,hN,q]
  simp
theorem scanY_no (h:letsY x ws=false):scanY x ws=x:=by
 have:=of_decide_eq_false h
 unfold scanY
 rw [if_neg this]
theorem scanY_on (h:letsY x ws=true) (hb:¬ ((x.at_+1:Nat):Int)=x.b):scanY x ws={ x with at_:=x.at_+1 }:=by
 have:=of_decide_eq_true h
 unfold scanY
 rw [if_pos this,if_neg hb]
theorem scanY_end (h:letsY x ws=true) (hb:((x.at_+1:Nat):Int)=x.b):scanY x ws={ x with at_:=0,part:=if x.m.buf.length=0 then 7 else 6 }:=by
 have:=of_decide_eq_true h
 unfold scanY
 rw [if_pos this,if_pos hb]
theorem okN_fix' {v:Nat} (h:okN v):fixB v=v:=h.1
theorem buf_in (hI:InY x) {k:Nat} (hk:k<x.m.buf.length):0≤bufC x k∧bufC x k<x.a∧okN (bufX x k):=by
 have e:x.m.buf.getD k (0,0)=x.m.buf[k]:=by simp [hk]
 unfold bufC bufX
 rw [e,← hI.cel]
 exact ⟨(hI.rest.cel _ (List.getElem_mem hk)).1,(hI.rest.cel _ (List.getElem_mem hk)).2,hI.rest.inv.buf _ (List.getElem_mem hk)⟩
theorem was_in (hI:InY x) (k:Nat):okN (x.was.getD k 0):=getD_all 0 okN_zero x.was hI.wok k
theorem newW_is (hI:InY x) {k:Nat} (hk:k<x.m.buf.length):Md.Ce.newW (3+x.b) (bufC x k) (Md.Cv.passV x.stamp) (x.was.getD k 0) (bufX x k)=wtK x k 0:=by
 unfold Md.Ce.newW wtK
 rw [okN_fix' (was_in hI k),okN_fix' (buf_in hI hk).2.2]
theorem write_rel (hI:InY x) (hp:x.part=6) (hl:plY x≤(ws.length:Int)) (n:Int):Md.Ce.errW (wtK x (x.at_ / 3) (x.at_ % 3)) ws true=0∧Md.Ce.laidW (wtK x (x.at_ / 3) (x.at_ % 3)) ws true=backW x ws∧Md.Ce.stepW (wtK x (x.at_ / 3) (x.at_ % 3)) ws true=wtK x (x.at_ / 3) (x.at_ % 3+1)∧Md.Ce.endW (wtK x (x.at_ / 3) (x.at_ % 3)) ws true=decide (x.at_ % 3=2)∧Md.Ce.aftO (Md.Ce.errW (wtK x (x.at_ / 3) (x.at_ % 3)) ws true) true=false∧Md.Ce.aftN (Md.Ce.errW (wtK x (x.at_ / 3) (x.at_ % 3)) ws true) n=up n:=by
 have h6:=hI.at6 hp
 have hk:x.at_ / 3<x.m.buf.length:=by omega
 obtain ⟨c1,c2,c3⟩:=buf_in hI hk
 have hb:=hI.cb
 have ha:=hI.ca
 unfold plY at hl
 have hd:x.at_ % 3<3:=Nat.mod_lt _ (by omega)
 have P:∀ j:Int,Md.Ce.placeI (3+x.b) (bufC x (x.at_ / 3)) j=3+x.b+3*bufC x (x.at_ / 3)+j:=fun j=>by unfold Md.Ce.placeI;rw [if_pos (by omega)]
 have hw:=Md.Ce.wordW_in (x.at_ % 3)
 have hE:Md.Ce.errW (wtK x (x.at_ / 3) (x.at_ % 3)) ws true=0:=by
  unfold Md.Ce.errW Md.Ce.errC wtK
  dsimp only
  rw [if_pos hd,show Md.Ce.mayC (bufC x (x.at_ / 3))=true from decide_eq_true ⟨c1,by omega⟩,if_pos rfl,P]
  exact errA_of (by omega) (by omega)
 refine ⟨hE,?_,?_,?_,?_,?_⟩
 ·unfold Md.Ce.laidW
  rw [if_pos hE]
  unfold Md.Ce.storeC Md.Ce.bitsW Md.Ce.wordW wtK backW atC
  dsimp only
  rw [P]
  rcases (by omega:x.at_ % 3=0∨x.at_ % 3=1∨x.at_ % 3=2) with d | d | d
  ·simp only [d,if_true]
   rfl
  ·simp only [d,if_true,if_neg (show ¬ (1:Nat)=0 by omega)]
   rfl
  ·simp only [d,if_neg (show ¬ (2:Nat)=0 by omega),if_neg (show ¬ (2:Nat)=1 by omega)]
   rfl
 ·unfold Md.Ce.stepW
  rw [if_pos hE]
  rfl
 ·unfold Md.Ce.endW
  rw [hE,decide_eq_true rfl,Bool.true_and]
  rfl
 ·unfold Md.Ce.aftO;rw [if_pos hE]
 ·unfold Md.Ce.aftN;rw [if_pos hE]
theorem now_rel (ha:1≤x.a∧x.a≤256) (hb:1≤x.b∧x.b≤8) (hl:plY x≤(ws.length:Int)) {c:Int} (h0:0≤c) (h1:c<x.a) (n:Int):Md.Ce.errC ws true (3+x.b) c 1=0∧Md.Ce.nowV ws true (3+x.b) c=nowN x ws c∧Md.Ce.aftO (Md.Ce.errC ws true (3+x.b) c 1) true=false∧Md.Ce.aftN (Md.Ce.errC ws true (3+x.b) c 1) n=up n:=by
 unfold plY at hl
 have P:Md.Ce.placeI (3+x.b) c 1=3+x.b+3*c+1:=by unfold Md.Ce.placeI;rw [if_pos (by omega)]
 have hE:Md.Ce.errC ws true (3+x.b) c 1=0:=by
  unfold Md.Ce.errC
  rw [show Md.Ce.mayC c=true from decide_eq_true ⟨h0,by omega⟩,if_pos rfl,P]
  exact errA_of (by omega) (by omega)
 refine ⟨hE,?_,?_,?_⟩
 ·unfold Md.Ce.nowV Md.Ce.wordC nowN atC
  rw [if_pos hE,P]
 ·unfold Md.Ce.aftO;rw [if_pos hE]
 ·unfold Md.Ce.aftN;rw [if_pos hE]
end
section
variable {W w w':World} {G0:List Nat} {b mb mg:Nat} {x:Wx} {z:Wz} {v:Wv} {ws:List Int} {o:Bool} {n:Int}
theorem RawAt.like (h:RawAt w b x z v) {x':Wx} (e:boxY x' z v=boxY x z v) (hm:x'.m=x.m) (ha:x'.args=x.args) (hw:x'.was=x.was):RawAt w b x' z v:=⟨by rw [e];exact h.box,by rw [hm];exact h.mac,by rw [hw];exact h.had,h.sc,h.wr,by rw [ha];exact h.arg,h.apart⟩
theorem Mid.like (h:Mid W G0 b z mb mg w x v ws o n) {x':Wx} (e:boxY x' z v=boxY x z v) (hm:x'.m=x.m) (ha:x'.args=x.args) (hw:x'.was=x.was):Mid W G0 b z mb mg w x' v ws o n:=⟨h.1.like e hm ha hw,h.2⟩
theorem Mid.plan (h:Mid W G0 b z mb mg w x v ws o n) {p4 p5:Int} (h4:3+x.b=p4) (h5:3+x.b+3*x.a=p5):w.cell? ⟨b,0,none⟩=some (.int .i64 0)∧w.cell? ⟨b,1,none⟩=some (.int .i64 1)∧w.cell? ⟨b,2,none⟩=some (.int .i64 2)∧w.cell? ⟨b,3,none⟩=some (.int .i64 3)∧w.cell? ⟨b,4,none⟩=some (.int .i64 p4)∧w.cell? ⟨b,5,none⟩=some (.int .i64 p5):=by
 subst h4 h5
 exact ⟨(h.cell 0).trans rfl,(h.cell 1).trans rfl,(h.cell 2).trans rfl,(h.cell 3).trans rfl,(h.cell 4).trans rfl,(h.cell 5).trans rfl⟩
theorem Mid.step (h:Mid W G0 b z mb mg w x v ws o n) (hT:TabAt W G0) (hI:Inv x.m) {M:Mac} {A:Ask} (hM:(stepM x.m).1=M) (hA:(stepM x.m).2=A):Calls Tryz.prog 125 #[.pointer (some ⟨z.bm,0,none⟩)] w fun e w'=>e=.returned (.agg #[.int .i64 A.kind,.int .i64 A.cell,.float .f64 A.x,.bool A.first])∧Hid (∃ F,Mid W G0 b z mb mg w' { x with m:=M } { v with F:=F } ws o n):=by
 obtain ⟨g,tb,go⟩:=h.mach
 subst hM hA
 refine (step_any g (tb hT) hI).mono ?_
 rintro e w' ⟨rfl,k⟩
 exact ⟨rfl,go _ _ k⟩
theorem Mid.give (h:Mid W G0 b z mb mg w x v ws o n) (hI:Inv x.m) (y:Nat) {M:Mac} (hM:giveM x.m y=M):Calls Tryz.prog 126 #[.pointer (some ⟨z.bm,0,none⟩),.float .f64 y] w fun e w'=>e=.returned (.int .i64 (giveE x.m))∧Hid (∃ F,Mid W G0 b z mb mg w' { x with m:=M } { v with F:=F } ws o n):=by
 obtain ⟨g,tb,go⟩:=h.mach
 subst hM
 refine (give_any g hI y).mono ?_
 rintro e w' ⟨rfl,k⟩
 exact ⟨rfl,go _ _ k⟩
end
end Go.Proofs.YteinilmecnlanabGreatDoor.Ww
namespace Go.Proofs.YteinilmecnlanabGreatDoor.Ww
open Go.ChangeShapes Go.WideShapes Go.ChangeAt Go.RowKit Num Rr
attribute [local go_sem] run_store_float Md.Ce.run_store_func Md.Ce.run_store_nilFunc
theorem funcT:∃ ps rs v,Tryz.prog.underlying 79=some (.func ps rs v):=⟨#[33,37],#[],false,by kernel_rfl⟩
theorem run_eql_func (f:Fn) (x y:Array Value) (w:World):(binOp .eql 79 (.func f x y) .nilFunc).run Tryz.prog w=.ok (.bool false) w:=by
 obtain ⟨ps,rs,v,h⟩:=funcT
 simp only [binOp]
 simp [Md.Ce.run_equal_func _ f x y w h]
theorem run_eql_nilFunc (w:World):(binOp .eql 79 .nilFunc .nilFunc).run Tryz.prog w=.ok (.bool true) w:=by
 obtain ⟨ps,rs,v,h⟩:=funcT
 simp only [binOp]
 simp [Md.Ce.run_equal_nil _ w h]
attribute [local go_sem] run_eql_func run_eql_nilFunc
theorem part_enter (p:Nat) (args:Array Value) (w:World):(callFunc (partF p) args).run Tryz.prog w=.ok (.enter (partF p) args) w:=by
 unfold partF
 split
 ·exact Md.enter_run Tryz.func46 (by kernel_rfl) (by kernel_rfl) args w
 split
 ·exact Md.enter_run Tryz.func70 (by kernel_rfl) (by kernel_rfl) args w
 split
 ·exact Md.enter_run Tryz.func90 (by kernel_rfl) (by kernel_rfl) args w
 split
 ·exact Md.enter_run Tryz.func110 (by kernel_rfl) (by kernel_rfl) args w
 split
 ·exact Md.enter_run Tryz.func143 (by kernel_rfl) (by kernel_rfl) args w
 split
 ·exact Md.enter_run Tryz.func187 (by kernel_rfl) (by kernel_rfl) args w
 split
 ·exact Md.enter_run Tryz.func184 (by kernel_rfl) (by kernel_rfl) args w
 ·exact Md.enter_run Tryz.func141 (by kernel_rfl) (by kernel_rfl) args w
section
variable {W w:World} {G0:List Nat} {b mb mg:Nat} {x:Wx} {z:Wz} {v:Wv} {ws:List Int} {o:Bool} {n:Int}
theorem over_raw (h:RawAt w b x z v) (hv:v.nx=nextV x.part):Calls Tryz.prog 25 #[.pointer (some ⟨b,0,none⟩)] w fun e w'=>e=.returned (.bool (decide ((x.part:Int)=9)))∧w'=w:=by
 have h12:w.cell? ⟨b,12,none⟩=some v.nx:=(h.cell 12).trans rfl
 have hb:=h.ltB
 rw [hv] at h12
 unfold nextV at h12
 clear h hv
 by_cases e:x.part=9
 ·rw [if_pos e] at h12
  rw [decide_eq_true (by omega)]
  clear e
  go_enter Tryz.func25,Tryz.ntmps25
  go_wp2
  go_ret
  exact ⟨rfl,rfl⟩
 ·rw [if_neg e] at h12
  unfold fnV at h12
  rw [decide_eq_false (by omega)]
  generalize partF x.part=ff at h12
  clear e
  go_enter Tryz.func25,Tryz.ntmps25
  go_wp2
  go_ret
  exact ⟨rfl,rfl⟩
theorem phase_raw (h:RawAt w b x z v):Calls Tryz.prog 16 #[.pointer (some ⟨b,0,none⟩)] w fun e w'=>e=.returned (.int .i64 (x.part:Int))∧w'=w:=by
 have h11:w.cell? ⟨b,11,none⟩=some (.int .i64 (x.part:Int)):=(h.cell 11).trans rfl
 have hb:=h.ltB
 clear h
 go_enter Tryz.func16,Tryz.ntmps16
 go_wp2
 go_ret
 exact ⟨rfl,rfl⟩
theorem turnTo_fn (h:Mid W G0 b z mb mg w x v ws o n) (p:Nat) {P:Int} (hP:(p:Int)=P) (f:FuncId):Calls Tryz.prog 45 #[.pointer (some ⟨b,0,none⟩),.int .i64 P,.func (.func f) #[] #[]] w fun e w'=>e=.returned (.tuple #[])∧Mid W G0 b z mb mg w' { x with part:=p } { v with nx:=fnV f } ws o n:=by
 subst hP
 have h11:w.cell? ⟨b,11,none⟩=some (.int .i64 (x.part:Int)):=(h.cell 11).trans rfl
 have f11:=h.free 11
 have H1:=h.put 11 (.int .i64 (p:Int)) { x with part:=p } v rfl ⟨rfl,rfl,rfl⟩ ⟨rfl,rfl,rfl,rfl,rfl,rfl,rfl⟩
 have h12:(w.setCell ⟨b,11,none⟩ (.int .i64 (p:Int))).cell? ⟨b,12,none⟩=some v.nx:=(H1.cell 12).trans rfl
 have f12:=H1.free 12
 have H2:=Lib.hid (H1.put 12 (.func (.func f) #[] #[]) { x with part:=p } { v with nx:=fnV f } rfl ⟨rfl,rfl,rfl⟩ ⟨rfl,rfl,rfl,rfl,rfl,rfl,rfl⟩)
 have hb:=h.ltB
 clear h H1
 go_enter Tryz.func45,Tryz.ntmps45
 go_wp2
 go_end0
 exact ⟨rfl,H2.out⟩
theorem turnTo_nil (h:Mid W G0 b z mb mg w x v ws o n) (p:Nat) {P:Int} (hP:(p:Int)=P):Calls Tryz.prog 45 #[.pointer (some ⟨b,0,none⟩),.int .i64 P,.nilFunc] w fun e w'=>e=.returned (.tuple #[])∧Mid W G0 b z mb mg w' { x with part:=p } { v with nx:=.nilFunc } ws o n:=by
 subst hP
 have h11:w.cell? ⟨b,11,none⟩=some (.int .i64 (x.part:Int)):=(h.cell 11).trans rfl
 have f11:=h.free 11
 have H1:=h.put 11 (.int .i64 (p:Int)) { x with part:=p } v rfl ⟨rfl,rfl,rfl⟩ ⟨rfl,rfl,rfl,rfl,rfl,rfl,rfl⟩
 have h12:(w.setCell ⟨b,11,none⟩ (.int .i64 (p:Int))).cell? ⟨b,12,none⟩=some v.nx:=(H1.cell 12).trans rfl
 have f12:=H1.free 12
 have H2:=Lib.hid (H1.put 12 .nilFunc { x with part:=p } { v with nx:=.nilFunc } rfl ⟨rfl,rfl,rfl⟩ ⟨rfl,rfl,rfl,rfl,rfl,rfl,rfl⟩)
 have hb:=h.ltB
 clear h H1
 go_enter Tryz.func45,Tryz.ntmps45
 go_wp2
 go_end0
 exact ⟨rfl,H2.out⟩
theorem nextStamp_any (h:Mid W G0 b z mb mg w x v ws o n):Calls Tryz.prog 186 #[.pointer (some ⟨b,0,none⟩)] w fun e w'=>e=.returned (.int .u64 (Md.Cv.passV x.stamp))∧w'=w:=by
 have h14:w.cell? ⟨b,14,none⟩=some (.int .u64 x.stamp):=(h.cell 14).trans rfl
 have hb:=h.ltB
 clear h
 unfold Md.Cv.passV
 go_enter Tryz.func186,Tryz.ntmps186
 go_wp2
 go_ret
 exact ⟨rfl,rfl⟩
theorem draw_any (h:Mid W G0 b z mb mg w x v ws true n) (hl:0<(ws.length:Int)):Calls Tryz.prog 46 #[.pointer (some ⟨b,0,none⟩),.pointer (some ⟨mb,0,none⟩)] w fun e w'=>e=.returned (.tuple #[])∧Mid W G0 b z mb mg w' { x with tick:=wordAt ws 0,part:=2 } { v with nx:=fnV 70 } (ws.set 0 (Md.Cv.passV (wordAt ws 0))) false (up n):=by
 have hE:errA ws true 0=0:=errA_of (by omega) hl
 obtain ⟨f1,f2,f3,f4,_⟩:=Md.Cv.ok_facts hE
 obtain ⟨y,hy⟩:∃ y,wordAt ws 0=y:=⟨_,rfl⟩
 obtain ⟨ws',hws⟩:∃ ws',ws.set 0 (Md.Cv.passV (wordAt ws 0))=ws':=⟨_,rfl⟩
 have HD:=Lib.hid (Md.Ct.draw_any h.mem 0 1 2 3 (3+x.b) (3+x.b+3*x.a))
 unfold Md.Ct.plnV at HD
 rw [hE,f1,f2,f3,f4,show ws.set (Int.toNat 0) (addV (wordAt ws 0) 1)=ws' from hws,hy] at HD
 rw [hws,hy]
 have HM:Hid (∀ w',MemAt 95 w' mb mg ws' false (up n)→Chg mb mg w w'→Mid W G0 b z mb mg w' x v ws' false (up n)):=fun w' k1 k2=>h.memb k2 k1
 have HP:Hid (∀ w',Mid W G0 b z mb mg w' x v ws' false (up n)→Mid W G0 b z mb mg (w'.setCell ⟨b,13,none⟩ (.int .u64 y)) { x with tick:=y } v ws' false (up n)):=fun w' k=>k.put 13 _ { x with tick:=y } v rfl ⟨rfl,rfl,rfl⟩ ⟨rfl,rfl,rfl,rfl,rfl,rfl,rfl⟩
 have HT:Hid (∀ w',Mid W G0 b z mb mg w' { x with tick:=y } v ws' false (up n)→Calls Tryz.prog 45 #[.pointer (some ⟨b,0,none⟩),.int .i64 2,.func (.func 70) #[] #[]] w' fun e w'=>e=.returned (.tuple #[])∧Mid W G0 b z mb mg w' { x with tick:=y,part:=2 } { v with nx:=fnV 70 } ws' false (up n)):=fun w' k=>turnTo_fn k 2 rfl 70
 obtain ⟨h0,h1,h2,h3,h4,h5⟩:=h.plan rfl rfl
 have hb:=h.ltB
 clear h f1 f2 f3 f4 hE hl hy hws
 generalize 3+x.b+3*x.a=p5 at *
 generalize 3+x.b=p4 at *
 go_enter Tryz.func46,Tryz.ntmps46
 go_wp2_with (first
  | (go_at_call 45;refine (HT.out _ (HP.out _ HQ.out)).mono ?_;rintro e w2 ⟨rfl,k⟩;have HR:=Lib.hid k;clear k HT)
  | (go_at_call 69;refine HD.out.mono ?_;rintro e w1 ⟨rfl,k1,k2⟩;have HQ:=Lib.hid (HM.out _ k1 k2);have e13:w1.cell? ⟨b,13,none⟩=some (.int .u64 x.tick):=(HQ.out.cell 13).trans rfl;have f13:=HQ.out.free 13;have lb:=HQ.out.ltB;clear k1 k2 HD HM))
 go_end0
 exact ⟨rfl,HR.out⟩
theorem wait_any (h:Mid W G0 b z mb mg w x v ws true n) (hl:1<(ws.length:Int)) {is:Bool} (his:decide (wordAt ws 1=x.tick)=is):Calls Tryz.prog 70 #[.pointer (some ⟨b,0,none⟩),.pointer (some ⟨mb,0,none⟩)] w fun e w'=>e=.returned (.tuple #[])∧Mid W G0 b z mb mg w' (if is then { x with part:=3 } else x) (if is then { v with nx:=fnV 90 } else v) ws false (up n):=by
 have hE:errA ws true 1=0:=errA_of (by omega) hl
 obtain ⟨f1,f2,f3,f4,f5,_⟩:=Md.Cv.ok_facts hE
 have HD:=Lib.hid (Md.Ct.look_any h.drew.mem 0 1 2 3 (3+x.b) (3+x.b+3*x.a) x.tick)
 unfold Md.Ct.plnV Md.Ct.lookB at HD
 rw [hE,f2,f3,f5,Bool.true_and,Bool.true_and,his] at HD
 have HM:Hid (∀ w',MemAt 95 w' mb mg ws false (up n)→Chg mb mg w.drew w'→Mid W G0 b z mb mg w' x v ws false (up n)):=fun w' k1 k2=>h.drew.memb k2 k1
 have HT:Hid (∀ w',Mid W G0 b z mb mg w' x v ws false (up n)→Calls Tryz.prog 45 #[.pointer (some ⟨b,0,none⟩),.int .i64 3,.func (.func 90) #[] #[]] w' fun e w'=>e=.returned (.tuple #[])∧Mid W G0 b z mb mg w' { x with part:=3 } { v with nx:=fnV 90 } ws false (up n)):=fun w' k=>turnTo_fn k 3 rfl 90
 obtain ⟨h0,h1,h2,h3,h4,h5⟩:=h.plan rfl rfl
 have h13:w.cell? ⟨b,13,none⟩=some (.int .u64 x.tick):=(h.cell 13).trans rfl
 have hb:=h.ltB
 have HPL:Hid (∀ w',Mid W G0 b z mb mg w' x v ws false (up n)→(w'.cell? ⟨b,0,none⟩=some (.int .i64 0)∧w'.cell? ⟨b,1,none⟩=some (.int .i64 1)∧w'.cell? ⟨b,2,none⟩=some (.int .i64 2)∧w'.cell? ⟨b,3,none⟩=some (.int .i64 3)∧w'.cell? ⟨b,4,none⟩=some (.int .i64 (3+x.b))∧w'.cell? ⟨b,5,none⟩=some (.int .i64 (3+x.b+3*x.a)))∧w'.cell? ⟨b,13,none⟩=some (.int .u64 x.tick)):=fun w' k=>⟨k.plan rfl rfl,(k.cell 13).trans rfl⟩
 clear h f1 f2 f3 f4 f5 hE hl his
 generalize 3+x.b+3*x.a=p5 at *
 generalize 3+x.b=p4 at *
 go_enter Tryz.func70,Tryz.ntmps70
 go_wp2_with fail
 refine wp_region_seq (fun u=>(u.cell? ⟨b,0,none⟩=some (.int .i64 0)∧u.cell? ⟨b,1,none⟩=some (.int .i64 1)∧u.cell? ⟨b,2,none⟩=some (.int .i64 2)∧u.cell? ⟨b,3,none⟩=some (.int .i64 3)∧u.cell? ⟨b,4,none⟩=some (.int .i64 p4)∧u.cell? ⟨b,5,none⟩=some (.int .i64 p5))∧u.cell? ⟨b,13,none⟩=some (.int .u64 x.tick) )  ((0,true)::(1,true)::(2,true)::(3,true)::(4,true)::(5,true)::(6,true)::(7,true)::(8,true)::(9,false)::(10,true)::(11,true)::(12,true)::(13,true)::(14,true)::[])  Md.Cv.follows13 (by kernel_rfl) (fun _ _ _ _ _ h=>h)  ⟨⟨h0,h1,h2,h3,h4,h5⟩,h13⟩ ?_
 (repeat ((first | (refine wpSeq_take (v:=?_) rfl (by rfl) (fun wq hSq=>?_) ?_;rotate_left;(focus ((try dsimp only at hSq);go_simp;try with_reducible rfl))) | refine wpSeq_skip rfl (by rfl) ?_);simp only [Act.put,List.setIfInBounds_toArray,List.set_cons_zero,List.set_cons_succ]))
 (refine wpSeq_do rfl (by rfl) (fun KK hK=>?_);go_simp)
 refine HD.out.mono ?_
 rintro e w1 ⟨rfl,k1,k2⟩
 have HQ:=Lib.hid (HM.out _ k1 k2)
 have lb:=HQ.out.ltB
 clear k1 k2 HD HM
 refine hK.out _ _ (HPL.out _ HQ.out) ?_
 (clear hK KK;try simp only [Act.put,List.setIfInBounds_toArray,List.set_cons_zero,List.set_cons_succ])
 (repeat ((first | (refine wpSeq_take (v:=?_) rfl (by rfl) (fun wq hSq=>?_) ?_;rotate_left;(focus ((try dsimp only at hSq);go_simp;try with_reducible rfl))) | refine wpSeq_skip rfl (by rfl) ?_);simp only [Act.put,List.setIfInBounds_toArray,List.set_cons_zero,List.set_cons_succ]))
 refine wpSeq_nil ?_
 cases is
 ·go_wp2_with fail
  go_end0
  exact ⟨rfl,HQ.out⟩
 ·go_wp2_with (go_at_call 45;refine (HT.out _ HQ.out).mono ?_;rintro e w2 ⟨rfl,k⟩;have HR:=Lib.hid k;clear k HT)
  go_end0
  exact ⟨rfl,HR.out⟩
theorem mark_any (h:Mid W G0 b z mb mg w x v ws true n) (hl:2<(ws.length:Int)):Calls Tryz.prog 90 #[.pointer (some ⟨b,0,none⟩),.pointer (some ⟨mb,0,none⟩)] w fun e w'=>e=.returned (.tuple #[])∧Mid W G0 b z mb mg w' { x with stamp:=wordAt ws 2,part:=4 } { v with nx:=fnV 110 } ws false (up n):=by
 have hE:errA ws true 2=0:=errA_of (by omega) hl
 obtain ⟨f1,f2,f3,f4,_⟩:=Md.Cv.ok_facts hE
 obtain ⟨y,hy⟩:∃ y,wordAt ws 2=y:=⟨_,rfl⟩
 have HD:=Lib.hid (Md.Cv.stampM_any h.mem 0 1 2 3 (3+x.b) (3+x.b+3*x.a))
 unfold Md.Cv.plnV at HD
 rw [hE,f2,f3,f4,hy] at HD
 rw [hy]
 have HM:Hid (∀ w',MemAt 95 w' mb mg ws false (up n)→Chg mb mg w w'→Mid W G0 b z mb mg w' x v ws false (up n)):=fun w' k1 k2=>h.memb k2 k1
 have HP:Hid (∀ w',Mid W G0 b z mb mg w' x v ws false (up n)→Mid W G0 b z mb mg (w'.setCell ⟨b,14,none⟩ (.int .u64 y)) { x with stamp:=y } v ws false (up n)):=fun w' k=>k.put 14 _ { x with stamp:=y } v rfl ⟨rfl,rfl,rfl⟩ ⟨rfl,rfl,rfl,rfl,rfl,rfl,rfl⟩
 have HT:Hid (∀ w',Mid W G0 b z mb mg w' { x with stamp:=y } v ws false (up n)→Calls Tryz.prog 45 #[.pointer (some ⟨b,0,none⟩),.int .i64 4,.func (.func 110) #[] #[]] w' fun e w'=>e=.returned (.tuple #[])∧Mid W G0 b z mb mg w' { x with stamp:=y,part:=4 } { v with nx:=fnV 110 } ws false (up n)):=fun w' k=>turnTo_fn k 4 rfl 110
 obtain ⟨h0,h1,h2,h3,h4,h5⟩:=h.plan rfl rfl
 have hb:=h.ltB
 clear h f1 f2 f3 f4 hE hl hy
 generalize 3+x.b+3*x.a=p5 at *
 generalize 3+x.b=p4 at *
 go_enter Tryz.func90,Tryz.ntmps90
 go_wp2_with (first
  | (go_at_call 45;refine (HT.out _ (HP.out _ HQ.out)).mono ?_;rintro e w2 ⟨rfl,k⟩;have HR:=Lib.hid k;clear k HT)
  | (go_at_call 109;refine HD.out.mono ?_;rintro e w1 ⟨rfl,k1,k2⟩;have HQ:=Lib.hid (HM.out _ k1 k2);have e14:w1.cell? ⟨b,14,none⟩=some (.int .u64 x.stamp):=(HQ.out.cell 14).trans rfl;have f14:=HQ.out.free 14;have lb:=HQ.out.ltB;clear k1 k2 HD HM))
 go_end0
 exact ⟨rfl,HR.out⟩
theorem publish_any (h:Mid W G0 b z mb mg w x v ws true n) (hl:2<(ws.length:Int)):Calls Tryz.prog 184 #[.pointer (some ⟨b,0,none⟩),.pointer (some ⟨mb,0,none⟩)] w fun e w'=>e=.returned (.tuple #[])∧Mid W G0 b z mb mg w' { x with part:=8 } { v with nx:=fnV 141,nb:=Md.Cv.passV x.stamp } (ws.set 2 (Md.Cv.passV x.stamp)) false (up n):=by
 have hE:errA ws true 2=0:=errA_of (by omega) hl
 obtain ⟨f1,f2,f3,f4,_⟩:=Md.Cv.ok_facts hE
 have HN:Hid (Calls Tryz.prog 186 #[.pointer (some ⟨b,0,none⟩)] w fun e w'=>e=.returned (.int .u64 (Md.Cv.passV x.stamp))∧w'=w):=nextStamp_any h
 obtain ⟨y,hy⟩:∃ y,Md.Cv.passV x.stamp=y:=⟨_,rfl⟩
 rw [hy] at HN ⊢
 clear hy
 have H1:=h.put 19 (.int .u64 y) x { v with nb:=y } rfl ⟨rfl,rfl,rfl⟩ ⟨rfl,rfl,rfl,rfl,rfl,rfl,rfl⟩
 have h19:w.cell? ⟨b,19,none⟩=some (.int .u64 v.nb):=(h.cell 19).trans rfl
 have f19:=h.free 19
 have hb:=h.ltB
 obtain ⟨w1,hw1⟩:∃ w1,w1=w.setCell ⟨b,19,none⟩ (.int .u64 y):=⟨_,rfl⟩
 rw [← hw1] at H1
 have HD:=Lib.hid (Md.Cv.publish_any H1.drew.mem 0 1 2 3 (3+x.b) (3+x.b+3*x.a) y)
 unfold Md.Cv.plnV at HD
 obtain ⟨ws',hws⟩:∃ ws',ws.set 2 y=ws':=⟨_,rfl⟩
 rw [hE,f1,f2,f3,show ws.set (Int.toNat 2) y=ws' from hws] at HD
 rw [hws]
 have HM:Hid (∀ w',MemAt 95 w' mb mg ws' false (up n)→Chg mb mg w1.drew w'→Mid W G0 b z mb mg w' x { v with nb:=y } ws' false (up n)):=fun w' k1 k2=>H1.drew.memb k2 k1
 have HT:Hid (∀ w',Mid W G0 b z mb mg w' x { v with nb:=y } ws' false (up n)→Calls Tryz.prog 45 #[.pointer (some ⟨b,0,none⟩),.int .i64 8,.func (.func 141) #[] #[]] w' fun e w'=>e=.returned (.tuple #[])∧Mid W G0 b z mb mg w' { x with part:=8 } { v with nx:=fnV 141,nb:=y } ws' false (up n)):=fun w' k=>turnTo_fn k 8 rfl 141
 obtain ⟨h0,h1,h2,h3,h4,h5⟩:=H1.plan rfl rfl
 have e19:w1.cell? ⟨b,19,none⟩=some (.int .u64 y):=(H1.cell 19).trans rfl
 have hb1:=H1.ltB
 have HPL:Hid (∀ w',Mid W G0 b z mb mg w' x { v with nb:=y } ws' false (up n)→(w'.cell? ⟨b,0,none⟩=some (.int .i64 0)∧w'.cell? ⟨b,1,none⟩=some (.int .i64 1)∧w'.cell? ⟨b,2,none⟩=some (.int .i64 2)∧w'.cell? ⟨b,3,none⟩=some (.int .i64 3)∧w'.cell? ⟨b,4,none⟩=some (.int .i64 (3+x.b))∧w'.cell? ⟨b,5,none⟩=some (.int .i64 (3+x.b+3*x.a)))∧w'.cell? ⟨b,19,none⟩=some (.int .u64 y)):=fun w' k=>⟨k.plan rfl rfl,(k.cell 19).trans rfl⟩
 have HW1:=Lib.hid hw1
 clear h H1 f1 f2 f3 f4 hE hl hws hw1
 generalize 3+x.b+3*x.a=p5 at *
 generalize 3+x.b=p4 at *
 go_enter Tryz.func184,Tryz.ntmps184
 go_wp2_with (go_at_call 186;refine HN.out.mono ?_;rintro e u1 ⟨rfl,hw⟩;subst u1;clear HN)
 rw [← HW1.out]
 clear HW1
 refine wp_region_seq (fun u=>(u.cell? ⟨b,0,none⟩=some (.int .i64 0)∧u.cell? ⟨b,1,none⟩=some (.int .i64 1)∧u.cell? ⟨b,2,none⟩=some (.int .i64 2)∧u.cell? ⟨b,3,none⟩=some (.int .i64 3)∧u.cell? ⟨b,4,none⟩=some (.int .i64 p4)∧u.cell? ⟨b,5,none⟩=some (.int .i64 p5))∧u.cell? ⟨b,19,none⟩=some (.int .u64 y) )  ((0,true)::(1,true)::(2,true)::(3,true)::(4,true)::(5,true)::(6,true)::(7,true)::(8,true)::(9,false)::[])  Md.Cv.follows13 (by kernel_rfl) (fun _ _ _ _ _ h=>h)  ⟨⟨h0,h1,h2,h3,h4,h5⟩,e19⟩ ?_
 (repeat ((first | (refine wpSeq_take (v:=?_) rfl (by rfl) (fun wq hSq=>?_) ?_;rotate_left;(focus ((try dsimp only at hSq);go_simp;try with_reducible rfl))) | refine wpSeq_skip rfl (by rfl) ?_);simp only [Act.put,List.setIfInBounds_toArray,List.set_cons_zero,List.set_cons_succ]))
 (refine wpSeq_do rfl (by rfl) (fun KK hK=>?_);go_simp)
 refine HD.out.mono ?_
 rintro e w2 ⟨rfl,k1,k2⟩
 have HQ:=Lib.hid (HM.out _ k1 k2)
 have lb:=HQ.out.ltB
 clear k1 k2 HD HM
 refine hK.out _ _ (HPL.out _ HQ.out) ?_
 (clear hK KK;try simp only [Act.put,List.setIfInBounds_toArray,List.set_cons_zero,List.set_cons_succ])
 refine wpSeq_nil ?_
 go_wp2_with (go_at_call 45;refine (HT.out _ HQ.out).mono ?_;rintro e w3 ⟨rfl,k⟩;have HR:=Lib.hid k;clear k HT)
 go_end0
 exact ⟨rfl,HR.out⟩
theorem pass_any (h:Mid W G0 b z mb mg w x v ws true n) (hl:1<(ws.length:Int)):Calls Tryz.prog 141 #[.pointer (some ⟨b,0,none⟩),.pointer (some ⟨mb,0,none⟩)] w fun e w'=>e=.returned (.tuple #[])∧Mid W G0 b z mb mg w' { x with part:=9 } { v with nx:=.nilFunc } (ws.set 1 (Md.Cv.passV x.tick)) false (up n):=by
 have hE:errA ws true 1=0:=errA_of (by omega) hl
 obtain ⟨f1,f2,f3,f4,_⟩:=Md.Cv.ok_facts hE
 have HD:=Lib.hid (Md.Ct.pass_any h.drew.mem 0 1 2 3 (3+x.b) (3+x.b+3*x.a) x.tick)
 unfold Md.Ct.plnV at HD
 obtain ⟨ws',hws⟩:∃ ws',ws.set 1 (Md.Cv.passV x.tick)=ws':=⟨_,rfl⟩
 rw [hE,f1,f2,f3,show ws.set (Int.toNat 1) (Md.Ct.passV x.tick)=ws' from hws] at HD
 rw [hws]
 have HM:Hid (∀ w',MemAt 95 w' mb mg ws' false (up n)→Chg mb mg w.drew w'→Mid W G0 b z mb mg w' x v ws' false (up n)):=fun w' k1 k2=>h.drew.memb k2 k1
 have HT:Hid (∀ w',Mid W G0 b z mb mg w' x v ws' false (up n)→Calls Tryz.prog 45 #[.pointer (some ⟨b,0,none⟩),.int .i64 9,.nilFunc] w' fun e w'=>e=.returned (.tuple #[])∧Mid W G0 b z mb mg w' { x with part:=9 } { v with nx:=.nilFunc } ws' false (up n)):=fun w' k=>turnTo_nil k 9 rfl
 obtain ⟨h0,h1,h2,h3,h4,h5⟩:=h.plan rfl rfl
 have h13:w.cell? ⟨b,13,none⟩=some (.int .u64 x.tick):=(h.cell 13).trans rfl
 have hb:=h.ltB
 have HPL:Hid (∀ w',Mid W G0 b z mb mg w' x v ws' false (up n)→(w'.cell? ⟨b,0,none⟩=some (.int .i64 0)∧w'.cell? ⟨b,1,none⟩=some (.int .i64 1)∧w'.cell? ⟨b,2,none⟩=some (.int .i64 2)∧w'.cell? ⟨b,3,none⟩=some (.int .i64 3)∧w'.cell? ⟨b,4,none⟩=some (.int .i64 (3+x.b))∧w'.cell? ⟨b,5,none⟩=some (.int .i64 (3+x.b+3*x.a)))∧w'.cell? ⟨b,13,none⟩=some (.int .u64 x.tick)):=fun w' k=>⟨k.plan rfl rfl,(k.cell 13).trans rfl⟩
 clear h f1 f2 f3 f4 hE hl hws
 generalize 3+x.b+3*x.a=p5 at *
 generalize 3+x.b=p4 at *
 go_enter Tryz.func141,Tryz.ntmps141
 go_wp2_with fail
 refine wp_region_seq (fun u=>(u.cell? ⟨b,0,none⟩=some (.int .i64 0)∧u.cell? ⟨b,1,none⟩=some (.int .i64 1)∧u.cell? ⟨b,2,none⟩=some (.int .i64 2)∧u.cell? ⟨b,3,none⟩=some (.int .i64 3)∧u.cell? ⟨b,4,none⟩=some (.int .i64 p4)∧u.cell? ⟨b,5,none⟩=some (.int .i64 p5))∧u.cell? ⟨b,13,none⟩=some (.int .u64 x.tick) )  ((0,true)::(1,true)::(2,true)::(3,true)::(4,true)::(5,true)::(6,true)::(7,true)::(8,true)::(9,false)::[])  Md.Cv.follows13 (by kernel_rfl) (fun _ _ _ _ _ h=>h)  ⟨⟨h0,h1,h2,h3,h4,h5⟩,h13⟩ ?_
 (repeat ((first | (refine wpSeq_take (v:=?_) rfl (by rfl) (fun wq hSq=>?_) ?_;rotate_left;(focus ((try dsimp only at hSq);go_simp;try with_reducible rfl))) | refine wpSeq_skip rfl (by rfl) ?_);simp only [Act.put,List.setIfInBounds_toArray,List.set_cons_zero,List.set_cons_succ]))
 (refine wpSeq_do rfl (by rfl) (fun KK hK=>?_);go_simp)
 refine HD.out.mono ?_
 rintro e w1 ⟨rfl,k1,k2⟩
 have HQ:=Lib.hid (HM.out _ k1 k2)
 have lb:=HQ.out.ltB
 clear k1 k2 HD HM
 refine hK.out _ _ (HPL.out _ HQ.out) ?_
 (clear hK KK;try simp only [Act.put,List.setIfInBounds_toArray,List.set_cons_zero,List.set_cons_succ])
 refine wpSeq_nil ?_
 go_wp2_with (go_at_call 45;refine (HT.out _ HQ.out).mono ?_;rintro e w2 ⟨rfl,k⟩;have HR:=Lib.hid k;clear k HT)
 go_end0
 exact ⟨rfl,HR.out⟩
end
end Go.Proofs.YteinilmecnlanabGreatDoor.Ww
namespace Go.Proofs.YteinilmecnlanabGreatDoor
open Go.ChangeShapes Go.WideShapes Go.ChangeAt Go.RowKit Num
attribute [local go_sem] run_store_float
theorem row_at {w:World} {p:Option Addr} {c n:Nat} {l:List Nat} (h:RowAt 64 w p c (fls l)) (hn:l.length=n) (i:Nat) (hi:i<n):∃ g,p=some ⟨g,0,none⟩∧g<w.heap.size∧w.cell? ⟨g,i,none⟩=some (.float .f64 (l.getD i 0)):=by
 rcases h.own.2 with ⟨hv,_⟩ | ⟨g,cap,cur,hv,_⟩
 ·injection hv with _ h2 _
  rw [fls_len] at h2
  omega
 ·injection hv with h1 _ _
  subst h1
  obtain ⟨r1,_,r2⟩:=row_get h (j:=i) (v:=.float .f64 (l.getD i 0)) (by simp [fls,show i<l.length by omega])
  exact ⟨g,rfl,r2,r1⟩
theorem trow_at {w:World} {p:Option Addr} {c n:Nat} {l:Wr} (h:TRow w p c l) (hn:l.length=n) (i:Nat) (hi:i<n):∃ g,p=some ⟨g,0,none⟩∧g<w.heap.size∧w.cell? ⟨g,i*2,none⟩=some (.int .i64 (l.getD i (0,0)).1)∧w.cell? ⟨g,i*2+1,none⟩=some (.float .f64 (l.getD i (0,0)).2):=by
 obtain ⟨g,r1,r2,r3,r4,_⟩:=h.at i (by omega)
 rw [show l.getD i (0,0)=l[i]'(by omega) by simp [show i<l.length by omega]]
 exact ⟨g,r1,r2,r3,r4⟩
end Go.Proofs.YteinilmecnlanabGreatDoor
namespace Go.Proofs.YteinilmecnlanabGreatDoor
open Go.ChangeShapes Go.WideShapes Go.ChangeAt Go.RowKit Num
section
variable {P:Program} {w:World}
theorem wp_append_ex {o:Oper} {a:Act} {K:Act→World→Prop} {Q:Exit→Act→World→Prop} (s x:Operand) (t tx:TypeId)
  (ho:o.op=.call { callee:=.builtin .append,args:=#[s,x],argTypes:=#[t,tx] }) (vs vx:Value) (hs:a.eval s=vs) (hx:a.eval x=vx) {R:Value→World→Prop}
  (hr:∃ v w',(Builtin.append_ #[t,tx] o.type #[vs,vx]).run P w=.ok v w'∧R v w') (h:∀ v w',R v w'→K (a.put o.dst v) w'):o.wp P a w K Q:=by
 obtain ⟨v,w',hr,hR⟩:=hr
 unfold Oper.wp execOp
 simp only [ho,resolve,invoke,builtin,Sem.run_bind,Sem.run_pure,Result.andThen_ok,List.map_toArray,List.map_cons,List.map_nil,hs,hx,hr]
 exact h v w' hR
theorem wpList_append_ex {ops:Array Oper} {rest:List Oper} {o:Oper} {a:Act} {Q:Exit→Act→World→Prop} (hgd:o.guard=none) (s x:Operand) (t tx:TypeId)
  (ho:o.op=.call { callee:=.builtin .append,args:=#[s,x],argTypes:=#[t,tx] }) (vs vx:Value) (hs:a.eval s=vs) (hx:a.eval x=vx) {R:Value→World→Prop}
  (hr:∃ v w',(Builtin.append_ #[t,tx] o.type #[vs,vx]).run P w=.ok v w'∧R v w') (h:∀ v w',R v w'→wpList P ops Q rest (a.put o.dst v) w'):wpList P ops Q (o::rest) a w :=
 wpList_plain hgd fun _ hK=>wp_append_ex s x t tx ho vs vx hs hx hr fun v w' hR=>hK _ _ (h v w' hR)
end
def Ro (w:World) (p:Option Addr) (vs:List Value):Prop:=(p=none∧vs=[])∨∃ g o,p=some ⟨g,o,none⟩∧w.rangeAt g o vs
theorem Ro.keep {w w':World} {p:Option Addr} {vs:List Value} (h:Ro w p vs) (k:Kept (fpR p) w w'):Ro w' p vs:=by
 rcases h with h | ⟨g,o,rfl,h⟩
 ·exact .inl h
 ·exact .inr ⟨g,o,rfl,fun j v hv=>(World.cell?_of_block (a:=⟨g,o+j,none⟩) (k.2 g (by simp [fpR]))).trans (h j v hv)⟩
theorem Ro.pre {w:World} {p:Option Addr} {vs us:List Value} (h:Ro w p (vs ++ us)):Ro w p vs:=by
 rcases h with ⟨h,e⟩ | ⟨g,o,rfl,h⟩
 ·exact .inl ⟨h,(List.append_eq_nil_iff.1 e).1⟩
 ·refine .inr ⟨g,o,rfl,fun j v hv=>h j v ?_⟩
  rw [List.getElem?_append_left (List.getElem?_eq_some_iff.1 hv).1]
  exact hv
theorem Ro.get {w:World} {p:Option Addr} {vs:List Value} (h:Ro w p vs) {j:Nat} {v:Value} (hv:vs[j]?=some v):∃ g o,p=some ⟨g,o,none⟩∧w.cell? ⟨g,o+j,none⟩=some v∧g<w.heap.size:=by
 rcases h with ⟨_,rfl⟩ | ⟨g,o,rfl,h⟩
 ·simp at hv
 ·exact ⟨g,o,rfl,h j v hv,World.block_lt_of_cell? w _ (h j v hv)⟩
theorem Ro.nil (w:World):Ro w none []:=.inl ⟨rfl,rfl⟩
theorem app_new {t e ty:TypeId} {i:TypeInfo} {z:Value} (ht:Tryz.prog.underlying t=some (.slice e)) (hi:Tryz.prog.info? e=some i) (hz:i.zero=some z) {w:World} {p:Option Addr} {vs news:List Value} {k n:Nat} {x:Value} (hr:Ro w p vs) (hl:vs.length=k*i.size) (hs:Src Tryz.prog i.size t x n news w) (hn:0<n) (hk:k+n≤4096) (hb:i.bytes≤64) :
  ∃ v w',(Builtin.append_ #[t,t] ty #[.slice p k k,x]).run Tryz.prog w=.ok v w'∧((∃ c,v=.slice (some ⟨w.heap.size,0,none⟩) (k+n) c∧k+n≤c)∧Ro w' (some ⟨w.heap.size,0,none⟩) (vs ++ news)∧Below w.heap.size w w'∧w.heap.size<w'.heap.size):=by
 have hold:(Builtin.firstCells i.size k (.slice p k k)).run Tryz.prog w.drew=.ok vs.toArray w.drew:=by
  rcases hr with ⟨rfl,rfl⟩ | ⟨g,o,rfl,h⟩
  ·exact run_firstCells_none _ _ _ _ _
  ·refine run_firstCells_some _ _ _ _ _ _ _ hl fun j v hv=>?_
   rw [Addr.add_mid]
   simpa using h j v hv
 refine ⟨_,_,run_append_grow_src w t t ty e i z ht hi hz p k k vs hold x n news hs (by omega) (by omega) (growslice_fits (by omega) (Nat.le_trans (Nat.mul_le_mul hk hb) (by decide))),⟨_,rfl,grownCap_ge _ _ _ _⟩,.inr ⟨_,_,rfl,fun j v hv=>?_⟩,?_,by simp⟩
 ·have hj:=(List.getElem?_eq_some_iff.1 hv).1
  refine (cell_of_row _ w.heap.size (0+j) _ _ _ (heap_new (w:=w.drew) (g:=w.heap.size) rfl)).trans ?_
  rw [Nat.zero_add,Array.getElem?_append_left (by simpa using hj)]
  simpa using hv
 ·exact ((Same.drew w).below _).trans (below_alloc w.drew _)
theorem app_none {t e ty:TypeId} {i:TypeInfo} (ht:Tryz.prog.underlying t=some (.slice e)) (hi:Tryz.prog.info? e=some i) {w:World} {g o k c:Nat}:(Builtin.append_ #[t,t] ty #[.slice (some ⟨g,o,none⟩) k k,.slice none 0 c]).run Tryz.prog w=.ok (.slice (some ⟨g,o,none⟩) k k) w:=by
 have:=run_append_room_src w t t ty e i ht hi g o k k (.slice none 0 c) 0 [] (Src.ofNil w ht c) (by omega) (fun j hj=>by simp at hj) (fun j hj=>by simp at hj)
 simpa [World.setCells] using this
def Rp.rows (q:Rp):List (Option Addr):=[q.pa,q.ps,q.pc,q.pt,q.pr,q.pb]
def Fr (br:Nat) (q:Rp):List Nat:=br::q.bl::q.rows.flatMap fpR
def fpK (q:Rp) (cs:List Ins):List Nat:=if cs=[] then [] else fpR q.pk
theorem CodeAt.keepK {w w':World} {q:Rp} {cs:List Ins} (h:CodeAt w q.pk cs) (k:Kept (fpK q cs) w w'):CodeAt w' q.pk cs:=by
 by_cases e:cs=[]
 ·subst e
  exact fun j hj=>absurd hj (by simp)
 ·unfold fpK at k
  rw [if_neg e] at k
  exact h.keep k
structure RefAt (w:World) (br:Nat) (q:Rp) (m:Mac) (cs:List Ins):Prop where
 box:w.heap[br]?=some (rbO m q)
 loc:RowAt 64 w (some ⟨q.bl,0,none⟩) q.cl (fls (eight m.loc))
 arg:Ro w q.pa (fls (eight m.args))
 st:Ro w q.ps (fls m.st.reverse)
 cal:Ro w q.pc (i64s m.calls.reverse)
 out:Ro w q.pt (fls m.out)
 rds:Ro w q.pr (m.reads.flatMap tchC)
 buf:Ro w q.pb (m.buf.flatMap tchC)
 cod:CodeAt w q.pk cs
 na:q.na=8
 nk:q.nk=cs.length
 bad:(q.bad=false∧m.code=cs)∨(q.bad=true∧m.code=[])
 tag:m.upd=(q.tg == 2)
 zc:m.how=0→m.cod=0
 ne:br≠q.bl
 ap:∀ p∈q.rows,br∉fpR p∧q.bl∉fpR p
 apk:br∉fpK q cs∧q.bl∉fpK q cs
 lt:Blw w (Fr br q)
 ltk:Blw w (fpK q cs)
 c1:m.st.length≤q.cs
 c2:m.calls.length≤q.cc
 c3:m.out.length≤q.ct
 c4:m.reads.length≤q.cr
 c5:m.buf.length≤q.cb
 nd:(cellsOfL m.buf).Nodup
section
variable {w w':World} {br:Nat} {q:Rp} {m:Mac} {cs:List Ins}
theorem RefAt.ltB (h:RefAt w br q m cs):br<w.heap.size:=lt_of_block h.box
theorem RefAt.cell (h:RefAt w br q m cs) (j:Nat):w.cell? ⟨br,j,none⟩=(rboxV m q)[j]?:=cell_of_row w br j _ _ _ h.box
theorem RefAt.free (h:RefAt w br q m cs) (j:Nat):w.frozen? ⟨br,j,none⟩=false:=frozen_of_row w br j _ _ h.box
theorem in_fr {p:Option Addr} (hp:p∈q.rows) {x:Nat} (hx:x∈fpR p):x∈Fr br q:=List.mem_cons_of_mem _ (List.mem_cons_of_mem _ (List.mem_flatMap.2 ⟨p,hp,hx⟩))
theorem RefAt.keep (h:RefAt w br q m cs) (k:Kept (Fr br q) w w') (k2:Kept (fpK q cs) w w'):RefAt w' br q m cs:=by
 have kk:∀ p∈q.rows,Kept (fpR p) w w':=fun p hp=>⟨k.1,fun i hi=>k.2 i (in_fr hp hi)⟩
 exact { h with
  box:=(k.2 br (by simp [Fr])).trans h.box
  loc:=h.loc.keep ⟨k.1,fun i hi=>k.2 i (by simp [fpR] at hi;subst hi;simp [Fr])⟩
  arg:=h.arg.keep (kk _ (by simp [Rp.rows]))
  st:=h.st.keep (kk _ (by simp [Rp.rows]))
  cal:=h.cal.keep (kk _ (by simp [Rp.rows]))
  out:=h.out.keep (kk _ (by simp [Rp.rows]))
  rds:=h.rds.keep (kk _ (by simp [Rp.rows]))
  buf:=h.buf.keep (kk _ (by simp [Rp.rows]))
  cod:=h.cod.keepK k2
  lt:=fun x hx=>Nat.lt_of_lt_of_le (h.lt x hx) k.1
  ltk:=fun x hx=>Nat.lt_of_lt_of_le (h.ltk x hx) k.1 }
theorem RefAt.on (h:RefAt w br q m cs) (k:Below w.heap.size w w'):RefAt w' br q m cs:=h.keep (kept_below k h.lt) (kept_below k h.ltk)
theorem RefAt.set (h:RefAt w br q m cs) (j:Nat) (v:Value) (m':Mac) (e:(rboxV m q).setIfInBounds j v=rboxV m' q) (e1:m'.st=m.st∧m'.calls=m.calls∧m'.buf=m.buf∧m'.out=m.out∧m'.reads=m.reads∧m'.code=m.code∧m'.args=m.args∧m'.loc=m.loc∧m'.upd=m.upd) (hz:m'.how=0→m'.cod=0):RefAt (w.setCell ⟨br,j,none⟩ v) br q m' cs:=by
 have t:=turn_set w br j v
 have kk:∀ p∈q.rows,Kept (fpR p) w (w.setCell ⟨br,j,none⟩ v):=fun p hp=>t.kept (fun x hx y=>by simp at y;subst y;exact (h.ap p hp).1 hx) (fun x hx=>h.lt x (in_fr hp hx))
 obtain ⟨f1,f2,f3,f4,f5,f6,f7,f8,f9⟩:=e1
 refine ⟨?_,?_,?_,?_,?_,?_,?_,?_,?_,h.na,h.nk,by rw [f6];exact h.bad,by rw [f9];exact h.tag,hz,h.ne,h.ap,h.apk,fun x hx=>Nat.lt_of_lt_of_le (h.lt x hx) t.size,fun x hx=>Nat.lt_of_lt_of_le (h.ltk x hx) t.size,by rw [f1];exact h.c1,by rw [f2];exact h.c2,by rw [f4];exact h.c3,by rw [f5];exact h.c4,by rw [f3];exact h.c5,by rw [f3];exact h.nd⟩
 ·have:=heap_setCell_same w br j _ _ v h.box
  rw [e] at this
  exact this
 ·rw [f8]
  exact h.loc.keep (t.kept (fun x hx y=>by simp [fpR] at hx y;exact h.ne (y.symm.trans hx)) h.loc.blw)
 ·rw [f7];exact h.arg.keep (kk _ (by simp [Rp.rows]))
 ·rw [f1];exact h.st.keep (kk _ (by simp [Rp.rows]))
 ·rw [f2];exact h.cal.keep (kk _ (by simp [Rp.rows]))
 ·rw [f4];exact h.out.keep (kk _ (by simp [Rp.rows]))
 ·rw [f5];exact h.rds.keep (kk _ (by simp [Rp.rows]))
 ·rw [f3];exact h.buf.keep (kk _ (by simp [Rp.rows]))
 ·exact h.cod.keepK (t.kept (fun x hx y=>by simp at y;subst y;exact h.apk.1 hx) h.ltk)
end
def Fits (w:World) (q:Rp) (p:Option Addr):Prop:=p∈q.rows∨∃ g,p=some ⟨g,0,none⟩∧w.heap.size≤g
theorem Fits.apart {w:World} {br:Nat} {q:Rp} {m:Mac} {cs:List Ins} {p:Option Addr} (h:Fits w q p) (hr:RefAt w br q m cs):br∉fpR p∧q.bl∉fpR p:=by
 rcases h with h | ⟨g,rfl,h⟩
 ·exact hr.ap p h
 ·have h1:=hr.ltB
  have h2:=hr.lt q.bl (by simp [Fr])
  constructor <;> (simp [fpR];omega)
def Rg (W:World) (F0:List Nat) (br bl:Nat) (K:List Nat) (w:World) (m:Mac) (cs:List Ins):Prop:=∃ q,RefAt w br q m cs∧(q.bl=bl∧fpK q cs=K)∧Turn [br,bl] [br,bl] W w∧∀ x∈Fr br q,x∈F0∨W.heap.size≤x
section
variable {W w w':World} {F0 K:List Nat} {br bl:Nat} {m:Mac} {cs:List Ins}
theorem Rg.ltB (h:Rg W F0 br bl K w m cs):br<w.heap.size:=by obtain ⟨q,h1,_⟩:=h;exact h1.ltB
theorem Rg.on (h:Rg W F0 br bl K w m cs) (k:Below w.heap.size w w'):Rg W F0 br bl K w' m cs:=by
 obtain ⟨q,h1,h2,h3,h4⟩:=h
 exact ⟨q,h1.on k,h2,h3.trans (Below.turn k _),h4⟩
theorem Rg.same (h:Rg W F0 br bl K w m cs) (k:Same w w'):Rg W F0 br bl K w' m cs:=h.on (k.below _)
theorem Rg.alloc (h:Rg W F0 br bl K w m cs) (x:Obj):Rg W F0 br bl K (w.alloc x) m cs:=h.on (below_alloc _ x)
theorem Rg.set (h:Rg W F0 br bl K w m cs) (j:Nat) (v:Value) (m':Mac) (e:∀ q,(rboxV m q).setIfInBounds j v=rboxV m' q) (e1:m'.st=m.st∧m'.calls=m.calls∧m'.buf=m.buf∧m'.out=m.out∧m'.reads=m.reads∧m'.code=m.code∧m'.args=m.args∧m'.loc=m.loc∧m'.upd=m.upd) (hz:(m.how=0→m.cod=0)→m'.how=0→m'.cod=0):Rg W F0 br bl K (w.setCell ⟨br,j,none⟩ v) m' cs:=by
 obtain ⟨q,h1,h2,h3,h4⟩:=h
 refine ⟨q,h1.set j v m' (e q) e1 (hz h1.zc),h2,h3.trans ?_,h4⟩
 exact (turn_set w br j v).wide (by simp)
theorem Rg.away (h:Rg W F0 br bl K w m cs) {N:World} (hN:Below w.heap.size w N):∃ F,Rg N F br bl K N m cs∧∀ u m',Rg N F br bl K u m' cs→(∀ g,w.heap.size≤g→g<N.heap.size→u.heap[g]?=N.heap[g]?)∧Rg W F0 br bl K u m' cs∧∀ g u',w.heap.size≤g→g<N.heap.size→Turn [g] [g] u u'→Rg W F0 br bl K u' m' cs:=by
 obtain ⟨q,h1,h2,h3,h4⟩:=h
 refine ⟨Fr br q,⟨q,h1.on hN,h2,Turn.refl _ _,fun x hx=>.inl hx⟩,fun u m' hu=>?_⟩
 obtain ⟨q',k1,k2,k3,k4⟩:=hu
 have hl1:=h1.ltB
 have hl2:bl<w.heap.size:=by rw [← h2.1];exact h1.lt _ (by simp [Fr])
 have hW:=h3.size
 have hs:=hN.size
 have tr:Turn [br,bl] [br,bl] W u:=h3.trans ((Below.turn hN _).trans k3)
 have hF:∀ x∈Fr br q',x∈F0∨W.heap.size≤x:=fun x hx=>(k4 x hx).elim (h4 x) (fun z=>.inr (by omega))
 refine ⟨fun g g1 g2=>k3.block g g2 (by simp;omega),⟨q',k1,k2,tr,hF⟩,fun g u' g1 g2 t=>⟨q',?_,k2,?_,hF⟩⟩
 ·refine k1.keep (t.kept (fun x hx z=>?_) k1.lt) (t.kept (fun x hx z=>?_) k1.ltk)
  ·simp at z
   subst z
   rcases k4 _ hx with y | y
   ·exact absurd (h1.lt _ y) (by omega)
   ·omega
  ·simp at z
   subst z
   rw [k2.2,← h2.2] at hx
   exact absurd (h1.ltk _ hx) (by omega)
 ·refine ⟨t.os.trans tr.os,t.tape.trans tr.tape,t.output.trans tr.output,Nat.le_trans tr.size t.size,fun k hk hn=>?_,fun k hk=>.inl hk⟩
  exact (t.block k (Nat.lt_of_lt_of_le hk tr.size) (by simp;omega)).trans (tr.block k hk hn)
end
end Go.Proofs.YteinilmecnlanabGreatDoor
namespace Go.Proofs.YteinilmecnlanabGreatDoor
open Go.ChangeShapes Go.WideShapes Go.ChangeAt Go.RowKit Num
attribute [local go_sem] run_store_float
theorem rone_any {op:Int} (hop:1≤op∧op≤8) {y:Nat} (hy:okN y) (w:World):Calls Tryz.prog 94 #[.int .i64 op,.float .f64 y] w fun e w'=>e=.returned (.tuple #[.float .f64 (oneV op y),.int .i64 0])∧Below w.heap.size w w':=by
 obtain ⟨k,rfl⟩:∃ k:Nat,op=k:=⟨op.toNat,by omega⟩
 unfold oneV
 rw [Int.toNat_natCast]
 match k,hop with
 | 1,_=>simpa only [List.getD_cons_succ,List.getD_cons_zero,Int.cast_ofNat_Int,Grw] using rone_1 y w hy.2
 | 2,_=>simpa only [List.getD_cons_succ,List.getD_cons_zero,Int.cast_ofNat_Int,Grw] using rone_2 y w hy.2
 | 3,_=>simpa only [List.getD_cons_succ,List.getD_cons_zero,Int.cast_ofNat_Int,Grw] using rone_3 y w
 | 4,_=>simpa only [List.getD_cons_succ,List.getD_cons_zero,Int.cast_ofNat_Int,Grw] using rone_4 y w
 | 5,_=>simpa only [List.getD_cons_succ,List.getD_cons_zero,Int.cast_ofNat_Int,Grw] using rone_5 y w
 | 6,_=>simpa only [List.getD_cons_succ,List.getD_cons_zero,Int.cast_ofNat_Int,Grw] using rone_6 y w
 | 7,_=>simpa only [List.getD_cons_succ,List.getD_cons_zero,Int.cast_ofNat_Int,Grw] using rone_7 y w
 | 8,_=>simpa only [List.getD_cons_succ,List.getD_cons_zero,Int.cast_ofNat_Int,Grw] using rone_8 y w hy.2
 | 0,h=>exact absurd h.1 (by decide)
 | n+9,h=>exact absurd h.2 (by omega)
theorem rtwo_any {op:Int} (hop:1≤op∧op≤12) {y z:Nat} (hy:okN y) (hz:okN z) (w:World):Calls Tryz.prog 95 #[.int .i64 op,.float .f64 y,.float .f64 z] w fun e w'=>e=.returned (.tuple #[.float .f64 (twoV op y z),.int .i64 0])∧Below w.heap.size w w':=by
 obtain ⟨k,rfl⟩:∃ k:Nat,op=k:=⟨op.toNat,by omega⟩
 unfold twoV
 rw [Int.toNat_natCast]
 match k,hop with
 | 1,_=>simpa only [List.getD_cons_succ,List.getD_cons_zero,Int.cast_ofNat_Int,Grw] using rtwo_1 y z w
 | 2,_=>simpa only [List.getD_cons_succ,List.getD_cons_zero,Int.cast_ofNat_Int,Grw] using rtwo_2 y z w
 | 3,_=>simpa only [List.getD_cons_succ,List.getD_cons_zero,Int.cast_ofNat_Int,Grw] using rtwo_3 y z w
 | 4,_=>simpa only [List.getD_cons_succ,List.getD_cons_zero,Int.cast_ofNat_Int,Grw] using rtwo_4 y z w
 | 5,_=>simpa only [List.getD_cons_succ,List.getD_cons_zero,Int.cast_ofNat_Int,Grw] using rtwo_5 y z w hy.2 hz.2
 | 6,_=>simpa only [List.getD_cons_succ,List.getD_cons_zero,Int.cast_ofNat_Int,Grw] using rtwo_6 y z w hy.2 hz.2
 | 7,_=>simpa only [List.getD_cons_succ,List.getD_cons_zero,Int.cast_ofNat_Int,Grw] using rtwo_7 y z w hy.2 hz.2
 | 8,_=>simpa only [List.getD_cons_succ,List.getD_cons_zero,Int.cast_ofNat_Int,Grw] using rtwo_8 y z w
 | 9,_=>simpa only [List.getD_cons_succ,List.getD_cons_zero,Int.cast_ofNat_Int,Grw] using rtwo_9 y z w
 | 10,_=>simpa only [List.getD_cons_succ,List.getD_cons_zero,Int.cast_ofNat_Int,Grw] using rtwo_10 y z w
 | 11,_=>simpa only [List.getD_cons_succ,List.getD_cons_zero,Int.cast_ofNat_Int,Grw] using rtwo_11 y z w
 | 12,_=>simpa only [List.getD_cons_succ,List.getD_cons_zero,Int.cast_ofNat_Int,Grw] using rtwo_12 y z w hy.2 hz.2
 | 0,h=>exact absurd h.1 (by decide)
 | n+13,h=>exact absurd h.2 (by omega)
theorem RefAt.re {w w3:World} {br:Nat} {q:Rp} {m:Mac} {cs:List Ins} (h:RefAt w br q m cs) (hb:Below w.heap.size w w3) (j:Nat) (v:Value) (q':Rp) (m':Mac) (e:(rboxV m q).setIfInBounds j v=rboxV m' q')
  (hq:q'.bl=q.bl∧q'.cl=q.cl∧q'.pk=q.pk∧q'.nk=q.nk∧q'.bad=q.bad∧q'.tg=q.tg∧q'.na=q.na∧q'.pa=q.pa) (hm:m'.loc=m.loc∧m'.args=m.args∧m'.code=m.code∧m'.upd=m.upd∧m'.how=m.how∧m'.cod=m.cod)
  (hrows:∀ p∈q'.rows,Fits w q p∧Blw w3 (fpR p)) (r1:Ro w3 q'.ps (fls m'.st.reverse)) (r2:Ro w3 q'.pc (i64s m'.calls.reverse)) (r3:Ro w3 q'.pt (fls m'.out)) (r4:Ro w3 q'.pr (m'.reads.flatMap tchC)) (r5:Ro w3 q'.pb (m'.buf.flatMap tchC))
  (k1:m'.st.length≤q'.cs) (k2:m'.calls.length≤q'.cc) (k3:m'.out.length≤q'.ct) (k4:m'.reads.length≤q'.cr) (k5:m'.buf.length≤q'.cb) (k6:(cellsOfL m'.buf).Nodup):RefAt (w3.setCell ⟨br,j,none⟩ v) br q' m' cs∧Turn [br,q.bl] [br,q.bl] w (w3.setCell ⟨br,j,none⟩ v):=by
 have h3:=h.on hb
 have t:=turn_set w3 br j v
 have ap:∀ p∈q'.rows,br∉fpR p∧q'.bl∉fpR p:=fun p hp=>by rw [hq.1];exact (hrows p hp).1.apart h
 have kk:∀ p∈q'.rows,Kept (fpR p) w3 (w3.setCell ⟨br,j,none⟩ v):=fun p hp=>t.kept (fun x hx y=>by simp at y;subst y;exact (ap p hp).1 hx) (hrows p hp).2
 obtain ⟨a1,a2,a3,a4,a5,a6,a7,a8⟩:=hq
 obtain ⟨b1,b2,b3,b4,b5,b6⟩:=hm
 refine ⟨⟨?_,?_,?_,r1.keep (kk _ (by simp [Rp.rows])),r2.keep (kk _ (by simp [Rp.rows])),r3.keep (kk _ (by simp [Rp.rows])),r4.keep (kk _ (by simp [Rp.rows])),r5.keep (kk _ (by simp [Rp.rows])),?_,by rw [a7];exact h.na,by rw [a4];exact h.nk,by rw [a5,b3];exact h.bad,by rw [b4,a6];exact h.tag,by rw [b5,b6];exact h.zc,by rw [a1];exact h.ne,ap,by unfold fpK;rw [a3,a1];exact h.apk,?_,by unfold fpK;rw [a3];exact fun x hx=>Nat.lt_of_lt_of_le (h3.ltk x hx) t.size,k1,k2,k3,k4,k5,k6⟩,(Below.turn hb _).trans (t.wide (by simp))⟩
 ·have:=heap_setCell_same w3 br j _ _ v h3.box
  rw [e] at this
  exact this
 ·rw [a1,a2,b1]
  exact h3.loc.keep (t.kept (fun x hx y=>by simp [fpR] at hx y;exact h.ne (y.symm.trans hx)) h3.loc.blw)
 ·rw [b2]
  have:=kk q'.pa (by simp [Rp.rows])
  rw [a8] at this ⊢
  exact h3.arg.keep this
 ·rw [a3]
  exact h3.cod.keepK (t.kept (fun x hx y=>by simp at y;subst y;exact h.apk.1 hx) h3.ltk)
 ·intro x hx
  refine Nat.lt_of_lt_of_le ?_ t.size
  simp only [Fr,List.mem_cons,List.mem_flatMap] at hx
  rcases hx with rfl | rfl | ⟨p,hp,hx⟩
  ·exact h3.ltB
  ·rw [a1];exact h3.lt _ (by simp [Fr])
  ·exact (hrows p hp).2 x hx
theorem fr_re {W w:World} {br:Nat} {q q':Rp} {F0:List Nat} (hs:W.heap.size≤w.heap.size) (hF:∀ x∈Fr br q,x∈F0∨W.heap.size≤x) (hbl:q'.bl=q.bl) (hrows:∀ p∈q'.rows,Fits w q p):∀ x∈Fr br q',x∈F0∨W.heap.size≤x:=fun x hx=>by
 simp only [Fr,List.mem_cons,List.mem_flatMap] at hx
 rcases hx with rfl | rfl | ⟨p,hp,hx⟩
 ·exact hF _ (by simp [Fr])
 ·rw [hbl];exact hF _ (by simp [Fr])
 ·rcases hrows p hp with h | ⟨g,rfl,h⟩
  ·exact hF x (in_fr h hx)
  ·simp [fpR] at hx
   subst hx
   exact .inr (Nat.le_trans hs h)
section
variable {W w:World} {br bl:Nat} {F0 K:List Nat} {m:Mac} {cs:List Ins}
theorem Rg.putS (h:Rg W F0 br bl K w m cs) {q:Rp} (hr:RefAt w br q m cs) (hq:∀ x∈Fr br q,x∈F0∨W.heap.size≤x) (hbl:q.bl=bl∧fpK q cs=K) {w3:World} (hb:Below w.heap.size w w3) {p:Option Addr} {s:List Nat} {c:Nat} (hp:Fits w q p) (hp2:Blw w3 (fpR p)) (ro:Ro w3 p (fls s.reverse)) (hc:s.length≤c):Rg W F0 br bl K (w3.setCell ⟨br,8,none⟩ (.slice p s.length c)) { m with st:=s } cs:=by
 obtain ⟨_,_,_,ht,_⟩:=h
 have h3:=hr.on hb
 have hrows:∀ x∈({ q with ps:=p,cs:=c }:Rp).rows,Fits w q x∧Blw w3 (fpR x):=fun x hx=>by
  simp only [Rp.rows,List.mem_cons,List.not_mem_nil,or_false] at hx
  rcases hx with rfl | rfl | rfl | rfl | rfl | rfl
  ·exact ⟨.inl (by simp [Rp.rows]),fun y hy=>h3.lt y (in_fr (by simp [Rp.rows]) hy)⟩
  ·exact ⟨hp,hp2⟩
  all_goals exact ⟨.inl (by simp [Rp.rows]),fun y hy=>h3.lt y (in_fr (by simp [Rp.rows]) hy)⟩
 obtain ⟨a1,a2⟩:=hr.re hb 8 (.slice p s.length c) { q with ps:=p,cs:=c } { m with st:=s } rfl ⟨rfl,rfl,rfl,rfl,rfl,rfl,rfl,rfl⟩ ⟨rfl,rfl,rfl,rfl,rfl,rfl⟩ hrows ro h3.cal h3.out h3.rds h3.buf hc hr.c2 hr.c3 hr.c4 hr.c5 hr.nd
 obtain ⟨rfl,rfl⟩:=hbl
 exact ⟨_,a1,⟨rfl,rfl⟩,ht.trans a2,fr_re ht.size hq rfl (fun x hx=>(hrows x hx).1)⟩
theorem Rg.putC (h:Rg W F0 br bl K w m cs) {q:Rp} (hr:RefAt w br q m cs) (hq:∀ x∈Fr br q,x∈F0∨W.heap.size≤x) (hbl:q.bl=bl∧fpK q cs=K) {w3:World} (hb:Below w.heap.size w w3) {p:Option Addr} {s:List Int} {c:Nat} (hp:Fits w q p) (hp2:Blw w3 (fpR p)) (ro:Ro w3 p (i64s s.reverse)) (hc:s.length≤c):Rg W F0 br bl K (w3.setCell ⟨br,9,none⟩ (.slice p s.length c)) { m with calls:=s } cs:=by
 obtain ⟨_,_,_,ht,_⟩:=h
 have h3:=hr.on hb
 have hrows:∀ x∈({ q with pc:=p,cc:=c }:Rp).rows,Fits w q x∧Blw w3 (fpR x):=fun x hx=>by
  simp only [Rp.rows,List.mem_cons,List.not_mem_nil,or_false] at hx
  rcases hx with rfl | rfl | rfl | rfl | rfl | rfl
  ·exact ⟨.inl (by simp [Rp.rows]),fun y hy=>h3.lt y (in_fr (by simp [Rp.rows]) hy)⟩
  ·exact ⟨.inl (by simp [Rp.rows]),fun y hy=>h3.lt y (in_fr (by simp [Rp.rows]) hy)⟩
  ·exact ⟨hp,hp2⟩
  all_goals exact ⟨.inl (by simp [Rp.rows]),fun y hy=>h3.lt y (in_fr (by simp [Rp.rows]) hy)⟩
 obtain ⟨a1,a2⟩:=hr.re hb 9 (.slice p s.length c) { q with pc:=p,cc:=c } { m with calls:=s } rfl ⟨rfl,rfl,rfl,rfl,rfl,rfl,rfl,rfl⟩ ⟨rfl,rfl,rfl,rfl,rfl,rfl⟩ hrows h3.st ro h3.out h3.rds h3.buf hr.c1 hc hr.c3 hr.c4 hr.c5 hr.nd
 obtain ⟨rfl,rfl⟩:=hbl
 exact ⟨_,a1,⟨rfl,rfl⟩,ht.trans a2,fr_re ht.size hq rfl (fun x hx=>(hrows x hx).1)⟩
theorem Rg.putT (h:Rg W F0 br bl K w m cs) {q:Rp} (hr:RefAt w br q m cs) (hq:∀ x∈Fr br q,x∈F0∨W.heap.size≤x) (hbl:q.bl=bl∧fpK q cs=K) {w3:World} (hb:Below w.heap.size w w3) {p:Option Addr} {s:List Nat} {c:Nat} (hp:Fits w q p) (hp2:Blw w3 (fpR p)) (ro:Ro w3 p (fls s)) (hc:s.length≤c):Rg W F0 br bl K (w3.setCell ⟨br,17,none⟩ (.slice p s.length c)) { m with out:=s } cs:=by
 obtain ⟨_,_,_,ht,_⟩:=h
 have h3:=hr.on hb
 have hrows:∀ x∈({ q with pt:=p,ct:=c }:Rp).rows,Fits w q x∧Blw w3 (fpR x):=fun x hx=>by
  simp only [Rp.rows,List.mem_cons,List.not_mem_nil,or_false] at hx
  rcases hx with rfl | rfl | rfl | rfl | rfl | rfl
  ·exact ⟨.inl (by simp [Rp.rows]),fun y hy=>h3.lt y (in_fr (by simp [Rp.rows]) hy)⟩
  ·exact ⟨.inl (by simp [Rp.rows]),fun y hy=>h3.lt y (in_fr (by simp [Rp.rows]) hy)⟩
  ·exact ⟨.inl (by simp [Rp.rows]),fun y hy=>h3.lt y (in_fr (by simp [Rp.rows]) hy)⟩
  ·exact ⟨hp,hp2⟩
  all_goals exact ⟨.inl (by simp [Rp.rows]),fun y hy=>h3.lt y (in_fr (by simp [Rp.rows]) hy)⟩
 obtain ⟨a1,a2⟩:=hr.re hb 17 (.slice p s.length c) { q with pt:=p,ct:=c } { m with out:=s } rfl ⟨rfl,rfl,rfl,rfl,rfl,rfl,rfl,rfl⟩ ⟨rfl,rfl,rfl,rfl,rfl,rfl⟩ hrows h3.st h3.cal ro h3.rds h3.buf hr.c1 hr.c2 hc hr.c4 hr.c5 hr.nd
 obtain ⟨rfl,rfl⟩:=hbl
 exact ⟨_,a1,⟨rfl,rfl⟩,ht.trans a2,fr_re ht.size hq rfl (fun x hx=>(hrows x hx).1)⟩
theorem Rg.putR (h:Rg W F0 br bl K w m cs) {q:Rp} (hr:RefAt w br q m cs) (hq:∀ x∈Fr br q,x∈F0∨W.heap.size≤x) (hbl:q.bl=bl∧fpK q cs=K) {w3:World} (hb:Below w.heap.size w w3) {p:Option Addr} {s:Wr} {c:Nat} (hp:Fits w q p) (hp2:Blw w3 (fpR p)) (ro:Ro w3 p (s.flatMap tchC)) (hc:s.length≤c):Rg W F0 br bl K (w3.setCell ⟨br,18,none⟩ (.slice p s.length c)) { m with reads:=s } cs:=by
 obtain ⟨_,_,_,ht,_⟩:=h
 have h3:=hr.on hb
 have hrows:∀ x∈({ q with pr:=p,cr:=c }:Rp).rows,Fits w q x∧Blw w3 (fpR x):=fun x hx=>by
  simp only [Rp.rows,List.mem_cons,List.not_mem_nil,or_false] at hx
  rcases hx with rfl | rfl | rfl | rfl | rfl | rfl
  ·exact ⟨.inl (by simp [Rp.rows]),fun y hy=>h3.lt y (in_fr (by simp [Rp.rows]) hy)⟩
  ·exact ⟨.inl (by simp [Rp.rows]),fun y hy=>h3.lt y (in_fr (by simp [Rp.rows]) hy)⟩
  ·exact ⟨.inl (by simp [Rp.rows]),fun y hy=>h3.lt y (in_fr (by simp [Rp.rows]) hy)⟩
  ·exact ⟨.inl (by simp [Rp.rows]),fun y hy=>h3.lt y (in_fr (by simp [Rp.rows]) hy)⟩
  ·exact ⟨hp,hp2⟩
  ·exact ⟨.inl (by simp [Rp.rows]),fun y hy=>h3.lt y (in_fr (by simp [Rp.rows]) hy)⟩
 obtain ⟨a1,a2⟩:=hr.re hb 18 (.slice p s.length c) { q with pr:=p,cr:=c } { m with reads:=s } rfl ⟨rfl,rfl,rfl,rfl,rfl,rfl,rfl,rfl⟩ ⟨rfl,rfl,rfl,rfl,rfl,rfl⟩ hrows h3.st h3.cal h3.out ro h3.buf hr.c1 hr.c2 hr.c3 hc hr.c5 hr.nd
 obtain ⟨rfl,rfl⟩:=hbl
 exact ⟨_,a1,⟨rfl,rfl⟩,ht.trans a2,fr_re ht.size hq rfl (fun x hx=>(hrows x hx).1)⟩
theorem Rg.putB (h:Rg W F0 br bl K w m cs) {q:Rp} (hr:RefAt w br q m cs) (hq:∀ x∈Fr br q,x∈F0∨W.heap.size≤x) (hbl:q.bl=bl∧fpK q cs=K) {w3:World} (hb:Below w.heap.size w w3) {p:Option Addr} {s:Wr} {c:Nat} (hp:Fits w q p) (hp2:Blw w3 (fpR p)) (ro:Ro w3 p (s.flatMap tchC)) (hc:s.length≤c) (hnd:(cellsOfL s).Nodup):Rg W F0 br bl K (w3.setCell ⟨br,19,none⟩ (.slice p s.length c)) { m with buf:=s } cs:=by
 obtain ⟨_,_,_,ht,_⟩:=h
 have h3:=hr.on hb
 have hrows:∀ x∈({ q with pb:=p,cb:=c }:Rp).rows,Fits w q x∧Blw w3 (fpR x):=fun x hx=>by
  simp only [Rp.rows,List.mem_cons,List.not_mem_nil,or_false] at hx
  rcases hx with rfl | rfl | rfl | rfl | rfl | rfl
  ·exact ⟨.inl (by simp [Rp.rows]),fun y hy=>h3.lt y (in_fr (by simp [Rp.rows]) hy)⟩
  ·exact ⟨.inl (by simp [Rp.rows]),fun y hy=>h3.lt y (in_fr (by simp [Rp.rows]) hy)⟩
  ·exact ⟨.inl (by simp [Rp.rows]),fun y hy=>h3.lt y (in_fr (by simp [Rp.rows]) hy)⟩
  ·exact ⟨.inl (by simp [Rp.rows]),fun y hy=>h3.lt y (in_fr (by simp [Rp.rows]) hy)⟩
  ·exact ⟨.inl (by simp [Rp.rows]),fun y hy=>h3.lt y (in_fr (by simp [Rp.rows]) hy)⟩
  ·exact ⟨hp,hp2⟩
 obtain ⟨a1,a2⟩:=hr.re hb 19 (.slice p s.length c) { q with pb:=p,cb:=c } { m with buf:=s } rfl ⟨rfl,rfl,rfl,rfl,rfl,rfl,rfl,rfl⟩ ⟨rfl,rfl,rfl,rfl,rfl,rfl⟩ hrows h3.st h3.cal h3.out h3.rds ro hr.c1 hr.c2 hr.c3 hr.c4 hc hnd
 obtain ⟨rfl,rfl⟩:=hbl
 exact ⟨_,a1,⟨rfl,rfl⟩,ht.trans a2,fr_re ht.size hq rfl (fun x hx=>(hrows x hx).1)⟩
theorem rfails_any (h:Rg W F0 br bl K w m cs) (e:Int):Calls Tryz.prog 73 #[.pointer (some ⟨br,0,none⟩),.int .i64 e] w fun r w'=>r=.returned (askV askEnd)∧Rg W F0 br bl K w' { m with how:=3,cod:=0,err:=e } cs:=by
 have hb:=h.ltB
 obtain ⟨q,hr,_,_,_⟩:=id h
 have h29:w.cell? ⟨br,14,none⟩=some (.int .i64 m.how):=(hr.cell 14).trans rfl
 have h30:w.cell? ⟨br,15,none⟩=some (.int .i64 m.cod):=(hr.cell 15).trans rfl
 have h31:w.cell? ⟨br,16,none⟩=some (.int .i64 m.err):=(hr.cell 16).trans rfl
 have f29:=hr.free 14
 have f30:=hr.free 15
 have f31:=hr.free 16
 clear hr
 have HD:Hid (Rg W F0 br bl K (((w.setCell ⟨br,14,none⟩ (.int .i64 3)).setCell ⟨br,15,none⟩ (.int .i64 0)).setCell ⟨br,16,none⟩ (.int .i64 e)) { m with how:=3,cod:=0,err:=e } cs):=by
  have g1:=h.set 14 (.int .i64 3) { m with how:=3 } (fun q=>rfl) ⟨rfl,rfl,rfl,rfl,rfl,rfl,rfl,rfl,rfl⟩ (fun _ z=>absurd z (by show ¬ (3:Int)=0;decide))
  have g2:=g1.set 15 (.int .i64 0) { m with how:=3,cod:=0 } (fun q=>rfl) ⟨rfl,rfl,rfl,rfl,rfl,rfl,rfl,rfl,rfl⟩ (fun _ _=>rfl)
  exact g2.set 16 (.int .i64 e) { m with how:=3,cod:=0,err:=e } (fun q=>rfl) ⟨rfl,rfl,rfl,rfl,rfl,rfl,rfl,rfl,rfl⟩ (fun _ _=>rfl)
 clear h
 go_enter Tryz.func73,Tryz.ntmps73
 go_wp2
 exact ask_back rfl w.heap.size askEnd rfl (heap_new (by simp)) rfl ⟨rfl,HD.out.alloc _⟩
theorem rtop_any (h:Rg W F0 br bl K w m cs) {k:Nat} (hk:k<m.st.length) (hs:m.st.length≤64):Calls Tryz.prog 93 #[.pointer (some ⟨br,0,none⟩),.int .i64 k] w fun r w'=>r=.returned (.float .f64 (m.st.getD k 0))∧∃ n,w'=w.drewN n:=by
 obtain ⟨q,hr,_,_,_⟩:=h
 have hb:=hr.ltB
 have h8:w.cell? ⟨br,8,none⟩=some (.slice q.ps m.st.length q.cs):=(hr.cell 8).trans rfl
 obtain ⟨g,o,hp,hc,hg⟩:=hr.st.get (j:=m.st.length - 1 - k) (v:=.float .f64 (m.st.getD k 0)) (by
  unfold fls
  rw [List.getElem?_map,rev_at m.st k hk]
  rfl)
 rw [hp] at h8
 clear hp hr
 obtain ⟨d,hd⟩:∃ d,m.st.length=d+1+k:=⟨m.st.length - 1 - k,by omega⟩
 rw [show m.st.length - 1 - k=d by omega] at hc
 rw [hd] at h8 hs
 generalize m.st.getD k 0=x at *
 clear hk hd
 go_enter Tryz.func93,Tryz.ntmps93
 go_wp2
 go_quiet (fail)
 go_wp2
 go_ret
 exact ⟨rfl,_,rfl⟩
end
end Go.Proofs.YteinilmecnlanabGreatDoor
namespace Go.Proofs.YteinilmecnlanabGreatDoor
open Go.ChangeShapes Go.WideShapes Go.ChangeAt Go.RowKit Num
attribute [local go_sem] run_store_float
theorem fls_app (a b:List Nat):fls (a ++ b)=fls a ++ fls b:=by unfold fls;rw [List.map_append]
section
variable {W w:World} {br bl:Nat} {F0 K:List Nat} {m:Mac} {cs:List Ins}
theorem rev_split (l:List Nat) (k:Nat):fls l.reverse=fls (l.drop k).reverse ++ fls (l.take k).reverse:=by
 rw [← fls_app,← List.reverse_append,List.take_append_drop]
theorem drop_len {l:List Nat} {r k:Nat} (h:l.length=r+k):(l.drop k).length=r:=by rw [List.length_drop];omega
theorem rtrade_none (h:Rg W F0 br bl K w m cs) {k r:Nat} (hk:m.st.length=r+k) (h0:0<k) (hs:m.st.length≤64):Calls Tryz.prog 76 #[.pointer (some ⟨br,0,none⟩),.int .i64 k,.slice none 0 0] w fun e w'=>e=.returned (.tuple #[])∧Rg W F0 br bl K w' { m with st:=m.st.drop k } cs:=by
 obtain ⟨q,hr,hbl,ht,hF⟩:=id h
 have hb:=hr.ltB
 have h8:w.cell? ⟨br,8,none⟩=some (.slice q.ps m.st.length q.cs):=(hr.cell 8).trans rfl
 have f8:=hr.free 8
 have hc1:=hr.c1
 rw [hk] at h8 hc1 hs
 obtain ⟨g,o,hp,_,_⟩:=hr.st.get (j:=0) (v:=.float .f64 (m.st.reverse.getD 0 0)) (by
  unfold fls
  rw [List.getElem?_map,List.getD_eq_getElem?_getD,List.getElem?_eq_getElem (by rw [List.length_reverse];omega)]
  rfl)
 rw [hp] at h8
 have HD:Hid (Rg W F0 br bl K (w.drew.setCell ⟨br,8,none⟩ (.slice (some ⟨g,o,none⟩) r r)) { m with st:=m.st.drop k } cs):=by
  have hro:=hr.st
  rw [rev_split m.st k] at hro
  have:=h.putS hr hF hbl (w3:=w.drew) ((Same.drew w).below _) (p:=q.ps) (s:=m.st.drop k) (c:=r) (.inl (by simp [Rp.rows])) (fun y hy=>hr.lt y (in_fr (by simp [Rp.rows]) hy)) (hro.pre.keep ((Same.drew w).kept _)) (by rw [drop_len hk];omega)
  rw [drop_len hk,hp] at this
  exact this
 obtain ⟨i0,hi,hz0,hz1,hz2⟩:=info_parts fInfo
 have HA:Hid (∀ (u:World) ty,∃ v u',(Builtin.append_ #[27,27] ty #[.slice (some ⟨g,o,none⟩) r r,.slice none 0 0]).run Tryz.prog u=.ok v u'∧(v=.slice (some ⟨g,o,none⟩) r r∧u'=u)):=fun u ty=>⟨_,_,app_none Tryz.underlying27 hi,rfl,rfl⟩
 clear hr hF hbl ht h hp hi hz0 hz1 hz2
 have hc1':(r:Int)≤(q.cs:Int):=by omega
 have hwr:IntKind.i64.wrap (r:Int)=r:=by rw [IntKind.wrap_i64];omega
 generalize q.cs=qc at *
 go_enter Tryz.func76,Tryz.ntmps76
 go_wp2
 refine wp_region_seqE (fun u=>u.cell? ⟨br,8,none⟩=some (.slice (some ⟨g,o,none⟩) (r+k) qc)) ((0,true)::(1,true)::(2,true)::(3,true)::(4,true)::(5,true)::(6,true)::(7,true)::(8,true)::(9,true)::(10,true)::(11,true)::(12,true)::(13,true)::(14,true)::(15,true)::(16,true)::(17,true)::(18,true)::(19,true)::(20,true)::(21,false)::(22,true)::(23,true)::(24,false)::[]) (by kernel_rfl) (by kernel_rfl) (fun _ _ _ _ _ h=>h) (by simpa using h8) ?_
 repeat (first
  | (refine wpSeqE_take (v:=?_) rfl (by rfl) (fun wq hSq=>?_) ?_;rotate_left;(focus ((try dsimp only at hSq);go_simp;try with_reducible rfl));simp only [Act.put,List.setIfInBounds_toArray,List.set_cons_zero,List.set_cons_succ]))
 refine wpSeqE_do rfl (by rfl) (fun K hK=>?_)
 refine wp_append_ex _ _ _ _ rfl _ _ rfl rfl (HA.out _ _) ?_
 rintro v w3 ⟨rfl,rfl⟩
 refine hK.out _ _ (fun _=>by simpa using h8) ?_
 clear hK K
 try simp only [Act.put,List.setIfInBounds_toArray,List.set_cons_zero,List.set_cons_succ]
 repeat (first
  | (refine wpSeqE_take (v:=?_) rfl (by rfl) (fun wq hSq=>?_) ?_;rotate_left;(focus ((try dsimp only at hSq);go_simp;try with_reducible rfl));simp only [Act.put,List.setIfInBounds_toArray,List.set_cons_zero,List.set_cons_succ]))
 refine wpSeqE_do rfl (by rfl) (fun K hK=>?_)
 go_simp
 refine hK.out _ _ (fun z=>absurd rfl z) ?_
 clear hK K
 refine wpSeqE_nil ?_
 go_wp2
 go_end0
 exact ⟨rfl,HD.out⟩
theorem rtrade_some (h:Rg W F0 br bl K w m cs) {k r n g0:Nat} {l:List Nat} (hk:m.st.length=r+k) (hl:l.length=n) (h0:0<n) (hn:n≤2) (hs:m.st.length≤64) (hc:w.rangeAt g0 0 (fls l)):Calls Tryz.prog 76 #[.pointer (some ⟨br,0,none⟩),.int .i64 k,.slice (some ⟨g0,0,none⟩) n n] w fun e w'=>e=.returned (.tuple #[])∧Rg W F0 br bl K w' { m with st:=l.reverse ++ m.st.drop k } cs:=by
 obtain ⟨q,hr,hbl,ht,hF⟩:=id h
 have hb:=hr.ltB
 have h8:w.cell? ⟨br,8,none⟩=some (.slice q.ps m.st.length q.cs):=(hr.cell 8).trans rfl
 have hc1:=hr.c1
 rw [hk] at h8 hc1 hs
 have hro:=hr.st
 rw [rev_split m.st k] at hro
 have hlen:(l.reverse ++ m.st.drop k).length=r+n:=by rw [List.length_append,List.length_reverse,drop_len hk,hl];omega
 have hrev:fls (l.reverse ++ m.st.drop k).reverse=fls (m.st.drop k).reverse ++ fls l:=by rw [List.reverse_append,List.reverse_reverse,fls_app]
 have HD:Hid (∀ w3 c,Below w.heap.size w w3→w.heap.size<w3.heap.size→Ro w3 (some ⟨w.heap.size,0,none⟩) (fls (m.st.drop k).reverse ++ fls l)→r+n≤c→Rg W F0 br bl K (w3.setCell ⟨br,8,none⟩ (.slice (some ⟨w.heap.size,0,none⟩) (r+n) c)) { m with st:=l.reverse ++ m.st.drop k } cs∧w3.cell? ⟨br,8,none⟩=some (.slice q.ps (r+k) q.cs)∧w3.frozen? ⟨br,8,none⟩=false∧br<w3.heap.size):=fun w3 c b1 b2 b3 b4=>by
  have h3:=hr.on b1
  refine ⟨?_,by rw [← hk];exact (h3.cell 8).trans rfl,h3.free 8,h3.ltB⟩
  have:=h.putS hr hF hbl b1 (p:=some ⟨w.heap.size,0,none⟩) (s:=l.reverse ++ m.st.drop k) (c:=c) (.inr ⟨_,rfl,Nat.le_refl _⟩) (fun y hy=>by simp [fpR] at hy;omega) (by rw [hrev];exact b3) (by omega)
  rw [hlen] at this
  exact this
 obtain ⟨i0,hi,hz0,hz1,hz2⟩:=info_parts fInfo
 have HA:Hid (∀ (u:World) ty,u.heap=w.heap→∃ v u',(Builtin.append_ #[27,27] ty #[.slice q.ps r r,.slice (some ⟨g0,0,none⟩) n n]).run Tryz.prog u=.ok v u'∧((∃ c,v=.slice (some ⟨u.heap.size,0,none⟩) (r+n) c∧r+n≤c)∧Ro u' (some ⟨u.heap.size,0,none⟩) (fls (m.st.drop k).reverse ++ fls l)∧Below u.heap.size u u'∧u.heap.size<u'.heap.size)):=fun u ty e=>by
  have hcell:∀ a,u.cell? a=w.cell? a:=fun a=>World.cell?_of_block (by rw [e])
  refine app_new Tryz.underlying27 hi hz0 (hro.pre.keep ⟨by rw [e];exact Nat.le_refl _,fun _ _=>by rw [e]⟩) (by rw [fls_len,List.length_reverse,drop_len hk,hz1,Nat.mul_one]) ?_ h0 (by omega) (by rw [hz2];omega)
  rw [hz1]
  refine Src.ofSlice u Tryz.underlying27 ⟨g0,0,none⟩ n n (fls l) (by rw [fls_len,hl,Nat.mul_one]) (fun j v hv=>?_) (fls_one l)
  rw [Addr.add_mid,hcell]
  exact hc j v hv
 have hpl:q.ps=none∧r+k=0∨∃ g o,q.ps=some ⟨g,o,none⟩:=by
  rcases hr.st with ⟨a1,a2⟩ | ⟨g,o,a1,_⟩
  ·refine .inl ⟨a1,?_⟩
   have:=congrArg List.length a2
   rw [fls_len,List.length_reverse,hk] at this
   simpa using this
  ·exact .inr ⟨g,o,a1⟩
 clear hr hF hbl ht h hi hz0 hz1 hz2 hro hlen hrev hc hl hk
 have hc1':(r:Int)≤(q.cs:Int):=by omega
 have hwr:IntKind.i64.wrap (r:Int)=r:=by rw [IntKind.wrap_i64];omega
 generalize q.cs=qc at *
 rcases hpl with ⟨hp,hz⟩ | ⟨g,o,hp⟩
 ·obtain rfl:r=0:=by omega
  obtain rfl:k=0:=by omega
  simp only [Nat.add_zero,Nat.zero_add,Int.cast_ofNat_Int] at h8 HD HA hc1' hwr ⊢
  rw [hp] at h8 HA HD
  clear hp
  go_enter Tryz.func76,Tryz.ntmps76
  go_wp2
  refine wp_region_seqE (fun u=>u.cell? ⟨br,8,none⟩=some (.slice none 0 qc)) ((0,true)::(1,true)::(2,true)::(3,true)::(4,true)::(5,true)::(6,true)::(7,true)::(8,true)::(9,true)::(10,true)::(11,true)::(12,true)::(13,true)::(14,true)::(15,true)::(16,true)::(17,true)::(18,true)::(19,true)::(20,true)::(21,false)::(22,true)::(23,true)::(24,false)::[]) (by kernel_rfl) (by kernel_rfl) (fun _ _ _ _ _ h=>h) (by simpa using h8) ?_
  repeat (first
   | (refine wpSeqE_take (v:=?_) rfl (by rfl) (fun wq hSq=>?_) ?_;rotate_left;(focus ((try dsimp only at hSq);go_simp;try with_reducible rfl));simp only [Act.put,List.setIfInBounds_toArray,List.set_cons_zero,List.set_cons_succ]))
  refine wpSeqE_do rfl (by rfl) (fun K hK=>?_)
  refine wp_append_ex _ _ _ _ rfl _ _ rfl rfl (HA.out _ _ (by rfl)) ?_
  rintro v w3 ⟨⟨c,rfl,z1⟩,z2,z3,z4⟩
  obtain ⟨z5,z6,z7,z8⟩:=HD.out w3 c (((Same.drew w).below _).trans z3) z4 z2 z1
  have HK:=Lib.hid z5
  clear z1 z2 z3 z4 z5
  refine hK.out _ _ (fun _=>z6) ?_
  clear hK K
  try simp only [Act.put,List.setIfInBounds_toArray,List.set_cons_zero,List.set_cons_succ]
  repeat (first
   | (refine wpSeqE_take (v:=?_) rfl (by rfl) (fun wq hSq=>?_) ?_;rotate_left;(focus ((try dsimp only at hSq);go_simp;try with_reducible rfl));simp only [Act.put,List.setIfInBounds_toArray,List.set_cons_zero,List.set_cons_succ]))
  refine wpSeqE_do rfl (by rfl) (fun K hK=>?_)
  go_simp
  refine hK.out _ _ (fun z=>absurd rfl z) ?_
  clear hK K
  refine wpSeqE_nil ?_
  go_wp2
  go_end0
  exact ⟨rfl,HK.out⟩
 ·rw [hp] at h8 HA HD
  clear hp
  go_enter Tryz.func76,Tryz.ntmps76
  go_wp2
  refine wp_region_seqE (fun u=>u.cell? ⟨br,8,none⟩=some (.slice (some ⟨g,o,none⟩) (r+k) qc)) ((0,true)::(1,true)::(2,true)::(3,true)::(4,true)::(5,true)::(6,true)::(7,true)::(8,true)::(9,true)::(10,true)::(11,true)::(12,true)::(13,true)::(14,true)::(15,true)::(16,true)::(17,true)::(18,true)::(19,true)::(20,true)::(21,false)::(22,true)::(23,true)::(24,false)::[]) (by kernel_rfl) (by kernel_rfl) (fun _ _ _ _ _ h=>h) (by simpa using h8) ?_
  repeat (first
   | (refine wpSeqE_take (v:=?_) rfl (by rfl) (fun wq hSq=>?_) ?_;rotate_left;(focus ((try dsimp only at hSq);go_simp;try with_reducible rfl));simp only [Act.put,List.setIfInBounds_toArray,List.set_cons_zero,List.set_cons_succ]))
  refine wpSeqE_do rfl (by rfl) (fun K hK=>?_)
  refine wp_append_ex _ _ _ _ rfl _ _ rfl rfl (HA.out _ _ (by rfl)) ?_
  rintro v w3 ⟨⟨c,rfl,z1⟩,z2,z3,z4⟩
  obtain ⟨z5,z6,z7,z8⟩:=HD.out w3 c (((Same.drew w).below _).trans z3) z4 z2 z1
  have HK:=Lib.hid z5
  clear z1 z2 z3 z4 z5
  refine hK.out _ _ (fun _=>z6) ?_
  clear hK K
  try simp only [Act.put,List.setIfInBounds_toArray,List.set_cons_zero,List.set_cons_succ]
  repeat (first
   | (refine wpSeqE_take (v:=?_) rfl (by rfl) (fun wq hSq=>?_) ?_;rotate_left;(focus ((try dsimp only at hSq);go_simp;try with_reducible rfl));simp only [Act.put,List.setIfInBounds_toArray,List.set_cons_zero,List.set_cons_succ]))
  refine wpSeqE_do rfl (by rfl) (fun K hK=>?_)
  go_simp
  refine hK.out _ _ (fun z=>absurd rfl z) ?_
  clear hK K
  refine wpSeqE_nil ?_
  go_wp2
  go_end0
  exact ⟨rfl,HK.out⟩
end
end Go.Proofs.YteinilmecnlanabGreatDoor
namespace Go.Proofs.YteinilmecnlanabGreatDoor
open Go.ChangeShapes Go.WideShapes Go.ChangeAt Go.RowKit Num
attribute [local go_sem] run_store_float
theorem insO_at {w u:World} {i:Ins} (h:Below (w.alloc (insO i)).heap.size (w.alloc (insO i)) u):u.cell? ⟨w.heap.size,0,none⟩=some (.int .i64 i.op)∧u.cell? ⟨w.heap.size,1,none⟩=some (.int .i64 i.n)∧u.cell? ⟨w.heap.size,2,none⟩=some (.float .f64 i.x)∧w.heap.size<u.heap.size :=
 cells3_of ((h.block w.heap.size (by simp)).trans (heap_alloc_new w _))
theorem shp_few {q:Nat} (h:q<21):(0≤(shp q).takes∧(shp q).takes≤2)∧0≤(shp q).lays∧(shp q).lays≤2:=by
 have:∀ k,k<21→(0≤(shp k).takes∧(shp k).takes≤2)∧0≤(shp k).lays∧(shp k).lays≤2:=by decide
 exact this q h
section
variable {W w:World} {br bl:Nat} {F0 K:List Nat} {m:Mac} {cs:List Ins}
theorem rroom_any (h:Rg W F0 br bl K w m cs) {k:Nat} {n:Int} {x:Nat} (hk:1≤k∧k<21) (hs:m.st.length≤64) (hd:m.calls.length≤16) (hn:0≤n∧n≤1023):Calls Tryz.prog 74 #[.pointer (some ⟨br,0,none⟩),insV ⟨k,n,x⟩] w fun e w'=>e=.returned (.bool (roomB m ⟨k,n,x⟩))∧Below w.heap.size w w':=by
 have HB:Hid (∀ u,Below (w.alloc (insO ⟨k,n,x⟩)).heap.size (w.alloc (insO ⟨k,n,x⟩)) u→u.cell? ⟨br,8,none⟩=(w.cell? ⟨br,8,none⟩)∧u.cell? ⟨br,9,none⟩=(w.cell? ⟨br,9,none⟩)∧br<u.heap.size∧Below w.heap.size w u):=fun u hb=>by
  have b1:Below w.heap.size w u:=(below_alloc w _).trans (hb.mono (by simp))
  have hlt:=h.ltB
  exact ⟨b1.cell (p:=⟨br,8,none⟩) hlt,b1.cell (p:=⟨br,9,none⟩) hlt,Nat.lt_of_lt_of_le hlt b1.size,b1⟩
 obtain ⟨q,hr,_,_,_⟩:=h
 have hb:=hr.ltB
 have h8:w.cell? ⟨br,8,none⟩=some (.slice q.ps m.st.length q.cs):=(hr.cell 8).trans rfl
 have h9:w.cell? ⟨br,9,none⟩=some (.slice q.pc m.calls.length q.cc):=(hr.cell 9).trans rfl
 clear hr
 rw [h8,h9] at HB
 have HE:=Lib.hid (refEffect_some k (w.alloc (insO ⟨k,n,x⟩)) hk.2 hk.1)
 have hsb:=shp_few hk.2
 have HRB:Hid (∀ a b c:Bool,decide (leastI ⟨k,n,x⟩≤(m.st.length:Int))=a→decide ((m.st.length:Int) - (shp k).takes+(shp k).lays≤64)=b→(decide ((k:Int)=14) && decide (16≤m.calls.length))=c→roomB m ⟨k,n,x⟩=(a && b && !c)):=fun a b c h1 h2 h3=>by subst h1 h2 h3;rfl
 have hle:(k=5∧leastI ⟨k,n,x⟩=n+1)∨(¬ k=5∧leastI ⟨k,n,x⟩=(shp k).takes):=by
  unfold leastI
  by_cases h5:k=5
  ·exact .inl ⟨h5,if_pos (by simp [h5])⟩
  ·exact .inr ⟨h5,if_neg (by simp;omega)⟩
 generalize leastI ⟨k,n,x⟩=le at HRB hle
 generalize (shp k).takes=tk at *
 generalize (shp k).lays=ly at *
 generalize m.st.length=sl at *
 generalize m.calls.length=dp at *
 have hsl:(sl:Int)≤64:=by omega
 clear h8 h9 hs
 rcases hle with ⟨rfl,rfl⟩ | ⟨h5,rfl⟩
 ·have HF:Hid ((decide (((5:Nat):Int)=14) && decide (16≤dp))=false):=by show _=_;simp
  by_cases ha:n+1≤(sl:Int)
  ·have HA:Hid (decide (n+1≤(sl:Int))=true):=decide_eq_true ha
   by_cases hc:(sl:Int) - tk+ly≤64
   ·have HC:Hid (decide ((sl:Int) - tk+ly≤64)=true):=decide_eq_true hc
    rw [HRB.out true true false HA.out HC.out HF.out]
    clear HRB HA HC HF
    unfold insV
    go_enter Tryz.func74,Tryz.ntmps74
    go_wp2_with (go_at_call 92;refine HE.out.mono ?_;rintro e u ⟨rfl,hu⟩;obtain ⟨c0,c1,c2,c3⟩:=insO_at hu;obtain ⟨d0,d1,d2,d3⟩:=HB.out _ hu;have HU:=Lib.hid d3;clear hu d3)
    go_ret
    exact ⟨rfl,HU.out⟩
   ·have HC:Hid (decide ((sl:Int) - tk+ly≤64)=false):=decide_eq_false hc
    have hcf:decide ((sl:Int) - tk+ly≤64)=false:=decide_eq_false hc
    rw [HRB.out true false false HA.out HC.out HF.out]
    clear HRB HA HC HF
    unfold insV
    go_enter Tryz.func74,Tryz.ntmps74
    go_wp2_with (go_at_call 92;refine HE.out.mono ?_;rintro e u ⟨rfl,hu⟩;obtain ⟨c0,c1,c2,c3⟩:=insO_at hu;obtain ⟨d0,d1,d2,d3⟩:=HB.out _ hu;have HU:=Lib.hid d3;clear hu d3)
    go_ret
    exact ⟨rfl,HU.out⟩
  ·have HA:Hid (decide (n+1≤(sl:Int))=false):=decide_eq_false ha
   have haf:decide (n+1≤(sl:Int))=false:=decide_eq_false ha
   have HC:Hid (decide ((sl:Int) - tk+ly≤64)=decide ((sl:Int) - tk+ly≤64)):=rfl
   rw [HRB.out false _ false HA.out HC.out HF.out]
   clear HRB HA HC HF
   unfold insV
   go_enter Tryz.func74,Tryz.ntmps74
   go_wp2_with (go_at_call 92;refine HE.out.mono ?_;rintro e u ⟨rfl,hu⟩;obtain ⟨c0,c1,c2,c3⟩:=insO_at hu;obtain ⟨d0,d1,d2,d3⟩:=HB.out _ hu;have HU:=Lib.hid d3;clear hu d3)
   go_ret
   exact ⟨rfl,HU.out⟩
 ·have h5':¬ (k:Int)=5:=by omega
  by_cases h14:k=14
  ·subst h14
   by_cases hd16:dp=16
   ·have HF:Hid ((decide (((14:Nat):Int)=14) && decide (16≤dp))=true):=by show _=_;simp;omega
    subst hd16
    have HA:Hid (decide (le≤(sl:Int))=decide (le≤(sl:Int))):=rfl
    have HC:Hid (decide ((sl:Int) - le+ly≤64)=decide ((sl:Int) - le+ly≤64)):=rfl
    rw [HRB.out _ _ true HA.out HC.out HF.out,Bool.not_true,Bool.and_false]
    clear HRB HA HC HF
    unfold insV
    go_enter Tryz.func74,Tryz.ntmps74
    go_wp2_with (go_at_call 92;refine HE.out.mono ?_;rintro e u ⟨rfl,hu⟩;obtain ⟨c0,c1,c2,c3⟩:=insO_at hu;obtain ⟨d0,d1,d2,d3⟩:=HB.out _ hu;have HU:=Lib.hid d3;clear hu d3)
    go_ret
    exact ⟨rfl,HU.out⟩
   ·have HF:Hid ((decide (((14:Nat):Int)=14) && decide (16≤dp))=false):=by show _=_;simp;omega
    have hdi:¬ (dp:Int)=16:=by omega
    by_cases ha:le≤(sl:Int)
    ·have HA:Hid (decide (le≤(sl:Int))=true):=decide_eq_true ha
     by_cases hc:(sl:Int) - le+ly≤64
     ·have HC:Hid (decide ((sl:Int) - le+ly≤64)=true):=decide_eq_true hc
      rw [HRB.out true true false HA.out HC.out HF.out]
      clear HRB HA HC HF
      unfold insV
      go_enter Tryz.func74,Tryz.ntmps74
      go_wp2_with (go_at_call 92;refine HE.out.mono ?_;rintro e u ⟨rfl,hu⟩;obtain ⟨c0,c1,c2,c3⟩:=insO_at hu;obtain ⟨d0,d1,d2,d3⟩:=HB.out _ hu;have HU:=Lib.hid d3;clear hu d3)
      go_ret
      exact ⟨rfl,HU.out⟩
     ·have HC:Hid (decide ((sl:Int) - le+ly≤64)=false):=decide_eq_false hc
      have hcf:decide ((sl:Int) - le+ly≤64)=false:=decide_eq_false hc
      rw [HRB.out true false false HA.out HC.out HF.out]
      clear HRB HA HC HF
      unfold insV
      go_enter Tryz.func74,Tryz.ntmps74
      go_wp2_with (go_at_call 92;refine HE.out.mono ?_;rintro e u ⟨rfl,hu⟩;obtain ⟨c0,c1,c2,c3⟩:=insO_at hu;obtain ⟨d0,d1,d2,d3⟩:=HB.out _ hu;have HU:=Lib.hid d3;clear hu d3)
      go_ret
      exact ⟨rfl,HU.out⟩
    ·have HA:Hid (decide (le≤(sl:Int))=false):=decide_eq_false ha
     have haf:decide (le≤(sl:Int))=false:=decide_eq_false ha
     have HC:Hid (decide ((sl:Int) - le+ly≤64)=decide ((sl:Int) - le+ly≤64)):=rfl
     rw [HRB.out false _ false HA.out HC.out HF.out]
     clear HRB HA HC HF
     unfold insV
     go_enter Tryz.func74,Tryz.ntmps74
     go_wp2_with (go_at_call 92;refine HE.out.mono ?_;rintro e u ⟨rfl,hu⟩;obtain ⟨c0,c1,c2,c3⟩:=insO_at hu;obtain ⟨d0,d1,d2,d3⟩:=HB.out _ hu;have HU:=Lib.hid d3;clear hu d3)
     go_ret
     exact ⟨rfl,HU.out⟩
  ·have h14':¬ (k:Int)=14:=by omega
   have HF:Hid ((decide ((k:Int)=14) && decide (16≤dp))=false):=by show _=_;simp [h14']
   by_cases ha:le≤(sl:Int)
   ·have HA:Hid (decide (le≤(sl:Int))=true):=decide_eq_true ha
    by_cases hc:(sl:Int) - le+ly≤64
    ·have HC:Hid (decide ((sl:Int) - le+ly≤64)=true):=decide_eq_true hc
     rw [HRB.out true true false HA.out HC.out HF.out]
     clear HRB HA HC HF
     unfold insV
     go_enter Tryz.func74,Tryz.ntmps74
     go_wp2_with (go_at_call 92;refine HE.out.mono ?_;rintro e u ⟨rfl,hu⟩;obtain ⟨c0,c1,c2,c3⟩:=insO_at hu;obtain ⟨d0,d1,d2,d3⟩:=HB.out _ hu;have HU:=Lib.hid d3;clear hu d3)
     go_ret
     exact ⟨rfl,HU.out⟩
    ·have HC:Hid (decide ((sl:Int) - le+ly≤64)=false):=decide_eq_false hc
     have hcf:decide ((sl:Int) - le+ly≤64)=false:=decide_eq_false hc
     rw [HRB.out true false false HA.out HC.out HF.out]
     clear HRB HA HC HF
     unfold insV
     go_enter Tryz.func74,Tryz.ntmps74
     go_wp2_with (go_at_call 92;refine HE.out.mono ?_;rintro e u ⟨rfl,hu⟩;obtain ⟨c0,c1,c2,c3⟩:=insO_at hu;obtain ⟨d0,d1,d2,d3⟩:=HB.out _ hu;have HU:=Lib.hid d3;clear hu d3)
     go_ret
     exact ⟨rfl,HU.out⟩
   ·have HA:Hid (decide (le≤(sl:Int))=false):=decide_eq_false ha
    have haf:decide (le≤(sl:Int))=false:=decide_eq_false ha
    have HC:Hid (decide ((sl:Int) - le+ly≤64)=decide ((sl:Int) - le+ly≤64)):=rfl
    rw [HRB.out false _ false HA.out HC.out HF.out]
    clear HRB HA HC HF
    unfold insV
    go_enter Tryz.func74,Tryz.ntmps74
    go_wp2_with (go_at_call 92;refine HE.out.mono ?_;rintro e u ⟨rfl,hu⟩;obtain ⟨c0,c1,c2,c3⟩:=insO_at hu;obtain ⟨d0,d1,d2,d3⟩:=HB.out _ hu;have HU:=Lib.hid d3;clear hu d3)
    go_ret
    exact ⟨rfl,HU.out⟩
end
end Go.Proofs.YteinilmecnlanabGreatDoor
namespace Go.Proofs.YteinilmecnlanabGreatDoor
open Go.ChangeShapes Go.WideShapes Go.ChangeAt Go.RowKit Num
attribute [local go_sem] run_store_float
theorem tch_at:∀ (l:Wr) {k:Nat},k<l.length→(l.flatMap tchC)[k*2]?=some (.int .i64 (l.getD k (0,0)).1)∧(l.flatMap tchC)[k*2+1]?=some (.float .f64 (l.getD k (0,0)).2)
 | [],k,h=>by simp at h
 | a::l,0,_=>⟨rfl,rfl⟩
 | a::l,k+1,h=>by
  obtain ⟨h1,h2⟩:=tch_at l (k:=k) (by simpa using h)
  have e:∀ j,((a::l).flatMap tchC)[j+2]?=(l.flatMap tchC)[j]?:=fun j=>by
   rw [List.flatMap_cons]
   rfl
  rw [show (k+1)*2=k*2+2 by omega,show k*2+2+1=k*2+1+2 by omega,e,e]
  simpa using ⟨h1,h2⟩
def wroteV (l:Wr) (d:Int):Nat:=if hasC l d then getC l d else 0
section
variable {W w:World} {br bl:Nat} {F0 K:List Nat} {m:Mac} {cs:List Ins}
theorem rwrote_any (h:Rg W F0 br bl K w m cs) (d:Int) (hl:m.buf.length≤32):Calls Tryz.prog 122 #[.pointer (some ⟨br,0,none⟩),.int .i64 d] w fun e w'=>e=.returned (.tuple #[.float .f64 (wroteV m.buf d),.bool (hasC m.buf d)])∧Below w.heap.size w w':=by
 obtain ⟨q,hr,_,_,_⟩:=h
 have hb:=hr.ltB
 have h19:w.cell? ⟨br,19,none⟩=some (.slice q.pb m.buf.length q.cb):=(hr.cell 19).trans rfl
 have HRO:=Lib.hid hr.buf
 clear hr
 obtain ⟨n,hn⟩:∃ n,m.buf.length=n:=⟨_,rfl⟩
 rw [hn] at h19 hl
 generalize m.buf=l at *
 have HN:=Lib.hid hn
 have hil:idx l d≤n:=by rw [← hn];exact idx_le l d
 clear hn
 go_enter Tryz.func122,Tryz.ntmps122
 go_wp2
 go_loopw [7,13] (fun _ vi wr=>∃ k:Nat,vi=.int .i64 k∧k≤n∧k≤idx l d∧Hid (Below w.heap.size w wr)) (fun _ vi _=>n - (intOf vi).toNat)
 case atStart=>exact ⟨0,rfl,by omega,by omega,Below.refl _ _⟩
 case round =>
  obtain ⟨k,rfl,hk,hki,HB⟩:=hrel
  by_cases hkn:k<n
  ·have hkn':(k:Int)<(n:Int):=by omega
   obtain ⟨a1,a2⟩:=tch_at l (k:=k) (by rw [HN.out];exact hkn)
   obtain ⟨g,o,hp,c0,hg⟩:=HRO.out.get a1
   obtain ⟨g',o',hp',c1,_⟩:=HRO.out.get a2
   rw [hp] at hp'
   cases hp'
   rw [← HB.out.cell (p:=⟨g,o+k*2,none⟩) hg] at c0
   rw [← HB.out.cell (p:=⟨g,o+(k*2+1),none⟩) hg,← Nat.add_assoc] at c1
   have hg':g<wr.heap.size:=Nat.lt_of_lt_of_le hg HB.out.size
   rw [hp]
   have HF:Hid (k<l.length):=by show k<l.length;rw [HN.out];exact hkn
   have HGC:Hid ((l.getD k (0,0)).1=d→k=idx l d∧wroteV l d=(l.getD k (0,0)).2∧hasC l d=true):=fun e=>by
    have hge:l.getD k (0,0)=l[k]'HF.out:=by rw [List.getD_eq_getElem?_getD,List.getElem?_eq_getElem HF.out];rfl
    have hk1:k=idx l d:=by
     rcases Nat.lt_or_ge k (idx l d) with z | z
     ·exact absurd (hge ▸ e) (idx_not z HF.out)
     ·omega
    have hh:hasC l d=true:=by unfold hasC;rw [← hk1];exact decide_eq_true HF.out
    refine ⟨hk1,?_,hh⟩
    unfold wroteV getC
    rw [if_pos hh,← hk1]
   have HGN:Hid (¬ (l.getD k (0,0)).1=d→k+1≤idx l d):=fun e=>by
    rcases Nat.lt_or_ge k (idx l d) with z | z
    ·exact z
    ·have hk1:k=idx l d:=by omega
     have:=idx_at (l:=l) (c:=d) (by rw [← hk1];exact HF.out)
     refine absurd ?_ e
     rw [List.getD_eq_getElem?_getD,List.getElem?_eq_getElem HF.out]
     simp only [hk1]
     exact this
   generalize (l.getD k (0,0)).1=tc at *
   generalize (l.getD k (0,0)).2=tx at *
   clear a1 a2 hp hg
   by_cases htc:tc=d
   ·have HZ:=Lib.hid (HGC.out htc).2
    subst htc
    clear HGC HGN
    go_wp2
    go_ret2
    refine ⟨by rw [HZ.out.1,HZ.out.2];rfl,HB.out.alloc HB.out.size _⟩
   ·have hki':=HGN.out htc
    clear HGC HGN
    go_wp2
    exact ⟨⟨k+1,by first | rfl | (congr 1),by omega,hki',HB.out.alloc HB.out.size _⟩,by simp [intOf];omega⟩
  ·have hkn':¬ (k:Int)<(n:Int):=by omega
   have HZ:Hid (wroteV l d=0∧hasC l d=false):=by
    have:hasC l d=false:=by unfold hasC;rw [HN.out];exact decide_eq_false (by omega)
    refine ⟨?_,this⟩
    unfold wroteV
    rw [this]
    rfl
   go_wp2
   go_ret2
   exact ⟨by rw [HZ.out.1,HZ.out.2];rfl,HB.out⟩
theorem Rg.top (h:Rg W F0 br bl K w m cs) {k:Nat} (hk:k<m.st.length) (hs:m.st.length≤64):∀ n,Calls Tryz.prog 93 #[.pointer (some ⟨br,0,none⟩),.int .i64 k] (w.drewN n) fun e w'=>e=.returned (.float .f64 (m.st.getD k 0))∧∃ q,w'=w.drewN q:=fun n=>(rtop_any (h.same (Same.drewN w n)) hk hs).mono fun e w' ⟨he,q,hq⟩=>⟨he,n+q,by rw [hq,World.drewN_drewN]⟩
theorem Rg.addr (h:Rg W F0 br bl K w m cs) {y:Nat} {s:List Nat} (hs:m.st=y::s) (hs2:m.st.length≤64):∀ n,Calls Tryz.prog 93 #[.pointer (some ⟨br,0,none⟩),.int .i64 0] (w.drewN n) fun e w'=>e=.returned (.float .f64 y)∧∃ q,w'=w.drewN q:=by
 have:=h.top (k:=0) (by rw [hs];simp) hs2
 rw [hs] at this
 exact this
theorem Rg.at0 (h:Rg W F0 br bl K w m cs):w.cell? ⟨br,0,none⟩=some (.int .i64 m.cells)∧br<w.heap.size:=by
 obtain ⟨q,hr,_,_,_⟩:=h
 exact ⟨(hr.cell 0).trans rfl,hr.ltB⟩
theorem Rg.leave (h:Rg W F0 br bl K w m cs) (o:Obj):∃ F,Rg (w.alloc o) F br bl K (w.alloc o) m cs∧∀ u m',Rg (w.alloc o) F br bl K u m' cs→u.heap[w.heap.size]?=some o∧∀ u',Turn [w.heap.size] [w.heap.size] u u'→Rg W F0 br bl K u' m' cs:=by
 obtain ⟨F,h1,h2⟩:=h.away (below_alloc w o)
 refine ⟨F,h1,fun u m' hu=>?_⟩
 obtain ⟨a1,_,a3⟩:=h2 u m' hu
 exact ⟨(a1 _ (Nat.le_refl _) (by simp)).trans (heap_alloc_new w o),fun u' t=>a3 _ u' (Nat.le_refl _) (by simp) t⟩
theorem rread_no (h:Rg W F0 br bl K w m cs) {y:Nat} {s:List Nat} (hs:m.st=y::s) (hs2:m.st.length≤64) (ho:y<18446744073709551616) (ha:addrB m=false):Calls Tryz.prog 97 #[.pointer (some ⟨br,0,none⟩)] w fun r w'=>r=.returned (askV askEnd)∧Rg W F0 br bl K w' (failM m 50).1 cs:=by
 obtain ⟨h0,hb⟩:=h.at0
 obtain ⟨F,h1,hX⟩:=h.leave (askO ask0)
 have HX:=Lib.hid hX
 have HT:=Lib.hid (h1.addr hs hs2)
 have HI:=Lib.hid (fun w=>refIndex_any y m.cells w ho)
 have ha':idxB y m.cells=false:=by unfold addrB at ha;rw [hs] at ha;exact ha
 unfold idxV idxE at HI
 rw [ha'] at HI
 have HFA:Hid (∀ n,Calls Tryz.prog 73 #[.pointer (some ⟨br,0,none⟩),.int .i64 50] ((w.alloc (askO ask0)).drewN n) fun r w'=>r=.returned (askV askEnd)∧Rg (w.alloc (askO ask0)) F br bl K w' (failM m 50).1 cs):=fun n=>rfails_any (h1.same (Same.drewN _ n)) 50
 clear h h1 hX ha ha' ho hs hs2
 generalize m.cells=z at *
 go_enter Tryz.func97,Tryz.ntmps97
 go_wp2
 go_quiet (first
  | (go_at_call 93;exact HT.out _)
  | (go_at_call 121;exact Calls.quiet_of_same (HI.out _)))
 go_wp2_with (go_at_call 73;refine (HFA.out _).mono ?_;rintro e u1 ⟨rfl,q⟩;obtain ⟨r1,r2⟩:=HX.out _ _ q;obtain ⟨⟨c0,c1,c2,c3,c4⟩,d0,d1,d2,d3⟩:=askO_cells r1;have G1:=Lib.hid (And.intro r1 r2);clear q r1 r2;unfold askV)
 exact ask_back rfl w.heap.size askEnd rfl (askO_set G1.out.1) rfl ⟨rfl,G1.out.2 _ (turn4 _ _ _ _ _ _)⟩
theorem Rg.waits (h:Rg W F0 br bl K w m cs) (c:Int):Rg W F0 br bl K (w.setCell ⟨br,13,none⟩ (.int .i64 c)) { m with wait:=c } cs∧w.cell? ⟨br,13,none⟩=some (.int .i64 m.wait)∧w.frozen? ⟨br,13,none⟩=false:=by
 obtain ⟨q,hr,_,_,_⟩:=id h
 exact ⟨h.set 13 (.int .i64 c) { m with wait:=c } (fun q=>rfl) ⟨rfl,rfl,rfl,rfl,rfl,rfl,rfl,rfl,rfl⟩ id,(hr.cell 13).trans rfl,hr.free 13⟩
theorem rread_wait (h:Rg W F0 br bl K w m cs) {y:Nat} {s:List Nat} (hs:m.st=y::s) (hs2:m.st.length≤64) (ho:y<18446744073709551616) (hl:m.buf.length≤32) (ha:addrB m=true) (hh:hasC m.buf (addrV m)=false):Calls Tryz.prog 97 #[.pointer (some ⟨br,0,none⟩)] w fun r w'=>r=.returned (askV (askRead (addrV m)))∧Rg W F0 br bl K w' { m with st:=s,wait:=addrV m } cs:=by
 obtain ⟨h0,hb⟩:=h.at0
 obtain ⟨F,h1,hX⟩:=h.leave (askO ask0)
 have HX:=Lib.hid hX
 have HT:=Lib.hid (h1.addr hs hs2)
 have HI:=Lib.hid (fun w=>refIndex_any y m.cells w ho)
 have hc:addrV m=idxV y m.cells:=by unfold addrV;rw [hs];rfl
 have ha':idxE y m.cells=0:=by unfold addrB at ha;rw [hs] at ha;unfold idxE;exact if_pos ha
 rw [← hc,ha'] at HI
 have HW:Hid (∀ n,Calls Tryz.prog 122 #[.pointer (some ⟨br,0,none⟩),.int .i64 (addrV m)] ((w.alloc (askO ask0)).drewN n) fun e w'=>e=.returned (.tuple #[.float .f64 (wroteV m.buf (addrV m)),.bool false])∧Rg (w.alloc (askO ask0)) F br bl K w' m cs):=fun n=>by
  have k1:=h1.same (Same.drewN _ n)
  refine (rwrote_any k1 (addrV m) hl).mono fun e u ⟨a1,a2⟩=>⟨by rw [a1,hh],k1.on a2⟩
 have HTR:Hid (∀ u,Rg (w.alloc (askO ask0)) F br bl K u m cs→Calls Tryz.prog 76 #[.pointer (some ⟨br,0,none⟩),.int .i64 1,.slice none 0 0] u fun e w'=>e=.returned (.tuple #[])∧Rg (w.alloc (askO ask0)) F br bl K w' { m with st:=s } cs):=fun u hu=>by
  have:=rtrade_none hu (k:=1) (r:=s.length) (by rw [hs];simp) (by omega) hs2
  rw [show m.st.drop 1=s by rw [hs];rfl] at this
  exact this
 clear h h1 hX ha ha' ho hs hs2 hc hh hl
 generalize wroteV m.buf (addrV m)=wv at *
 generalize addrV m=c at *
 generalize hz:m.cells=z at *
 go_enter Tryz.func97,Tryz.ntmps97
 go_wp2
 go_quiet (first
  | (go_at_call 93;exact HT.out _)
  | (go_at_call 121;exact Calls.quiet_of_same (HI.out _)))
 go_wp2_with (first
  | (go_at_call 76;refine (HTR.out _ G1.out).mono ?_;rintro e u2 ⟨rfl,q⟩;obtain ⟨q2,q3,q4⟩:=q.waits c;have q5:=q.ltB;obtain ⟨r1,r2⟩:=HX.out _ _ q2;obtain ⟨⟨c0,c1,c2,c3,c4⟩,d0,d1,d2,d3⟩:=askO_cells r1;have G2:=Lib.hid (And.intro r1 r2);clear q q2 r1 r2)
  | (go_at_call 122;refine (HW.out _).mono ?_;rintro e u1 ⟨rfl,q⟩;have G1:=Lib.hid q;clear q))
 exact ask_back rfl w.heap.size (askRead c) rfl (askO_set (k':=askRead c) G2.out.1) rfl (⟨rfl,G2.out.2 _ (turn4 _ _ (.int .i64 1) (.int .i64 c) (.float .f64 0) (.bool false))⟩)
end
end Go.Proofs.YteinilmecnlanabGreatDoor
namespace Go.Proofs.YteinilmecnlanabGreatDoor
open Go.ChangeShapes Go.WideShapes Go.ChangeAt Go.RowKit Num
attribute [local go_sem] run_store_float
def AppOne (u:World) (k:Nat) (vs:List Value) (v:Value) (u':World):Prop:=(∃ c,v=.slice (some ⟨u.heap.size,0,none⟩) (k+1) c∧k+1≤c)∧Ro u' (some ⟨u.heap.size,0,none⟩) vs∧Below u.heap.size u u'∧u.heap.size<u'.heap.size
theorem app_touch {u:World} {p:Option Addr} {l:Wr} {k g0:Nat} {c:Int} {x:Nat} (hr:Ro u p (l.flatMap tchC)) (hk:l.length=k) (hk2:k≤1024) (h0:u.cell? ⟨g0,0,none⟩=some (.int .i64 c)) (h1:u.cell? ⟨g0,1,none⟩=some (.float .f64 x)) (ty:TypeId):∃ v u',(Builtin.append_ #[55,55] ty #[.slice p k k,.slice (some ⟨g0,0,none⟩) 1 1]).run Tryz.prog u=.ok v u'∧AppOne u k ((l ++ [(c,x)]).flatMap tchC) v u':=by
 obtain ⟨i0,hi,hz0,hz1,hz2⟩:=info_parts tInfo
 have e:(l ++ [(c,x)]).flatMap tchC=l.flatMap tchC ++ tchC (c,x):=by simp [List.flatMap_append]
 unfold AppOne
 rw [e]
 refine app_new Tryz.underlying55 hi hz0 hr (by rw [tch_len,hk,hz1]) ?_ (by omega) (by omega) (by rw [hz2];omega)
 rw [hz1]
 refine Src.ofSlice u Tryz.underlying55 ⟨g0,0,none⟩ 1 1 (tchC (c,x)) rfl (fun j v hv=>?_) (fun v hv=>tch_one [(c,x)] v (by simpa using hv))
 rw [Addr.add_mid,Nat.zero_add]
 match j,hv with
 | 0,hv=>rw [h0];simpa [tchC] using hv
 | 1,hv=>rw [h1];simpa [tchC] using hv
 | j+2,hv=>simp [tchC] at hv
theorem app_float {u:World} {p:Option Addr} {l:List Nat} {k g0 x:Nat} (hr:Ro u p (fls l)) (hk:l.length=k) (hk2:k≤1024) (h0:u.cell? ⟨g0,0,none⟩=some (.float .f64 x)) (ty:TypeId):∃ v u',(Builtin.append_ #[27,27] ty #[.slice p k k,.slice (some ⟨g0,0,none⟩) 1 1]).run Tryz.prog u=.ok v u'∧AppOne u k (fls (l ++ [x])) v u':=by
 obtain ⟨i0,hi,hz0,hz1,hz2⟩:=info_parts fInfo
 unfold AppOne
 rw [fls_snoc]
 refine app_new Tryz.underlying27 hi hz0 hr (by rw [fls_len,hk,hz1,Nat.mul_one]) ?_ (by omega) (by omega) (by rw [hz2];omega)
 rw [hz1]
 refine Src.ofSlice u Tryz.underlying27 ⟨g0,0,none⟩ 1 1 [.float .f64 x] rfl (fun j v hv=>?_) (fun v hv=>by simp at hv;subst hv;rfl)
 rw [Addr.add_mid,Nat.zero_add]
 match j,hv with
 | 0,hv=>rw [h0];simpa using hv
 | j+1,hv=>simp at hv
theorem app_int {u:World} {p:Option Addr} {l:List Int} {k g0:Nat} {x:Int} (hr:Ro u p (i64s l)) (hk:l.length=k) (hk2:k≤1024) (h0:u.cell? ⟨g0,0,none⟩=some (.int .i64 x)) (ty:TypeId):∃ v u',(Builtin.append_ #[86,86] ty #[.slice p k k,.slice (some ⟨g0,0,none⟩) 1 1]).run Tryz.prog u=.ok v u'∧AppOne u k (i64s (l ++ [x])) v u':=by
 obtain ⟨i0,hi,hz0,hz1,hz2⟩:=info_parts iInfo
 unfold AppOne
 have e:i64s (l ++ [x])=i64s l ++ [.int .i64 x]:=by simp [i64s]
 rw [e]
 refine app_new Tryz.underlying86 hi hz0 hr (by simp [i64s,hk,hz1]) ?_ (by omega) (by omega) (by rw [hz2];omega)
 rw [hz1]
 refine Src.ofSlice u Tryz.underlying86 ⟨g0,0,none⟩ 1 1 [.int .i64 x] rfl (fun j v hv=>?_) (fun v hv=>by simp at hv;subst hv;rfl)
 rw [Addr.add_mid,Nat.zero_add]
 match j,hv with
 | 0,hv=>rw [h0];simpa using hv
 | j+1,hv=>simp at hv
theorem Ro.plain {w:World} {p:Option Addr} {vs:List Value} (h:Ro w p vs):(p=none∧vs.length=0)∨∃ g o,p=some ⟨g,o,none⟩:=by
 rcases h with ⟨a,b⟩ | ⟨g,o,a,_⟩
 ·exact .inl ⟨a,by rw [b];rfl⟩
 ·exact .inr ⟨g,o,a⟩
section
variable {W w:World} {br bl:Nat} {F0 K:List Nat} {m:Mac} {cs:List Ins}
theorem Rg.reads (h:Rg W F0 br bl K w m cs) (c:Int) (x:Nat) (hl:m.reads.length≤1024):∃ p k cr,w.cell? ⟨br,18,none⟩=some (.slice p k cr)∧(k:Int)≤cr∧m.reads.length=k∧((p=none∧k=0)∨∃ g o,p=some ⟨g,o,none⟩) ∧
  ∀ u,Below w.heap.size w u→(u.cell? ⟨br,18,none⟩=some (.slice p k cr)∧br<u.heap.size)∧∀ g0 ty,u.cell? ⟨g0,0,none⟩=some (.int .i64 c)→u.cell? ⟨g0,1,none⟩=some (.float .f64 x)→∃ v u',(Builtin.append_ #[55,55] ty #[.slice p k k,.slice (some ⟨g0,0,none⟩) 1 1]).run Tryz.prog u=.ok v u'∧∃ g1 n1 c1,v=.slice (some ⟨g1,0,none⟩) n1 c1∧(Hid (Rg W F0 br bl K (u'.setCell ⟨br,18,none⟩ (.slice (some ⟨g1,0,none⟩) n1 c1)) { m with reads:=m.reads ++ [(c,x)] } cs)∧u'.cell? ⟨br,18,none⟩=some (.slice p k cr)∧u'.frozen? ⟨br,18,none⟩=false∧br<u'.heap.size):=by
 obtain ⟨q,hr,hbl,ht,hF⟩:=id h
 have hpl:=hr.rds.plain
 rw [tch_len] at hpl
 refine ⟨q.pr,m.reads.length,q.cr,(hr.cell 18).trans rfl,by have:=hr.c4;omega,rfl,hpl.imp (fun z=>⟨z.1,by omega⟩) id,fun u hu=>⟨⟨((hr.on hu).cell 18).trans rfl,(hr.on hu).ltB⟩,fun g0 ty c0 c1=>?_⟩⟩
 obtain ⟨v,u',e1,⟨c',rfl,e2⟩,e3,e4,e5⟩:=app_touch (hr.on hu).rds rfl hl c0 c1 ty
 have hb:=hu.trans (e4.mono hu.size)
 have h3:=hr.on hb
 refine ⟨_,u',e1,_,_,c',rfl,?_,(h3.cell 18).trans rfl,h3.free 18,h3.ltB⟩
 have:=h.putR hr hF hbl hb (p:=some ⟨u.heap.size,0,none⟩) (s:=m.reads ++ [(c,x)]) (c:=c') (.inr ⟨_,rfl,hu.size⟩) (fun y hy=>by simp [fpR] at hy;omega) e3 (by simpa using e2)
 rw [show (m.reads ++ [(c,x)]).length=m.reads.length+1 by simp] at this
 exact this
end
end Go.Proofs.YteinilmecnlanabGreatDoor
namespace Go.Proofs.YteinilmecnlanabGreatDoor
open Go.ChangeShapes Go.WideShapes Go.ChangeAt Go.RowKit Num
attribute [local go_sem] run_store_float
section
variable {W w:World} {br bl:Nat} {F0 K:List Nat} {m:Mac} {cs:List Ins}
theorem Rg.trade1 (h:Rg W F0 br bl K w m cs) (x:Nat) {k r:Nat} (hk:m.st.length=r+k) (hs:m.st.length≤64):Calls Tryz.prog 76 #[.pointer (some ⟨br,0,none⟩),.int .i64 k,.slice (some ⟨w.heap.size,0,none⟩) 1 1] (w.alloc (.cells #[.float .f64 x] 64)) fun e w'=>e=.returned (.tuple #[])∧Rg W F0 br bl K w' { m with st:=x::m.st.drop k } cs :=
 rtrade_some (h.alloc _) (l:=[x]) hk rfl (by omega) (by omega) hs (fun j v hv=>by
  match j,hv with
  | 0,hv=>rw [cell_of_row _ _ _ _ _ _ (heap_alloc_new w _)];simpa [fls] using hv
  | j+1,hv=>simp [fls] at hv)
theorem rread_own (h:Rg W F0 br bl K w m cs) {y:Nat} {s:List Nat} (hs:m.st=y::s) (hs2:m.st.length≤64) (ho:y<18446744073709551616) (hl:m.buf.length≤32) (hl2:m.reads.length≤1024) (ha:addrB m=true) (hh:hasC m.buf (addrV m)=true):Calls Tryz.prog 97 #[.pointer (some ⟨br,0,none⟩)] w fun r w'=>r=.returned (askV ⟨2,addrV m,getC m.buf (addrV m),false⟩)∧Rg W F0 br bl K w' (hasRead { m with st:=s } (addrV m) (getC m.buf (addrV m))) cs:=by
 obtain ⟨h0,hb⟩:=h.at0
 obtain ⟨F,h1,hX⟩:=h.leave (askO ask0)
 have HX:=Lib.hid hX
 have HT:=Lib.hid (h1.addr hs hs2)
 have HI:=Lib.hid (fun w=>refIndex_any y m.cells w ho)
 have hc:addrV m=idxV y m.cells:=by unfold addrV;rw [hs];rfl
 have ha':idxE y m.cells=0:=by unfold addrB at ha;rw [hs] at ha;unfold idxE;exact if_pos ha
 rw [← hc,ha'] at HI
 have hwv:wroteV m.buf (addrV m)=getC m.buf (addrV m):=by unfold wroteV;rw [hh];rfl
 have HW:Hid (∀ n,Calls Tryz.prog 122 #[.pointer (some ⟨br,0,none⟩),.int .i64 (addrV m)] ((w.alloc (askO ask0)).drewN n) fun e w'=>e=.returned (.tuple #[.float .f64 (getC m.buf (addrV m)),.bool true])∧Rg (w.alloc (askO ask0)) F br bl K w' m cs):=fun n=>by
  have k1:=h1.same (Same.drewN _ n)
  refine (rwrote_any k1 (addrV m) hl).mono fun e u ⟨a1,a2⟩=>⟨by rw [a1,hh,hwv],k1.on a2⟩
 have HTR:Hid (∀ u x,Rg (w.alloc (askO ask0)) F br bl K u m cs→Calls Tryz.prog 76 #[.pointer (some ⟨br,0,none⟩),.int .i64 1,.slice (some ⟨u.heap.size,0,none⟩) 1 1] (u.alloc (.cells #[.float .f64 x] 64)) fun e w'=>e=.returned (.tuple #[])∧Rg (w.alloc (askO ask0)) F br bl K w' { m with st:=x::s } cs):=fun u x hu=>by
  have:=hu.trade1 x (k:=1) (r:=s.length) (by rw [hs];simp) hs2
  rw [show m.st.drop 1=s by rw [hs];rfl] at this
  exact this
 have HRD:Hid (∀ u x,Rg (w.alloc (askO ask0)) F br bl K u { m with st:=x::s } cs→_):=fun u x hu=>Rg.reads (m:={ m with st:=x::s }) hu (addrV m) x hl2
 clear h h1 hX ha ha' ho hs hs2 hc hh hl hwv
 generalize getC m.buf (addrV m)=x at *
 generalize addrV m=c at *
 go_enter Tryz.func97,Tryz.ntmps97
 go_wp2
 go_quiet (first
  | (go_at_call 93;exact HT.out _)
  | (go_at_call 121;exact Calls.quiet_of_same (HI.out _)))
 go_wp2_with (first
  | (go_at_call 76;refine (HTR.out _ x G1.out).mono ?_;rintro e u2 ⟨rfl,q⟩;have G2:=Lib.hid q;clear q)
  | (go_at_call 122;refine (HW.out _).mono ?_;rintro e u1 ⟨rfl,q⟩;have G1:=Lib.hid q;clear q))
 obtain ⟨p,k,cr,e1,e2,e3,e4,e5⟩:=HRD.out u2 x G2.out
 have H5:=Lib.hid e5
 have hkl:k≤1024:=by have e3':m.reads.length=k:=e3;omega
 have hwr:IntKind.i64.wrap (k:Int)=k:=by rw [IntKind.wrap_i64];omega
 have eb:=(e5 u2 (Below.refl _ _)).1.2
 clear e3 e5 HRD hl2
 have FIN:Hid (∀ (u':World) (v:Value),Hid (Rg (w.alloc (askO ask0)) F br bl K (u'.setCell ⟨br,18,none⟩ v) { m with st:=x::s,reads:=m.reads ++ [(c,x)] } cs)→u'.heap[w.heap.size]?=some (askO ask0)∧Hid ((u'.setCell ⟨br,18,none⟩ v).heap[w.heap.size]?=some (askO ask0)∧∀ u'',Turn [w.heap.size] [w.heap.size] (u'.setCell ⟨br,18,none⟩ v) u''→Rg W F0 br bl K u'' { m with st:=x::s,reads:=m.reads ++ [(c,x)] } cs)):=fun u' v hq=>by
  have z:=HX.out _ _ hq.out
  refine ⟨?_,z⟩
  have z1:=z.1
  rwa [heap_setCell_other _ _ _ _ (by simp;omega)] at z1
 rcases e4 with ⟨rfl,rfl⟩ | ⟨g,o,rfl⟩
 ·simp only [Int.cast_ofNat_Int] at hwr e2
  refine wp_region_seqE (fun u=>u.cell? ⟨br,18,none⟩=some (.slice none 0 cr)) ((0,true)::(1,true)::(2,true)::(3,true)::(4,true)::(5,true)::(6,true)::(7,true)::(8,true)::(9,true)::(10,true)::(11,true)::(12,true)::(13,true)::(14,true)::(15,true)::(16,true)::(17,true)::(18,true)::(19,false)::(20,false)::(21,true)::(22,true)::(23,false)::[]) (by kernel_rfl) (by kernel_rfl) (fun _ _ _ _ _ h=>h) (by simpa using e1) ?_
  repeat (first
   | (refine wpSeqE_take (v:=?_) rfl (by rfl) (fun wq hSq=>?_) ?_;rotate_left;(focus ((try dsimp only at hSq);go_simp;try with_reducible rfl));simp only [Act.put,List.setIfInBounds_toArray,List.set_cons_zero,List.set_cons_succ]))
  refine wpSeqE_do rfl (by rfl) (fun K hK=>?_)
  go_simp
  refine hK.out _ _ (fun _=>(H5.out _ (((Same.drew u2).below _).trans (below_alloc u2.drew _))).1.1) ?_
  clear hK K
  try simp only [Act.put,List.setIfInBounds_toArray,List.set_cons_zero,List.set_cons_succ]
  refine wpSeqE_do rfl (by rfl) (fun K hK=>?_)
  refine wp_append_ex _ _ _ _ rfl _ _ rfl rfl ((H5.out (u2.drew.alloc (.cells #[.int .i64 c,.float .f64 x] 99)) (((Same.drew u2).below _).trans (below_alloc u2.drew _))).2 u2.heap.size _ (cells2_of (heap_new (w:=u2.drew) (g:=u2.heap.size) rfl)).1 (cells2_of (heap_new (w:=u2.drew) (g:=u2.heap.size) rfl)).2.1) ?_
  rintro v w3 ⟨gq,nq,cq,rfl,hq0,hq1,hq2,hq3⟩
  refine hK.out _ _ (fun _=>hq1) ?_
  clear hK K
  try simp only [Act.put,List.setIfInBounds_toArray,List.set_cons_zero,List.set_cons_succ]
  repeat (first
   | (refine wpSeqE_take (v:=?_) rfl (by rfl) (fun wq hSq=>?_) ?_;rotate_left;(focus ((try dsimp only at hSq);go_simp;try with_reducible rfl));simp only [Act.put,List.setIfInBounds_toArray,List.set_cons_zero,List.set_cons_succ]))
  refine wpSeqE_do rfl (by rfl) (fun K hK=>?_)
  go_simp
  refine hK.out _ _ (fun z=>absurd rfl z) ?_
  clear hK K
  refine wpSeqE_nil ?_
  obtain ⟨f0,G3⟩:=FIN.out w3 _ hq0
  obtain ⟨⟨c0,c1,c2,c3,c4⟩,d0,d1,d2,d3⟩:=askO_cells f0
  have hne:br≠w.heap.size:=by omega
  clear f0 hq0
  go_wp2
  exact ask_back rfl w.heap.size ⟨2,c,x,false⟩ rfl (askO_set (k':=⟨2,c,x,false⟩) G3.out.1) rfl (⟨rfl,G3.out.2 _ (turn4 _ _ (.int .i64 2) (.int .i64 c) (.float .f64 x) (.bool false))⟩)
 ·skip
  refine wp_region_seqE (fun u=>u.cell? ⟨br,18,none⟩=some (.slice (some ⟨g,o,none⟩) k cr)) ((0,true)::(1,true)::(2,true)::(3,true)::(4,true)::(5,true)::(6,true)::(7,true)::(8,true)::(9,true)::(10,true)::(11,true)::(12,true)::(13,true)::(14,true)::(15,true)::(16,true)::(17,true)::(18,true)::(19,false)::(20,false)::(21,true)::(22,true)::(23,false)::[]) (by kernel_rfl) (by kernel_rfl) (fun _ _ _ _ _ h=>h) (by simpa using e1) ?_
  repeat (first
   | (refine wpSeqE_take (v:=?_) rfl (by rfl) (fun wq hSq=>?_) ?_;rotate_left;(focus ((try dsimp only at hSq);go_simp;try with_reducible rfl));simp only [Act.put,List.setIfInBounds_toArray,List.set_cons_zero,List.set_cons_succ]))
  refine wpSeqE_do rfl (by rfl) (fun K hK=>?_)
  go_simp
  refine hK.out _ _ (fun _=>(H5.out _ (((Same.drew u2).below _).trans (below_alloc u2.drew _))).1.1) ?_
  clear hK K
  try simp only [Act.put,List.setIfInBounds_toArray,List.set_cons_zero,List.set_cons_succ]
  refine wpSeqE_do rfl (by rfl) (fun K hK=>?_)
  refine wp_append_ex _ _ _ _ rfl _ _ rfl rfl ((H5.out (u2.drew.alloc (.cells #[.int .i64 c,.float .f64 x] 99)) (((Same.drew u2).below _).trans (below_alloc u2.drew _))).2 u2.heap.size _ (cells2_of (heap_new (w:=u2.drew) (g:=u2.heap.size) rfl)).1 (cells2_of (heap_new (w:=u2.drew) (g:=u2.heap.size) rfl)).2.1) ?_
  rintro v w3 ⟨gq,nq,cq,rfl,hq0,hq1,hq2,hq3⟩
  refine hK.out _ _ (fun _=>hq1) ?_
  clear hK K
  try simp only [Act.put,List.setIfInBounds_toArray,List.set_cons_zero,List.set_cons_succ]
  repeat (first
   | (refine wpSeqE_take (v:=?_) rfl (by rfl) (fun wq hSq=>?_) ?_;rotate_left;(focus ((try dsimp only at hSq);go_simp;try with_reducible rfl));simp only [Act.put,List.setIfInBounds_toArray,List.set_cons_zero,List.set_cons_succ]))
  refine wpSeqE_do rfl (by rfl) (fun K hK=>?_)
  go_simp
  refine hK.out _ _ (fun z=>absurd rfl z) ?_
  clear hK K
  refine wpSeqE_nil ?_
  obtain ⟨f0,G3⟩:=FIN.out w3 _ hq0
  obtain ⟨⟨c0,c1,c2,c3,c4⟩,d0,d1,d2,d3⟩:=askO_cells f0
  have hne:br≠w.heap.size:=by omega
  clear f0 hq0
  go_wp2
  exact ask_back rfl w.heap.size ⟨2,c,x,false⟩ rfl (askO_set (k':=⟨2,c,x,false⟩) G3.out.1) rfl (⟨rfl,G3.out.2 _ (turn4 _ _ (.int .i64 2) (.int .i64 c) (.float .f64 x) (.bool false))⟩)
end
end Go.Proofs.YteinilmecnlanabGreatDoor
namespace Go.Proofs.YteinilmecnlanabGreatDoor
open Go.ChangeShapes Go.WideShapes Go.ChangeAt Go.RowKit Num
attribute [local go_sem] run_store_float
section
variable {W w:World} {br bl:Nat} {F0 K:List Nat} {m:Mac} {cs:List Ins}
theorem Rg.tells (h:Rg W F0 br bl K w m cs) (x:Nat) (hl:m.out.length≤1024):∃ p k cr,w.cell? ⟨br,17,none⟩=some (.slice p k cr)∧(k:Int)≤cr∧m.out.length=k∧((p=none∧k=0)∨∃ g o,p=some ⟨g,o,none⟩) ∧
  ∀ u,Below w.heap.size w u→(u.cell? ⟨br,17,none⟩=some (.slice p k cr)∧br<u.heap.size)∧∀ g0 ty,u.cell? ⟨g0,0,none⟩=some (.float .f64 x)→ ∃ v u',(Builtin.append_ #[27,27] ty #[.slice p k k,.slice (some ⟨g0,0,none⟩) 1 1]).run Tryz.prog u=.ok v u'∧∃ g1 n1 c1,v=.slice (some ⟨g1,0,none⟩) n1 c1∧(Hid (Rg W F0 br bl K (u'.setCell ⟨br,17,none⟩ (.slice (some ⟨g1,0,none⟩) n1 c1)) { m with out:=m.out ++ [x] } cs)∧u'.cell? ⟨br,17,none⟩=some (.slice p k cr)∧u'.frozen? ⟨br,17,none⟩=false∧br<u'.heap.size):=by
 obtain ⟨q,hr,hbl,ht,hF⟩:=id h
 have hpl:=hr.out.plain
 rw [fls_len] at hpl
 refine ⟨q.pt,m.out.length,q.ct,(hr.cell 17).trans rfl,by have:=hr.c3;omega,rfl,hpl.imp (fun z=>⟨z.1,by omega⟩) id,fun u hu=>⟨⟨((hr.on hu).cell 17).trans rfl,(hr.on hu).ltB⟩,fun g0 ty c0=>?_⟩⟩
 obtain ⟨v,u',e1,⟨c',rfl,e2⟩,e3,e4,e5⟩:=app_float (hr.on hu).out rfl hl c0 ty
 have hb:=hu.trans (e4.mono hu.size)
 have h3:=hr.on hb
 refine ⟨_,u',e1,_,_,c',rfl,?_,(h3.cell 17).trans rfl,h3.free 17,h3.ltB⟩
 have:=h.putT hr hF hbl hb (p:=some ⟨u.heap.size,0,none⟩) (s:=m.out ++ [x]) (c:=c') (.inr ⟨_,rfl,hu.size⟩) (fun y hy=>by simp [fpR] at hy;omega) e3 (by simpa using e2)
 rw [show (m.out ++ [x]).length=m.out.length+1 by simp] at this
 exact this
theorem Rg.opens (h:Rg W F0 br bl K w m cs) (x:Int) (hl:m.calls.length≤1024):∃ p k cr,w.cell? ⟨br,9,none⟩=some (.slice p k cr)∧(k:Int)≤cr∧m.calls.length=k∧((p=none∧k=0)∨∃ g o,p=some ⟨g,o,none⟩) ∧
  ∀ u,Below w.heap.size w u→(u.cell? ⟨br,9,none⟩=some (.slice p k cr)∧br<u.heap.size)∧∀ g0 ty,u.cell? ⟨g0,0,none⟩=some (.int .i64 x)→ ∃ v u',(Builtin.append_ #[86,86] ty #[.slice p k k,.slice (some ⟨g0,0,none⟩) 1 1]).run Tryz.prog u=.ok v u'∧∃ g1 n1 c1,v=.slice (some ⟨g1,0,none⟩) n1 c1∧(Hid (Rg W F0 br bl K (u'.setCell ⟨br,9,none⟩ (.slice (some ⟨g1,0,none⟩) n1 c1)) { m with calls:=x::m.calls } cs)∧u'.cell? ⟨br,9,none⟩=some (.slice p k cr)∧u'.frozen? ⟨br,9,none⟩=false∧br<u'.heap.size):=by
 obtain ⟨q,hr,hbl,ht,hF⟩:=id h
 have hpl:=hr.cal.plain
 rw [i64s_len,List.length_reverse] at hpl
 refine ⟨q.pc,m.calls.length,q.cc,(hr.cell 9).trans rfl,by have:=hr.c2;omega,rfl,hpl.imp (fun z=>⟨z.1,by omega⟩) id,fun u hu=>⟨⟨((hr.on hu).cell 9).trans rfl,(hr.on hu).ltB⟩,fun g0 ty c0=>?_⟩⟩
 obtain ⟨v,u',e1,⟨c',rfl,e2⟩,e3,e4,e5⟩:=app_int (hr.on hu).cal (List.length_reverse) hl c0 ty
 have hb:=hu.trans (e4.mono hu.size)
 have h3:=hr.on hb
 refine ⟨_,u',e1,_,_,c',rfl,?_,(h3.cell 9).trans rfl,h3.free 9,h3.ltB⟩
 have:=h.putC hr hF hbl hb (p:=some ⟨u.heap.size,0,none⟩) (s:=x::m.calls) (c:=c') (.inr ⟨_,rfl,hu.size⟩) (fun y hy=>by simp [fpR] at hy;omega) (by rw [List.reverse_cons];exact e3) (by simpa using e2)
 rw [show (x::m.calls).length=m.calls.length+1 by simp] at this
 exact this
theorem Rg.wrote (h:Rg W F0 br bl K w m cs) (c:Int) (x:Nat) (hl:m.buf.length≤1024) (hnd:(cellsOfL (m.buf ++ [(c,x)])).Nodup):∃ p k cr,w.cell? ⟨br,19,none⟩=some (.slice p k cr)∧(k:Int)≤cr∧m.buf.length=k∧((p=none∧k=0)∨∃ g o,p=some ⟨g,o,none⟩) ∧
  ∀ u,Below w.heap.size w u→(u.cell? ⟨br,19,none⟩=some (.slice p k cr)∧br<u.heap.size)∧∀ g0 ty,u.cell? ⟨g0,0,none⟩=some (.int .i64 c)→u.cell? ⟨g0,1,none⟩=some (.float .f64 x)→ ∃ v u',(Builtin.append_ #[55,55] ty #[.slice p k k,.slice (some ⟨g0,0,none⟩) 1 1]).run Tryz.prog u=.ok v u'∧∃ g1 n1 c1,v=.slice (some ⟨g1,0,none⟩) n1 c1∧(Hid (Rg W F0 br bl K (u'.setCell ⟨br,19,none⟩ (.slice (some ⟨g1,0,none⟩) n1 c1)) { m with buf:=m.buf ++ [(c,x)] } cs)∧u'.cell? ⟨br,19,none⟩=some (.slice p k cr)∧u'.frozen? ⟨br,19,none⟩=false∧br<u'.heap.size):=by
 obtain ⟨q,hr,hbl,ht,hF⟩:=id h
 have hpl:=hr.buf.plain
 rw [tch_len] at hpl
 refine ⟨q.pb,m.buf.length,q.cb,(hr.cell 19).trans rfl,by have:=hr.c5;omega,rfl,hpl.imp (fun z=>⟨z.1,by omega⟩) id,fun u hu=>⟨⟨((hr.on hu).cell 19).trans rfl,(hr.on hu).ltB⟩,fun g0 ty c0 c1=>?_⟩⟩
 obtain ⟨v,u',e1,⟨c',rfl,e2⟩,e3,e4,e5⟩:=app_touch (hr.on hu).buf rfl hl c0 c1 ty
 have hb:=hu.trans (e4.mono hu.size)
 have h3:=hr.on hb
 refine ⟨_,u',e1,_,_,c',rfl,?_,(h3.cell 19).trans rfl,h3.free 19,h3.ltB⟩
 have:=h.putB hr hF hbl hb (p:=some ⟨u.heap.size,0,none⟩) (s:=m.buf ++ [(c,x)]) (c:=c') (.inr ⟨_,rfl,hu.size⟩) (fun y hy=>by simp [fpR] at hy;omega) e3 (by simpa using e2) hnd
 rw [show (m.buf ++ [(c,x)]).length=m.buf.length+1 by simp] at this
 exact this
theorem rgive_no (h:Rg W F0 br bl K w m cs) (hw:m.wait<0) (x:Nat):Calls Tryz.prog 52 #[.pointer (some ⟨br,0,none⟩),.float .f64 x] w fun e w'=>e=.returned (.int .i64 3)∧w'=w:=by
 obtain ⟨q,hr,_,_,_⟩:=h
 have h13:w.cell? ⟨br,13,none⟩=some (.int .i64 m.wait):=(hr.cell 13).trans rfl
 have hb:=hr.ltB
 clear hr
 generalize m.wait=wt at *
 go_enter Tryz.func52,Tryz.ntmps52
 go_wp2
 go_ret
 exact ⟨rfl,rfl⟩
theorem rgive_yes (h:Rg W F0 br bl K w m cs) (hw:0≤m.wait) (hs:m.st.length≤63) (hl2:m.reads.length≤1024) (x0:Nat):Calls Tryz.prog 52 #[.pointer (some ⟨br,0,none⟩),.float .f64 x0] w fun e w'=>e=.returned (.int .i64 0)∧Rg W F0 br bl K w' (hasRead { m with wait:=-1 } m.wait (fixB x0)) cs:=by
 obtain ⟨q,hr,_,_,_⟩:=id h
 have h13:w.cell? ⟨br,13,none⟩=some (.int .i64 m.wait):=(hr.cell 13).trans rfl
 have hb:=hr.ltB
 clear hr
 have hw':¬ m.wait<0:=by omega
 generalize hx:fixB x0=x
 have HFX:Hid (∀ u,Calls Tryz.prog 48 #[.float .f64 x0] u fun e w'=>e=.returned (.float .f64 x)∧w'=u):=fun u=>by rw [← hx];exact refFix_any x0 u
 have HTR:Hid (Calls Tryz.prog 76 #[.pointer (some ⟨br,0,none⟩),.int .i64 0,.slice (some ⟨w.heap.size,0,none⟩) 1 1] (w.alloc (.cells #[.float .f64 x] 64)) fun e w'=>e=.returned (.tuple #[])∧Rg W F0 br bl K w' { m with st:=x::m.st } cs):=by
  have:=h.trade1 x (k:=0) (r:=m.st.length) (by omega) (by omega)
  rw [List.drop_zero] at this
  exact this
 have HRD:Hid (∀ u,Rg W F0 br bl K u { m with st:=x::m.st } cs→_):=fun u hu=>Rg.reads (m:={ m with st:=x::m.st }) hu m.wait x hl2
 have HW2:Hid (∀ u,Rg W F0 br bl K u { m with st:=x::m.st } cs→u.cell? ⟨br,13,none⟩=some (.int .i64 m.wait)):=fun u ⟨q,hr,_⟩=>(hr.cell 13).trans rfl
 have HWB:Hid (∀ u u',Rg W F0 br bl K u { m with st:=x::m.st } cs→Below u.heap.size u u'→u'.cell? ⟨br,13,none⟩=some (.int .i64 m.wait)):=fun u u' hu hb=>HW2.out u' (hu.on hb)
 have FIN:Hid (∀ u,Hid (Rg W F0 br bl K u { m with st:=x::m.st,reads:=m.reads ++ [(m.wait,x)] } cs)→Rg W F0 br bl K (u.setCell ⟨br,13,none⟩ (.int .i64 (-1))) (hasRead { m with wait:=-1 } m.wait x) cs∧u.cell? ⟨br,13,none⟩=some (.int .i64 m.wait)∧u.frozen? ⟨br,13,none⟩=false∧br<u.heap.size):=fun u hu=>by
  obtain ⟨z1,z2,z3⟩:=hu.out.waits (-1)
  exact ⟨z1,z2,z3,hu.out.ltB⟩
 clear h hx
 go_enter Tryz.func52,Tryz.ntmps52
 go_wp2_with (first
  | (go_at_call 76;refine HTR.out.mono ?_;rintro e u2 ⟨rfl,q⟩;have G2:=Lib.hid q;clear q)
  | (go_at_call 48;refine (HFX.out _).mono ?_;rintro e u ⟨rfl,hu⟩;subst u))
 obtain ⟨p,k,cr,e1,e2,e3,e4,e5⟩:=HRD.out u2 G2.out
 have H5:=Lib.hid e5
 have hkl:k≤1024:=by have e3':m.reads.length=k:=e3;omega
 have hwr:IntKind.i64.wrap (k:Int)=k:=by rw [IntKind.wrap_i64];omega
 have eb:=(e5 u2 (Below.refl _ _)).1.2
 have e13:=HW2.out u2 G2.out
 clear e3 e5 HRD hl2
 have HAP:Hid (∀ u,Below u2.heap.size u2 u→∀ g0 ty,u.cell? ⟨g0,0,none⟩=some (.int .i64 m.wait)→u.cell? ⟨g0,1,none⟩=some (.float .f64 x)→∃ v u',(Builtin.append_ #[55,55] ty #[.slice p k k,.slice (some ⟨g0,0,none⟩) 1 1]).run Tryz.prog u=.ok v u'∧∃ g1 n1 c1,v=.slice (some ⟨g1,0,none⟩) n1 c1∧(Hid (Rg W F0 br bl K (u'.setCell ⟨br,18,none⟩ (.slice (some ⟨g1,0,none⟩) n1 c1)) { m with st:=x::m.st,reads:=m.reads ++ [(m.wait,x)] } cs)∧u'.cell? ⟨br,18,none⟩=some (.slice p k cr)∧u'.frozen? ⟨br,18,none⟩=false∧br<u'.heap.size∧u'.cell? ⟨br,13,none⟩=some (.int .i64 m.wait))):=fun u hu g0 ty c0 c1=>by
  obtain ⟨v,u',z1,g1,n1,c1,rfl,z2,z3,z4,z5⟩:=(H5.out u hu).2 g0 ty c0 c1
  refine ⟨_,u',z1,g1,n1,c1,rfl,z2,z3,z4,z5,?_⟩
  have:=(FIN.out _ z2).2.1
  rwa [World.cell?_setCell_other _ _ _ _ (by simp)] at this
 rcases e4 with ⟨rfl,rfl⟩ | ⟨g,o,rfl⟩
 ·simp only [Int.cast_ofNat_Int] at hwr e2
  refine wp_region_seqE (fun u=>u.cell? ⟨br,18,none⟩=some (.slice none 0 cr)∧u.cell? ⟨br,13,none⟩=some (.int .i64 m.wait)) ((0,true)::(1,true)::(2,true)::(3,true)::(4,true)::(5,true)::(6,true)::(7,true)::(8,true)::(9,true)::(10,true)::(11,true)::(12,true)::(13,true)::(14,true)::(15,true)::(16,true)::(17,true)::(18,true)::(19,true)::(20,true)::(21,true)::(22,false)::(23,false)::(24,true)::(25,true)::(26,false)::[]) (by kernel_rfl) (by kernel_rfl) (fun _ _ _ _ _ h=>h) (⟨by simpa using e1,by simpa using e13⟩) ?_
  repeat (first
   | (refine wpSeqE_take (v:=?_) rfl (by rfl) (fun wq hSq=>?_) ?_;rotate_left;(focus ((try dsimp only at hSq);go_simp;try with_reducible rfl));simp only [Act.put,List.setIfInBounds_toArray,List.set_cons_zero,List.set_cons_succ]))
  refine wpSeqE_do rfl (by rfl) (fun K hK=>?_)
  go_simp
  refine hK.out _ _ (fun _=>⟨(H5.out _ (((Same.drew u2).below _).trans (below_alloc u2.drew _))).1.1,HWB.out _ _ G2.out (((Same.drew u2).below _).trans (below_alloc u2.drew _))⟩) ?_
  clear hK K
  try simp only [Act.put,List.setIfInBounds_toArray,List.set_cons_zero,List.set_cons_succ]
  refine wpSeqE_do rfl (by rfl) (fun K hK=>?_)
  refine wp_append_ex _ _ _ _ rfl _ _ rfl rfl (HAP.out (u2.drew.alloc (.cells #[.int .i64 m.wait,.float .f64 x] 99)) (((Same.drew u2).below _).trans (below_alloc u2.drew _)) u2.heap.size _ (cells2_of (heap_new (w:=u2.drew) (g:=u2.heap.size) rfl)).1 (cells2_of (heap_new (w:=u2.drew) (g:=u2.heap.size) rfl)).2.1) ?_
  rintro v w3 ⟨gq,nq,cq,rfl,hq0,hq1,hq2,hq3,hq4⟩
  refine hK.out _ _ (fun _=>⟨hq1,hq4⟩) ?_
  clear hK K
  try simp only [Act.put,List.setIfInBounds_toArray,List.set_cons_zero,List.set_cons_succ]
  repeat (first
   | (refine wpSeqE_take (v:=?_) rfl (by rfl) (fun wq hSq=>?_) ?_;rotate_left;(focus ((try dsimp only at hSq);go_simp;try with_reducible rfl));simp only [Act.put,List.setIfInBounds_toArray,List.set_cons_zero,List.set_cons_succ]))
  refine wpSeqE_do rfl (by rfl) (fun K hK=>?_)
  go_simp
  refine hK.out _ _ (fun z=>absurd rfl z) ?_
  clear hK K
  refine wpSeqE_nil ?_
  obtain ⟨f1,f2,f3,f4⟩:=FIN.out _ hq0
  have G3:=Lib.hid f1
  clear f1 hq0
  go_wp2
  go_ret
  exact ⟨rfl,G3.out⟩
 ·skip
  refine wp_region_seqE (fun u=>u.cell? ⟨br,18,none⟩=some (.slice (some ⟨g,o,none⟩) k cr)∧u.cell? ⟨br,13,none⟩=some (.int .i64 m.wait)) ((0,true)::(1,true)::(2,true)::(3,true)::(4,true)::(5,true)::(6,true)::(7,true)::(8,true)::(9,true)::(10,true)::(11,true)::(12,true)::(13,true)::(14,true)::(15,true)::(16,true)::(17,true)::(18,true)::(19,true)::(20,true)::(21,true)::(22,false)::(23,false)::(24,true)::(25,true)::(26,false)::[]) (by kernel_rfl) (by kernel_rfl) (fun _ _ _ _ _ h=>h) (⟨by simpa using e1,by simpa using e13⟩) ?_
  repeat (first
   | (refine wpSeqE_take (v:=?_) rfl (by rfl) (fun wq hSq=>?_) ?_;rotate_left;(focus ((try dsimp only at hSq);go_simp;try with_reducible rfl));simp only [Act.put,List.setIfInBounds_toArray,List.set_cons_zero,List.set_cons_succ]))
  refine wpSeqE_do rfl (by rfl) (fun K hK=>?_)
  go_simp
  refine hK.out _ _ (fun _=>⟨(H5.out _ (((Same.drew u2).below _).trans (below_alloc u2.drew _))).1.1,HWB.out _ _ G2.out (((Same.drew u2).below _).trans (below_alloc u2.drew _))⟩) ?_
  clear hK K
  try simp only [Act.put,List.setIfInBounds_toArray,List.set_cons_zero,List.set_cons_succ]
  refine wpSeqE_do rfl (by rfl) (fun K hK=>?_)
  refine wp_append_ex _ _ _ _ rfl _ _ rfl rfl (HAP.out (u2.drew.alloc (.cells #[.int .i64 m.wait,.float .f64 x] 99)) (((Same.drew u2).below _).trans (below_alloc u2.drew _)) u2.heap.size _ (cells2_of (heap_new (w:=u2.drew) (g:=u2.heap.size) rfl)).1 (cells2_of (heap_new (w:=u2.drew) (g:=u2.heap.size) rfl)).2.1) ?_
  rintro v w3 ⟨gq,nq,cq,rfl,hq0,hq1,hq2,hq3,hq4⟩
  refine hK.out _ _ (fun _=>⟨hq1,hq4⟩) ?_
  clear hK K
  try simp only [Act.put,List.setIfInBounds_toArray,List.set_cons_zero,List.set_cons_succ]
  repeat (first
   | (refine wpSeqE_take (v:=?_) rfl (by rfl) (fun wq hSq=>?_) ?_;rotate_left;(focus ((try dsimp only at hSq);go_simp;try with_reducible rfl));simp only [Act.put,List.setIfInBounds_toArray,List.set_cons_zero,List.set_cons_succ]))
  refine wpSeqE_do rfl (by rfl) (fun K hK=>?_)
  go_simp
  refine hK.out _ _ (fun z=>absurd rfl z) ?_
  clear hK K
  refine wpSeqE_nil ?_
  obtain ⟨f1,f2,f3,f4⟩:=FIN.out _ hq0
  have G3:=Lib.hid f1
  clear f1 hq0
  go_wp2
  go_ret
  exact ⟨rfl,G3.out⟩
end
end Go.Proofs.YteinilmecnlanabGreatDoor
namespace Go.Proofs.YteinilmecnlanabGreatDoor
open Go.ChangeShapes Go.WideShapes Go.ChangeAt Go.RowKit Num
attribute [local go_sem] run_store_float
section
variable {W w:World} {br bl:Nat} {F0 K:List Nat} {m:Mac} {cs:List Ins}
theorem Rg.tag4 (h:Rg W F0 br bl K w m cs):∃ t:Int,w.cell? ⟨br,4,none⟩=some (.int .i64 t)∧m.upd=(t == 2):=by
 obtain ⟨q,hr,_,_,_⟩:=h
 exact ⟨q.tg,(hr.cell 4).trans rfl,hr.tag⟩
theorem rwrite_ro (h:Rg W F0 br bl K w m cs) (hu:m.upd=false):Calls Tryz.prog 98 #[.pointer (some ⟨br,0,none⟩)] w fun r w'=>r=.returned (askV askEnd)∧Rg W F0 br bl K w' (failM m 81).1 cs:=by
 obtain ⟨h0,hb⟩:=h.at0
 obtain ⟨t4,h4⟩:=h.tag4
 obtain ⟨F,h1,hX⟩:=h.leave (askO ask0)
 have HX:=Lib.hid hX
 have HFA:Hid (Calls Tryz.prog 73 #[.pointer (some ⟨br,0,none⟩),.int .i64 81] (w.alloc (askO ask0)) fun r w'=>r=.returned (askV askEnd)∧Rg (w.alloc (askO ask0)) F br bl K w' (failM m 81).1 cs):=rfails_any h1 81
 have ht:¬ t4=2:=by rw [h4.2] at hu;simpa using hu
 replace h4:=h4.1
 clear h h1 hX hu h0
 go_enter Tryz.func98,Tryz.ntmps98
 go_wp2_with (go_at_call 73;refine HFA.out.mono ?_;rintro e u1 ⟨rfl,q⟩;obtain ⟨r1,r2⟩:=HX.out _ _ q;obtain ⟨⟨c0,c1,c2,c3,c4⟩,d0,d1,d2,d3⟩:=askO_cells r1;have G1:=Lib.hid (And.intro r1 r2);clear q r1 r2;unfold askV)
 exact ask_back rfl w.heap.size askEnd rfl (askO_set G1.out.1) rfl ⟨rfl,G1.out.2 _ (turn4 _ _ _ _ _ _)⟩
theorem rwrite_no (h:Rg W F0 br bl K w m cs) {y:Nat} {s:List Nat} (hs:m.st=y::s) (hs2:m.st.length≤64) (ho:y<18446744073709551616) (hu:m.upd=true) (ha:addrB m=false):Calls Tryz.prog 98 #[.pointer (some ⟨br,0,none⟩)] w fun r w'=>r=.returned (askV askEnd)∧Rg W F0 br bl K w' (failM m 50).1 cs:=by
 obtain ⟨h0,hb⟩:=h.at0
 obtain ⟨t4,h4⟩:=h.tag4
 obtain ⟨F,h1,hX⟩:=h.leave (askO ask0)
 have HX:=Lib.hid hX
 have HT:=Lib.hid (h1.addr hs hs2)
 have HI:=Lib.hid (fun w=>refIndex_any y m.cells w ho)
 have ha':idxB y m.cells=false:=by unfold addrB at ha;rw [hs] at ha;exact ha
 unfold idxV idxE at HI
 rw [ha'] at HI
 have HFA:Hid (∀ n,Calls Tryz.prog 73 #[.pointer (some ⟨br,0,none⟩),.int .i64 50] ((w.alloc (askO ask0)).drewN n) fun r w'=>r=.returned (askV askEnd)∧Rg (w.alloc (askO ask0)) F br bl K w' (failM m 50).1 cs):=fun n=>rfails_any (h1.same (Same.drewN _ n)) 50
 have ht:t4=2:=by rw [h4.2] at hu;simpa using hu
 subst ht
 replace h4:=h4.1
 clear h h1 hX ha ha' ho hs hs2 hu
 go_enter Tryz.func98,Tryz.ntmps98
 go_wp2
 go_quiet (first
  | (go_at_call 93;exact HT.out _)
  | (go_at_call 121;exact Calls.quiet_of_same (HI.out _)))
 go_wp2_with (go_at_call 73;refine (HFA.out _).mono ?_;rintro e u1 ⟨rfl,q⟩;obtain ⟨r1,r2⟩:=HX.out _ _ q;obtain ⟨⟨c0,c1,c2,c3,c4⟩,d0,d1,d2,d3⟩:=askO_cells r1;have G1:=Lib.hid (And.intro r1 r2);clear q r1 r2;unfold askV)
 exact ask_back rfl w.heap.size askEnd rfl (askO_set G1.out.1) rfl ⟨rfl,G1.out.2 _ (turn4 _ _ _ _ _ _)⟩
theorem rwrite_full (h:Rg W F0 br bl K w m cs) {y z:Nat} {s:List Nat} (hs:m.st=y::z::s) (hs2:m.st.length≤64) (ho:y<18446744073709551616) (hl:m.buf.length≤32) (hu:m.upd=true) (ha:addrB m=true) (hh:hasC m.buf (addrV m)=false) (hfull:(m.buf.length:Int)=m.wmax):Calls Tryz.prog 98 #[.pointer (some ⟨br,0,none⟩)] w fun r w'=>r=.returned (askV askEnd)∧Rg W F0 br bl K w' (failM m 70).1 cs:=by
 obtain ⟨h0,hb⟩:=h.at0
 obtain ⟨t4,h4⟩:=h.tag4
 obtain ⟨F,h1,hX⟩:=h.leave (askO ask0)
 have HX:=Lib.hid hX
 have HT:=Lib.hid (h1.addr hs hs2)
 have HT1:Hid (∀ n,Calls Tryz.prog 93 #[.pointer (some ⟨br,0,none⟩),.int .i64 1] ((w.alloc (askO ask0)).drewN n) fun e w'=>e=.returned (.float .f64 z)∧∃ q,w'=(w.alloc (askO ask0)).drewN q):=by
  have:=h1.top (k:=1) (by rw [hs];simp) hs2
  rw [hs] at this
  exact this
 have HI:=Lib.hid (fun w=>refIndex_any y m.cells w ho)
 have hc:addrV m=idxV y m.cells:=by unfold addrV;rw [hs];rfl
 have ha':idxE y m.cells=0:=by unfold addrB at ha;rw [hs] at ha;unfold idxE;exact if_pos ha
 rw [← hc,ha'] at HI
 have HW:Hid (∀ n,Calls Tryz.prog 122 #[.pointer (some ⟨br,0,none⟩),.int .i64 (addrV m)] ((w.alloc (askO ask0)).drewN n) fun e w'=>∃ xv,e=.returned (.tuple #[.float .f64 xv,.bool false])∧Rg (w.alloc (askO ask0)) F br bl K w' m cs):=fun n=>by
  have k1:=h1.same (Same.drewN _ n)
  refine (rwrote_any k1 (addrV m) hl).mono fun e u ⟨a1,a2⟩=>⟨wroteV m.buf (addrV m),by rw [a1,hh],k1.on a2⟩
 have H319:Hid (∀ u,Rg (w.alloc (askO ask0)) F br bl K u m cs→(∃ p c,u.cell? ⟨br,19,none⟩=some (.slice p m.buf.length c))∧u.cell? ⟨br,3,none⟩=some (.int .i64 m.wmax)∧br<u.heap.size):=fun u ⟨q,hr,_⟩=>⟨⟨q.pb,q.cb,(hr.cell 19).trans rfl⟩,(hr.cell 3).trans rfl,hr.ltB⟩
 have HTR:Hid (∀ u,Rg (w.alloc (askO ask0)) F br bl K u m cs→Calls Tryz.prog 76 #[.pointer (some ⟨br,0,none⟩),.int .i64 2,.slice none 0 0] u fun e w'=>e=.returned (.tuple #[])∧Rg (w.alloc (askO ask0)) F br bl K w' { m with st:=s } cs):=fun u hu=>by
  have:=rtrade_none hu (k:=2) (r:=s.length) (by rw [hs];simp) (by omega) hs2
  rw [show m.st.drop 2=s by rw [hs];rfl] at this
  exact this
 have ht:t4=2:=by rw [h4.2] at hu;simpa using hu
 subst ht
 replace h4:=h4.1
 have HFA:Hid (∀ u,Rg (w.alloc (askO ask0)) F br bl K u m cs→Calls Tryz.prog 73 #[.pointer (some ⟨br,0,none⟩),.int .i64 70] u fun r w'=>r=.returned (askV askEnd)∧Rg (w.alloc (askO ask0)) F br bl K w' (failM m 70).1 cs):=fun u hu=>rfails_any hu 70
 clear h h1 hX ha ha' ho hs hs2 hu hc hh hl HTR
 generalize addrV m=c at *
 rw [← hfull] at H319
 generalize m.buf.length=n at *
 go_enter Tryz.func98,Tryz.ntmps98
 go_wp2
 go_quiet (first
  | (go_at_call 93;exact HT.out _)
  | (go_at_call 121;exact Calls.quiet_of_same (HI.out _)))
 go_wp2_with (first
  | (go_at_call 122;refine (HW.out _).mono ?_;rintro e u1 ⟨xv,rfl,q⟩;obtain ⟨⟨pb,cb,b1⟩,b2,b3⟩:=H319.out _ q;have G1:=Lib.hid q;clear q)
  | (go_at_call 93;refine (HT1.out _).mono ?_;rintro e u ⟨rfl,qn,hu⟩;subst u))
 go_quiet (fail)
 go_wp2_with (go_at_call 73;refine (HFA.out _ (G1.out.same (Same.drewN _ _))).mono ?_;rintro e u1 ⟨rfl,q⟩;obtain ⟨r1,r2⟩:=HX.out _ _ q;obtain ⟨⟨c0,c1,c2,c3,c4⟩,d0,d1,d2,d3⟩:=askO_cells r1;have G1:=Lib.hid (And.intro r1 r2);clear q r1 r2;unfold askV)
 exact ask_back rfl w.heap.size askEnd rfl (askO_set G1.out.1) rfl ⟨rfl,G1.out.2 _ (turn4 _ _ _ _ _ _)⟩
theorem rwrite_first (h:Rg W F0 br bl K w m cs) {y z:Nat} {s:List Nat} (hs:m.st=y::z::s) (hs2:m.st.length≤64) (ho:y<18446744073709551616) (hl:m.buf.length≤32) (hu:m.upd=true) (ha:addrB m=true) (hh:hasC m.buf (addrV m)=false) (hfull:¬ (m.buf.length:Int)=m.wmax):Calls Tryz.prog 98 #[.pointer (some ⟨br,0,none⟩)] w fun r w'=>r=.returned (askV ⟨3,addrV m,z,true⟩)∧Rg W F0 br bl K w' { m with st:=s,buf:=putC m.buf (addrV m) z } cs:=by
 have hput:putC m.buf (addrV m) z=m.buf ++ [(addrV m,z)]:=by unfold putC;rw [hh];rfl
 have hnd:(cellsOfL (m.buf ++ [(addrV m,z)])).Nodup:=by
  obtain ⟨q,hr,_⟩:=id h
  rw [← hput]
  exact nodup_put hr.nd
 rw [hput]
 obtain ⟨h0,hb⟩:=h.at0
 obtain ⟨t4,h4⟩:=h.tag4
 obtain ⟨F,h1,hX⟩:=h.leave (askO ask0)
 have HX:=Lib.hid hX
 have HT:=Lib.hid (h1.addr hs hs2)
 have HT1:Hid (∀ n,Calls Tryz.prog 93 #[.pointer (some ⟨br,0,none⟩),.int .i64 1] ((w.alloc (askO ask0)).drewN n) fun e w'=>e=.returned (.float .f64 z)∧∃ q,w'=(w.alloc (askO ask0)).drewN q):=by
  have:=h1.top (k:=1) (by rw [hs];simp) hs2
  rw [hs] at this
  exact this
 have HI:=Lib.hid (fun w=>refIndex_any y m.cells w ho)
 have hc:addrV m=idxV y m.cells:=by unfold addrV;rw [hs];rfl
 have ha':idxE y m.cells=0:=by unfold addrB at ha;rw [hs] at ha;unfold idxE;exact if_pos ha
 rw [← hc,ha'] at HI
 have HW:Hid (∀ n,Calls Tryz.prog 122 #[.pointer (some ⟨br,0,none⟩),.int .i64 (addrV m)] ((w.alloc (askO ask0)).drewN n) fun e w'=>∃ xv,e=.returned (.tuple #[.float .f64 xv,.bool false])∧Rg (w.alloc (askO ask0)) F br bl K w' m cs):=fun n=>by
  have k1:=h1.same (Same.drewN _ n)
  refine (rwrote_any k1 (addrV m) hl).mono fun e u ⟨a1,a2⟩=>⟨wroteV m.buf (addrV m),by rw [a1,hh],k1.on a2⟩
 have H319:Hid (∀ u,Rg (w.alloc (askO ask0)) F br bl K u m cs→(∃ p c,u.cell? ⟨br,19,none⟩=some (.slice p m.buf.length c))∧u.cell? ⟨br,3,none⟩=some (.int .i64 m.wmax)∧br<u.heap.size):=fun u ⟨q,hr,_⟩=>⟨⟨q.pb,q.cb,(hr.cell 19).trans rfl⟩,(hr.cell 3).trans rfl,hr.ltB⟩
 have HTR:Hid (∀ u,Rg (w.alloc (askO ask0)) F br bl K u m cs→Calls Tryz.prog 76 #[.pointer (some ⟨br,0,none⟩),.int .i64 2,.slice none 0 0] u fun e w'=>e=.returned (.tuple #[])∧Rg (w.alloc (askO ask0)) F br bl K w' { m with st:=s } cs):=fun u hu=>by
  have:=rtrade_none hu (k:=2) (r:=s.length) (by rw [hs];simp) (by omega) hs2
  rw [show m.st.drop 2=s by rw [hs];rfl] at this
  exact this
 have ht:t4=2:=by rw [h4.2] at hu;simpa using hu
 subst ht
 replace h4:=h4.1
 have HBF:Hid (∀ u,Rg (w.alloc (askO ask0)) F br bl K u { m with st:=s } cs→_):=fun u hu=>Rg.wrote (m:={ m with st:=s }) hu (addrV m) z (by show m.buf.length≤1024;omega) hnd
 clear h h1 hX ha ha' ho hs hs2 hu hc hh hput hnd
 generalize addrV m=c at *
 have hfd:((m.buf.length:Int) == m.wmax)=false:=by simpa using hfull
 go_enter Tryz.func98,Tryz.ntmps98
 go_wp2
 go_quiet (first
  | (go_at_call 93;exact HT.out _)
  | (go_at_call 121;exact Calls.quiet_of_same (HI.out _)))
 go_wp2_with (first
  | (go_at_call 122;refine (HW.out _).mono ?_;rintro e u1 ⟨xv,rfl,q⟩;obtain ⟨⟨pb,cb,b1⟩,b2,b3⟩:=H319.out _ q;have G1:=Lib.hid q;clear q)
  | (go_at_call 93;refine (HT1.out _).mono ?_;rintro e u ⟨rfl,qn,hu⟩;subst u))
 go_quiet (fail)
 go_wp2_with (go_at_call 76;refine (HTR.out _ (G1.out.same (Same.drewN _ _))).mono ?_;rintro e u2 ⟨rfl,q⟩;have G2:=Lib.hid q;clear q)
 obtain ⟨p,k,cr,e1,e2,e3,e4,e5⟩:=HBF.out u2 G2.out
 have H5:=Lib.hid e5
 have hkl:k≤1024:=by have e3':m.buf.length=k:=e3;omega
 have hwr:IntKind.i64.wrap (k:Int)=k:=by rw [IntKind.wrap_i64];omega
 have eb:=(e5 u2 (Below.refl _ _)).1.2
 clear e3 e5 HBF hl hfull hfd b1 b2
 have FIN:Hid (∀ (u':World) (v:Value),Hid (Rg (w.alloc (askO ask0)) F br bl K (u'.setCell ⟨br,19,none⟩ v) { m with st:=s,buf:=m.buf ++ [(c,z)] } cs)→u'.heap[w.heap.size]?=some (askO ask0)∧Hid ((u'.setCell ⟨br,19,none⟩ v).heap[w.heap.size]?=some (askO ask0)∧∀ u'',Turn [w.heap.size] [w.heap.size] (u'.setCell ⟨br,19,none⟩ v) u''→Rg W F0 br bl K u'' { m with st:=s,buf:=m.buf ++ [(c,z)] } cs)):=fun u' v hq=>by
  have zz:=HX.out _ _ hq.out
  refine ⟨?_,zz⟩
  have z1:=zz.1
  rwa [heap_setCell_other _ _ _ _ (by simp;omega)] at z1
 rcases e4 with ⟨rfl,rfl⟩ | ⟨g,o,rfl⟩
 ·simp only [Int.cast_ofNat_Int] at hwr e2
  refine wp_region_seqE (fun u=>u.cell? ⟨br,19,none⟩=some (.slice none 0 cr)) ((0,true)::(1,true)::(2,true)::(3,true)::(4,true)::(5,true)::(6,true)::(7,true)::(8,true)::(9,true)::(10,true)::(11,true)::(12,true)::(13,true)::(14,true)::(15,true)::(16,true)::(17,true)::(18,true)::(19,false)::(20,false)::(21,true)::(22,true)::(23,false)::[]) (by kernel_rfl) (by kernel_rfl) (fun _ _ _ _ _ h=>h) (by simpa using e1) ?_
  repeat (first
   | (refine wpSeqE_take (v:=?_) rfl (by rfl) (fun wq hSq=>?_) ?_;rotate_left;(focus ((try dsimp only at hSq);go_simp;try with_reducible rfl));simp only [Act.put,List.setIfInBounds_toArray,List.set_cons_zero,List.set_cons_succ]))
  refine wpSeqE_do rfl (by rfl) (fun K hK=>?_)
  go_simp
  refine hK.out _ _ (fun _=>(H5.out _ (((Same.drew u2).below _).trans (below_alloc u2.drew _))).1.1) ?_
  clear hK K
  try simp only [Act.put,List.setIfInBounds_toArray,List.set_cons_zero,List.set_cons_succ]
  refine wpSeqE_do rfl (by rfl) (fun K hK=>?_)
  refine wp_append_ex _ _ _ _ rfl _ _ rfl rfl ((H5.out (u2.drew.alloc (.cells #[.int .i64 c,.float .f64 z] 99)) (((Same.drew u2).below _).trans (below_alloc u2.drew _))).2 u2.heap.size _ (cells2_of (heap_new (w:=u2.drew) (g:=u2.heap.size) rfl)).1 (cells2_of (heap_new (w:=u2.drew) (g:=u2.heap.size) rfl)).2.1) ?_
  rintro v w3 ⟨gq,nq,cq,rfl,hq0,hq1,hq2,hq3⟩
  refine hK.out _ _ (fun _=>hq1) ?_
  clear hK K
  try simp only [Act.put,List.setIfInBounds_toArray,List.set_cons_zero,List.set_cons_succ]
  repeat (first
   | (refine wpSeqE_take (v:=?_) rfl (by rfl) (fun wq hSq=>?_) ?_;rotate_left;(focus ((try dsimp only at hSq);go_simp;try with_reducible rfl));simp only [Act.put,List.setIfInBounds_toArray,List.set_cons_zero,List.set_cons_succ]))
  refine wpSeqE_do rfl (by rfl) (fun K hK=>?_)
  go_simp
  refine hK.out _ _ (fun z=>absurd rfl z) ?_
  clear hK K
  refine wpSeqE_nil ?_
  obtain ⟨f0,G3⟩:=FIN.out w3 _ hq0
  obtain ⟨⟨c0,c1,c2,c3,c4⟩,d0,d1,d2,d3⟩:=askO_cells f0
  have hne:br≠w.heap.size:=by omega
  clear f0 hq0
  go_wp2
  exact ask_back rfl w.heap.size ⟨3,c,z,true⟩ rfl (askO_set (k':=⟨3,c,z,true⟩) G3.out.1) rfl (⟨rfl,G3.out.2 _ (turn4 _ _ (.int .i64 3) (.int .i64 c) (.float .f64 z) (.bool true))⟩)
 ·skip
  refine wp_region_seqE (fun u=>u.cell? ⟨br,19,none⟩=some (.slice (some ⟨g,o,none⟩) k cr)) ((0,true)::(1,true)::(2,true)::(3,true)::(4,true)::(5,true)::(6,true)::(7,true)::(8,true)::(9,true)::(10,true)::(11,true)::(12,true)::(13,true)::(14,true)::(15,true)::(16,true)::(17,true)::(18,true)::(19,false)::(20,false)::(21,true)::(22,true)::(23,false)::[]) (by kernel_rfl) (by kernel_rfl) (fun _ _ _ _ _ h=>h) (by simpa using e1) ?_
  repeat (first
   | (refine wpSeqE_take (v:=?_) rfl (by rfl) (fun wq hSq=>?_) ?_;rotate_left;(focus ((try dsimp only at hSq);go_simp;try with_reducible rfl));simp only [Act.put,List.setIfInBounds_toArray,List.set_cons_zero,List.set_cons_succ]))
  refine wpSeqE_do rfl (by rfl) (fun K hK=>?_)
  go_simp
  refine hK.out _ _ (fun _=>(H5.out _ (((Same.drew u2).below _).trans (below_alloc u2.drew _))).1.1) ?_
  clear hK K
  try simp only [Act.put,List.setIfInBounds_toArray,List.set_cons_zero,List.set_cons_succ]
  refine wpSeqE_do rfl (by rfl) (fun K hK=>?_)
  refine wp_append_ex _ _ _ _ rfl _ _ rfl rfl ((H5.out (u2.drew.alloc (.cells #[.int .i64 c,.float .f64 z] 99)) (((Same.drew u2).below _).trans (below_alloc u2.drew _))).2 u2.heap.size _ (cells2_of (heap_new (w:=u2.drew) (g:=u2.heap.size) rfl)).1 (cells2_of (heap_new (w:=u2.drew) (g:=u2.heap.size) rfl)).2.1) ?_
  rintro v w3 ⟨gq,nq,cq,rfl,hq0,hq1,hq2,hq3⟩
  refine hK.out _ _ (fun _=>hq1) ?_
  clear hK K
  try simp only [Act.put,List.setIfInBounds_toArray,List.set_cons_zero,List.set_cons_succ]
  repeat (first
   | (refine wpSeqE_take (v:=?_) rfl (by rfl) (fun wq hSq=>?_) ?_;rotate_left;(focus ((try dsimp only at hSq);go_simp;try with_reducible rfl));simp only [Act.put,List.setIfInBounds_toArray,List.set_cons_zero,List.set_cons_succ]))
  refine wpSeqE_do rfl (by rfl) (fun K hK=>?_)
  go_simp
  refine hK.out _ _ (fun z=>absurd rfl z) ?_
  clear hK K
  refine wpSeqE_nil ?_
  obtain ⟨f0,G3⟩:=FIN.out w3 _ hq0
  obtain ⟨⟨c0,c1,c2,c3,c4⟩,d0,d1,d2,d3⟩:=askO_cells f0
  have hne:br≠w.heap.size:=by omega
  clear f0 hq0
  go_wp2
  exact ask_back rfl w.heap.size ⟨3,c,z,true⟩ rfl (askO_set (k':=⟨3,c,z,true⟩) G3.out.1) rfl (⟨rfl,G3.out.2 _ (turn4 _ _ (.int .i64 3) (.int .i64 c) (.float .f64 z) (.bool true))⟩)
end
end Go.Proofs.YteinilmecnlanabGreatDoor
namespace Go.Proofs.YteinilmecnlanabGreatDoor
open Go.ChangeShapes Go.WideShapes Go.ChangeAt Go.RowKit Num
attribute [local go_sem] run_store_float
theorem app_copy {u:World} {g o n c:Nat} {l:Wr} (hr:u.rangeAt g o (l.flatMap tchC)) (hl:l.length=n) (h0:0<n) (hn:n≤32) (ty:TypeId):∃ v u',(Builtin.append_ #[55,55] ty #[.slice none 0 0,.slice (some ⟨g,o,none⟩) n c]).run Tryz.prog u=.ok v u'∧∃ c' arr,v=.slice (some ⟨u.heap.size,0,none⟩) n c'∧n≤c'∧u'.heap[u.heap.size]?=some (.cells arr 99 (0,0))∧Ro u' (some ⟨u.heap.size,0,none⟩) (l.flatMap tchC)∧Below u.heap.size u u'∧u.heap.size<u'.heap.size:=by
 obtain ⟨i,hi,hz0,hz1,hz2⟩:=info_parts tInfo
 have hs:Src Tryz.prog i.size 55 (.slice (some ⟨g,o,none⟩) n c) n (l.flatMap tchC) u:=by
  rw [hz1]
  refine Src.ofSlice u Tryz.underlying55 ⟨g,o,none⟩ n c (l.flatMap tchC) (by rw [tch_len,hl]) (fun j v hv=>?_) (tch_one l)
  rw [Addr.add_mid]
  exact hr j v hv
 have hb:i.bytes≤64:=by rw [hz2];omega
 refine ⟨_,_,run_append_grow_src u 55 55 ty 99 i _ Tryz.underlying55 hi hz0 none 0 0 [] (run_firstCells_none _ _ _ _ _) _ n _ hs (by omega) (by omega) (growslice_fits (by omega) (Nat.le_trans (Nat.mul_le_mul (show 0+n≤64 by omega) hb) (by decide))),grownCap u (0+n) 0 99,_,by rw [Nat.zero_add],by have:=grownCap_ge u (0+n) 0 99;omega,heap_new (w:=u.drew) rfl,.inr ⟨_,_,rfl,fun j v hv=>?_⟩,((Same.drew u).below _).trans (below_alloc u.drew _),by simp⟩
 have hj:=(List.getElem?_eq_some_iff.1 hv).1
 refine (cell_of_row _ u.heap.size (0+j) _ _ _ (heap_new (w:=u.drew) (g:=u.heap.size) rfl)).trans ?_
 rw [Nat.zero_add,Array.getElem?_append_left (by simpa using hj)]
 simpa using hv
theorem tch_set:∀ (l:Wr) (i:Nat) (x:Nat),i<l.length→(l.set i ((l.getD i (0,0)).1,x)).flatMap tchC=(l.flatMap tchC).set (i*2+1) (.float .f64 x)
 | [],i,_,h=>by simp at h
 | a::l,0,x,_=>rfl
 | a::l,i+1,x,h=>by
  have:=tch_set l i x (by simpa using h)
  rw [show (i+1)*2+1=i*2+1+2 by omega]
  simp only [List.set_cons_succ,List.getD_cons_succ,List.flatMap_cons]
  rw [this]
  rfl
theorem cells_set:∀ (l:Wr) (i:Nat) (x:Nat),i<l.length→cellsOfL (l.set i ((l.getD i (0,0)).1,x))=cellsOfL l
 | [],i,_,h=>by simp at h
 | a::l,0,x,_=>rfl
 | a::l,i+1,x,h=>by
  have:=cells_set l i x (by simpa using h)
  simp only [cellsOfL,List.set_cons_succ,List.getD_cons_succ,List.map_cons] at this ⊢
  rw [this]
def Wb (N:World) (F:List Nat) (br bl:Nat) (K:List Nat) (g:Nat) (w:World) (m:Mac) (cs:List Ins):Prop:=∃ q arr,RefAt w br q m cs∧(q.bl=bl∧fpK q cs=K)∧Turn [br,bl] [br,bl] N w∧(∀ x∈Fr br q,x∈F∨N.heap.size≤x)∧q.pb=some ⟨g,0,none⟩∧w.heap[g]?=some (.cells arr 99 (0,0))∧(br<N.heap.size∧bl<N.heap.size∧N.heap.size≤g∧Blw N K)∧∀ p∈[q.pa,q.ps,q.pc,q.pt,q.pr],g∉fpR p
section
variable {N w:World} {br bl g:Nat} {F K:List Nat} {m:Mac} {cs:List Ins}
theorem Wb.rg (h:Wb N F br bl K g w m cs):Rg N F br bl K w m cs:=by
 obtain ⟨q,_,h1,h2,h3,h4,_⟩:=h
 exact ⟨q,h1,h2,h3,h4⟩
theorem Wb.look (h:Wb N F br bl K g w m cs):(∃ c,w.cell? ⟨br,19,none⟩=some (.slice (some ⟨g,0,none⟩) m.buf.length c))∧br<w.heap.size∧g<w.heap.size∧(∀ j,w.frozen? ⟨g,j,none⟩=false)∧∀ i,i<m.buf.length→w.cell? ⟨g,i*2,none⟩=some (.int .i64 (m.buf.getD i (0,0)).1)∧w.cell? ⟨g,i*2+1,none⟩=some (.float .f64 (m.buf.getD i (0,0)).2):=by
 obtain ⟨q,arr,h1,_,_,_,h5,h6,_,_⟩:=h
 refine ⟨⟨q.cb,by rw [← h5];exact (h1.cell 19).trans rfl⟩,h1.ltB,lt_of_block h6,fun j=>frozen_of_row w g j _ _ h6,fun i hi=>?_⟩
 obtain ⟨a1,a2⟩:=tch_at m.buf hi
 obtain ⟨g1,o1,e1,b1,_⟩:=h1.buf.get a1
 obtain ⟨g2,o2,e2,b2,_⟩:=h1.buf.get a2
 rw [h5] at e1 e2
 cases e1
 cases e2
 rw [Nat.zero_add] at b1 b2
 exact ⟨b1,b2⟩
theorem Wb.put (h:Wb N F br bl K g w m cs) {i:Nat} (hi:i<m.buf.length) (x:Nat):Wb N F br bl K g (w.setCell ⟨g,i*2+1,none⟩ (.float .f64 x)) { m with buf:=m.buf.set i ((m.buf.getD i (0,0)).1,x) } cs:=by
 obtain ⟨q,arr,h1,h2,h3,h4,h5,h6,⟨b1,b2,b3,b4⟩,h8⟩:=h
 have t:=turn_set w g (i*2+1) (.float .f64 x)
 have k0:∀ p∈[q.pa,q.ps,q.pc,q.pt,q.pr],Kept (fpR p) w (w.setCell ⟨g,i*2+1,none⟩ (.float .f64 x)):=fun p hp=>t.kept (fun y hy z=>by simp at z;subst z;exact h8 p hp hy) (fun y hy=>h1.lt y (in_fr (by simp [Rp.rows] at hp ⊢;rcases hp with z | z | z | z | z <;> simp [z]) hy))
 have kb:Kept [br] w (w.setCell ⟨g,i*2+1,none⟩ (.float .f64 x)):=t.kept (fun y hy z=>by simp at hy z;omega) (fun y hy=>by simp at hy;subst hy;exact h1.ltB)
 have hbox:(rboxV { m with buf:=m.buf.set i ((m.buf.getD i (0,0)).1,x) } q)=rboxV m q:=by unfold rboxV;rw [List.length_set]
 refine ⟨q,_,{ h1 with box:=?_,loc:=?_,arg:=h1.arg.keep (k0 _ (by simp)),st:=h1.st.keep (k0 _ (by simp)),cal:=h1.cal.keep (k0 _ (by simp)),out:=h1.out.keep (k0 _ (by simp)),rds:=h1.rds.keep (k0 _ (by simp)),buf:=?_,cod:=?_,lt:=fun y hy=>Nat.lt_of_lt_of_le (h1.lt y hy) t.size,ltk:=fun y hy=>Nat.lt_of_lt_of_le (h1.ltk y hy) t.size,c5:=?_,nd:=?_ },h2,?_,h4,h5,heap_setCell_same w g (i*2+1) _ _ _ h6,⟨b1,b2,b3,b4⟩,h8⟩
 ·show _=some (Obj.cells (rboxV { m with buf:=m.buf.set i ((m.buf.getD i (0,0)).1,x) } q) _ _)
  rw [hbox]
  exact (kb.2 br (by simp)).trans h1.box
 ·exact h1.loc.keep (t.kept (fun y hy z=>by simp [fpR] at hy z;have:=h2.1;omega) h1.loc.blw)
 ·show Ro _ q.pb ((m.buf.set i ((m.buf.getD i (0,0)).1,x)).flatMap tchC)
  rw [tch_set m.buf i x hi,h5]
  have hro:=h1.buf
  rw [h5] at hro
  refine .inr ⟨g,0,rfl,fun j v hv=>?_⟩
  rw [Nat.zero_add]
  by_cases hj:i*2+1=j
  ·subst hj
   rw [List.getElem?_set_self (by rw [tch_len];omega)] at hv
   cases hv
   obtain ⟨_,a2⟩:=tch_at m.buf hi
   obtain ⟨g2,o2,e2,c2,_⟩:=hro.get a2
   cases e2
   rw [Nat.zero_add] at c2
   exact World.cell?_setCell_same _ _ _ c2
  ·rw [List.getElem?_set_ne hj] at hv
   obtain ⟨g2,o2,e2,c2,_⟩:=hro.get hv
   cases e2
   rw [Nat.zero_add] at c2
   rw [World.cell?_setCell_other _ _ _ _ (by simp)]
   exact c2
 ·exact h1.cod.keepK (t.kept (fun y hy z=>by simp at z;subst z;rw [h2.2] at hy;have:=b4 _ hy;omega) h1.ltk)
 ·show (m.buf.set i ((m.buf.getD i (0,0)).1,x)).length≤q.cb
  rw [List.length_set]
  exact h1.c5
 ·show (cellsOfL (m.buf.set i ((m.buf.getD i (0,0)).1,x))).Nodup
  rw [cells_set m.buf i x hi]
  exact h1.nd
 ·refine ⟨h3.os,h3.tape,h3.output,Nat.le_trans h3.size t.size,fun y hy hn=>(t.block y (Nat.lt_of_lt_of_le hy h3.size) (by simp;omega)).trans (h3.block y hy hn),fun y hy=>.inl hy⟩
end
section
variable {W w:World} {br bl:Nat} {F0 K:List Nat} {m:Mac} {cs:List Ins}
theorem Rg.copied (h:Rg W F0 br bl K w m cs) {n:Nat} (hn:m.buf.length=n) (h0:0<n) (h32:n≤32) (hW:br<W.heap.size∧bl<W.heap.size∧Blw W K):∃ p cb,w.cell? ⟨br,19,none⟩=some (.slice p n cb)∧br<w.heap.size∧∀ ty,∃ v u',(Builtin.append_ #[55,55] ty #[.slice none 0 0,.slice p n cb]).run Tryz.prog w=.ok v u'∧∃ c',v=.slice (some ⟨w.heap.size,0,none⟩) n c'∧(Hid (Wb W F0 br bl K w.heap.size (u'.setCell ⟨br,19,none⟩ (.slice (some ⟨w.heap.size,0,none⟩) n c')) m cs)∧u'.cell? ⟨br,19,none⟩=some (.slice p n cb)∧u'.frozen? ⟨br,19,none⟩=false∧br<u'.heap.size):=by
 obtain ⟨q,hr,hbl,ht,hF⟩:=id h
 rcases hr.buf with ⟨_,z⟩ | ⟨g,o,hp,hro⟩
 ·have:=congrArg List.length z
  rw [tch_len,hn] at this
  simp at this
  omega
 refine ⟨q.pb,q.cb,by rw [← hn];exact (hr.cell 19).trans rfl,hr.ltB,fun ty=>?_⟩
 rw [hp]
 obtain ⟨v,u',e1,c',arr,rfl,e2,e3,e4,e5,e6⟩:=app_copy (c:=q.cb) hro hn h0 h32 ty
 have h3:=hr.on e5
 refine ⟨_,u',e1,c',rfl,?_,by rw [← hn,← hp];exact (h3.cell 19).trans rfl,h3.free 19,h3.ltB⟩
 have hs:=ht.size
 have hlt:∀ p∈q.rows,w.heap.size∉fpR p:=fun p hp y=>absurd (hr.lt _ (in_fr hp y)) (Nat.lt_irrefl _)
 have hrows:∀ x∈({ q with pb:=some ⟨w.heap.size,0,none⟩,cb:=c' }:Rp).rows,Fits w q x∧Blw u' (fpR x):=fun x hx=>by
  simp only [Rp.rows,List.mem_cons,List.not_mem_nil,or_false] at hx
  rcases hx with rfl | rfl | rfl | rfl | rfl | rfl
  iterate 5 exact ⟨.inl (by simp [Rp.rows]),fun y hy=>h3.lt y (in_fr (by simp [Rp.rows]) hy)⟩
  exact ⟨.inr ⟨_,rfl,Nat.le_refl _⟩,fun y hy=>by simp [fpR] at hy;omega⟩
 obtain ⟨a1,a2⟩:=hr.re e5 19 (.slice (some ⟨w.heap.size,0,none⟩) n c') { q with pb:=some ⟨w.heap.size,0,none⟩,cb:=c' } m (by rw [← hn];rfl) ⟨rfl,rfl,rfl,rfl,rfl,rfl,rfl,rfl⟩ ⟨rfl,rfl,rfl,rfl,rfl,rfl⟩ hrows h3.st h3.cal h3.out h3.rds e4 hr.c1 hr.c2 hr.c3 hr.c4 (by rw [hn];exact e2) hr.nd
 obtain ⟨rfl,rfl⟩:=hbl
 refine ⟨_,arr,a1,⟨rfl,rfl⟩,ht.trans a2,fr_re ht.size hF rfl (fun x hx=>(hrows x hx).1),rfl,?_,⟨hW.1,hW.2.1,hs,hW.2.2⟩,fun p hp=>hlt p (by simp [Rp.rows] at hp ⊢;rcases hp with z | z | z | z | z <;> simp [z])⟩
 rw [heap_setCell_other _ _ _ _ (by simp;have:=hr.ltB;omega)]
 exact e3
def lk (l:Wr) (c:Int) (z k:Nat):Wr:=if k≤idx l c then l else putC l c z
theorem lk_len (l:Wr) (c:Int) (z k:Nat) (h:hasC l c=true):(lk l c z k).length=l.length:=by
 unfold lk putC
 rw [h]
 split
 ·rfl
 ·simp
theorem put_set {l:Wr} {c:Int} {z:Nat} (h:hasC l c=true):putC l c z=l.set (idx l c) ((l.getD (idx l c) (0,0)).1,z):=by
 have hlt:idx l c<l.length:=by unfold hasC at h;simpa using h
 have:=idx_at hlt
 unfold putC
 rw [h,if_pos rfl,List.getD_eq_getElem?_getD,List.getElem?_eq_getElem hlt]
 simp only [Option.getD_some,this]
theorem lk_at {l:Wr} {c:Int} {z k:Nat} (hn:(cellsOfL l).Nodup) (h:hasC l c=true) (hk:k<l.length):((lk l c z k).getD k (0,0)).1=c ↔ k=idx l c:=by
 have hlt:idx l c<l.length:=by unfold hasC at h;simpa using h
 have e:((lk l c z k).getD k (0,0)).1=(l.getD k (0,0)).1:=by
  unfold lk
  split
  ·rfl
  ·rw [put_set h]
   rw [List.getD_eq_getElem?_getD,List.getElem?_set_ne (by omega),← List.getD_eq_getElem?_getD]
 rw [e,List.getD_eq_getElem?_getD,List.getElem?_eq_getElem hk]
 simp only [Option.getD_some]
 constructor
 ·intro q
  have:=idx_of hn hk
  rw [q] at this
  exact this.symm
 ·rintro rfl
  exact idx_at hlt
theorem lk_next {l:Wr} {c:Int} {z k:Nat} (h:hasC l c=true) (hk:k=idx l c):(lk l c z k).set k (((lk l c z k).getD k (0,0)).1,z)=lk l c z (k+1):=by
 unfold lk
 rw [if_pos (by omega),if_neg (by omega),put_set h,hk]
theorem lk_skip {l:Wr} {c:Int} {z k:Nat} (hk:¬ k=idx l c):lk l c z (k+1)=lk l c z k:=by
 unfold lk
 by_cases h1:k≤idx l c
 ·rw [if_pos (by omega),if_pos h1]
 ·rw [if_neg (by omega),if_neg h1]
theorem lk_end {l:Wr} {c:Int} {z:Nat} (h:hasC l c=true):lk l c z l.length=putC l c z:=by
 have hlt:idx l c<l.length:=by unfold hasC at h;simpa using h
 unfold lk
 rw [if_neg (by omega)]
theorem rwrite_again (h:Rg W F0 br bl K w m cs) {y z:Nat} {s:List Nat} (hs:m.st=y::z::s) (hs2:m.st.length≤64) (ho:y<18446744073709551616) (hl:m.buf.length≤32) (hu:m.upd=true) (ha:addrB m=true) (hh:hasC m.buf (addrV m)=true):Calls Tryz.prog 98 #[.pointer (some ⟨br,0,none⟩)] w fun r w'=>r=.returned (askV ⟨3,addrV m,z,false⟩)∧Rg W F0 br bl K w' { m with st:=s,buf:=putC m.buf (addrV m) z } cs:=by
 have hbk:br<w.heap.size∧bl<w.heap.size∧Blw w K:=by
  obtain ⟨q,hr,⟨rfl,rfl⟩,_⟩:=id h
  exact ⟨hr.ltB,hr.lt _ (by simp [Fr]),hr.ltk⟩
 have hnd:(cellsOfL m.buf).Nodup:=by
  obtain ⟨q,hr,_⟩:=id h
  exact hr.nd
 obtain ⟨h0,hb⟩:=h.at0
 obtain ⟨t4,h4⟩:=h.tag4
 obtain ⟨F,h1,hX⟩:=h.leave (askO ask0)
 have HX:=Lib.hid hX
 have HT:=Lib.hid (h1.addr hs hs2)
 have HT1:Hid (∀ n,Calls Tryz.prog 93 #[.pointer (some ⟨br,0,none⟩),.int .i64 1] ((w.alloc (askO ask0)).drewN n) fun e w'=>e=.returned (.float .f64 z)∧∃ q,w'=(w.alloc (askO ask0)).drewN q):=by
  have:=h1.top (k:=1) (by rw [hs];simp) hs2
  rw [hs] at this
  exact this
 have HI:=Lib.hid (fun w=>refIndex_any y m.cells w ho)
 have hc:addrV m=idxV y m.cells:=by unfold addrV;rw [hs];rfl
 have ha':idxE y m.cells=0:=by unfold addrB at ha;rw [hs] at ha;unfold idxE;exact if_pos ha
 rw [← hc,ha'] at HI
 have HW:Hid (∀ n,Calls Tryz.prog 122 #[.pointer (some ⟨br,0,none⟩),.int .i64 (addrV m)] ((w.alloc (askO ask0)).drewN n) fun e w'=>∃ xv,e=.returned (.tuple #[.float .f64 xv,.bool true])∧Rg (w.alloc (askO ask0)) F br bl K w' m cs):=fun n=>by
  have k1:=h1.same (Same.drewN _ n)
  refine (rwrote_any k1 (addrV m) hl).mono fun e u ⟨a1,a2⟩=>⟨wroteV m.buf (addrV m),by rw [a1,hh],k1.on a2⟩
 have H319:Hid (∀ u,Rg (w.alloc (askO ask0)) F br bl K u m cs→(∃ p c,u.cell? ⟨br,19,none⟩=some (.slice p m.buf.length c))∧u.cell? ⟨br,3,none⟩=some (.int .i64 m.wmax)∧br<u.heap.size):=fun u ⟨q,hr,_⟩=>⟨⟨q.pb,q.cb,(hr.cell 19).trans rfl⟩,(hr.cell 3).trans rfl,hr.ltB⟩
 have HTR:Hid (∀ u,Rg (w.alloc (askO ask0)) F br bl K u m cs→Calls Tryz.prog 76 #[.pointer (some ⟨br,0,none⟩),.int .i64 2,.slice none 0 0] u fun e w'=>e=.returned (.tuple #[])∧Rg (w.alloc (askO ask0)) F br bl K w' { m with st:=s } cs):=fun u hu=>by
  have:=rtrade_none hu (k:=2) (r:=s.length) (by rw [hs];simp) (by omega) hs2
  rw [show m.st.drop 2=s by rw [hs];rfl] at this
  exact this
 have ht:t4=2:=by rw [h4.2] at hu;simpa using hu
 subst ht
 replace h4:=h4.1
 have hn0:0<m.buf.length:=by
  have:idx m.buf (addrV m)<m.buf.length:=by unfold hasC at hh;simpa using hh
  omega
 obtain ⟨n,hn⟩:∃ n,m.buf.length=n:=⟨_,rfl⟩
 have HCP:Hid (∀ u,Rg (w.alloc (askO ask0)) F br bl K u { m with st:=s } cs→_):=fun u hu=>Rg.copied (m:={ m with st:=s }) (n:=n) hu hn (by omega) (by omega) ⟨by simp;omega,by simp;omega,fun x hx=>by have:=hbk.2.2 x hx;simp;omega⟩
 have HL:Hid (∀ k,(lk m.buf (addrV m) z k).length=n):=fun k=>(lk_len _ _ _ _ hh).trans hn
 have HAT:Hid (∀ k,k<n→(((lk m.buf (addrV m) z k).getD k (0,0)).1=addrV m→(lk m.buf (addrV m) z k).set k (((lk m.buf (addrV m) z k).getD k (0,0)).1,z)=lk m.buf (addrV m) z (k+1))∧(¬ ((lk m.buf (addrV m) z k).getD k (0,0)).1=addrV m→lk m.buf (addrV m) z (k+1)=lk m.buf (addrV m) z k)):=fun k hk=>⟨fun e=>lk_next hh ((lk_at hnd hh (by omega)).1 e),fun e=>lk_skip (fun q=>e ((lk_at hnd hh (by omega)).2 q))⟩
 have HE:Hid (lk m.buf (addrV m) z n=putC m.buf (addrV m) z∧lk m.buf (addrV m) z 0=m.buf):=by
  refine ⟨?_,?_⟩
  ·rw [← hn]
   exact lk_end hh
  ·unfold lk
   exact if_pos (Nat.zero_le _)
 have hn32:n≤32:=by omega
 have hfd:True:=True.intro
 clear h h1 hX ha ha' ho hs hs2 hu hc hh hnd hbk hl hn0 hfd
 rw [← HE.out.1]
 generalize addrV m=c at *
 go_enter Tryz.func98,Tryz.ntmps98
 go_wp2
 go_quiet (first
  | (go_at_call 93;exact HT.out _)
  | (go_at_call 121;exact Calls.quiet_of_same (HI.out _)))
 go_wp2_with (first
  | (go_at_call 122;refine (HW.out _).mono ?_;rintro e u1 ⟨xv,rfl,q⟩;obtain ⟨⟨pb,cb,b1⟩,b2,b3⟩:=H319.out _ q;have G1:=Lib.hid q;clear q)
  | (go_at_call 93;refine (HT1.out _).mono ?_;rintro e u ⟨rfl,qn,hu⟩;subst u))
 go_quiet (fail)
 go_wp2_with (first
  | (at_builtin;refine wpList_append_ex rfl _ _ _ _ rfl _ _ rfl rfl (e3 _) ?_;rintro v u3 ⟨c',rfl,q0,q1,q2,q3⟩;obtain ⟨⟨cb2,x0⟩,x1,x2,x3,x4⟩:=q0.out.look;have HWB:=Lib.hid q0.out;clear q0)
  | (go_at_call 76;refine (HTR.out _ (G1.out.same (Same.drewN _ _))).mono ?_;rintro e u2 ⟨rfl,q⟩;obtain ⟨p,cb1,e1,e2,e3⟩:=HCP.out _ q;have G2:=Lib.hid q;clear q))
 go_loopw [8,100] (fun _ vi wr=>∃ k:Nat,vi=.int .i64 k∧k≤n∧Hid (Wb (w.alloc (askO ask0)) F br bl K u2.heap.size wr { m with st:=s,buf:=lk m.buf c z k } cs)) (fun _ vi _=>n - (intOf vi).toNat)
 case atStart =>
  refine ⟨0,rfl,by omega,?_⟩
  rw [HE.out.2]
  exact HWB.out
 case round =>
  obtain ⟨k,rfl,hk,HWK⟩:=hrel
  obtain ⟨⟨cb3,y0⟩,y1,y2,y3,y4⟩:=HWK.out.look
  by_cases hkn:k<n
  ·have hkn':(k:Int)<(n:Int):=by omega
   have hkl:k<(lk m.buf c z k).length:=by rw [HL.out];exact hkn
   obtain ⟨y5,y6⟩:=y4 k hkl
   have y7:=y3 (k*2+1)
   obtain ⟨a1,a2⟩:=HAT.out k hkn
   have HPT:=Lib.hid (HWK.out.put hkl z)
   have HA1:=Lib.hid a1
   have HA2:=Lib.hid a2
   replace y0:wr.cell? ⟨br,19,none⟩=some (.slice (some ⟨u2.heap.size,0,none⟩) n cb3):=by have y0':=y0;rw [show ({ m with st:=s,buf:=lk m.buf c z k }:Mac).buf.length=n from HL.out k] at y0';exact y0'
   replace y5:wr.cell? ⟨u2.heap.size,k*2,none⟩=some (.int .i64 ((lk m.buf c z k).getD k (0,0)).1):=y5
   replace y6:wr.cell? ⟨u2.heap.size,k*2+1,none⟩=some (.float .f64 ((lk m.buf c z k).getD k (0,0)).2):=y6
   clear y3 y4 a1 a2 hkl x0 x1 x2 x3 x4
   generalize htc:((lk m.buf c z k).getD k (0,0)).1=tc at *
   generalize ((lk m.buf c z k).getD k (0,0)).2=tx at *
   by_cases he:tc=c
   ·have e7:=HA1.out he
    have HP2:Hid (Wb (w.alloc (askO ask0)) F br bl K u2.heap.size (wr.setCell ⟨u2.heap.size,k*2+1,none⟩ (.float .f64 z)) { m with st:=s,buf:=lk m.buf c z (k+1) } cs):=by
     have:=HPT.out
     rw [← e7]
     exact this
    clear e7 HA1 HA2 HPT
    subst he
    clear htc
    go_wp2
    exact ⟨⟨k+1,by first | rfl | (congr 1),by omega,HP2.out⟩,by simp [intOf];omega⟩
   ·have e7:=HA2.out he
    have HP2:Hid (Wb (w.alloc (askO ask0)) F br bl K u2.heap.size wr { m with st:=s,buf:=lk m.buf c z (k+1) } cs):=by
     show Wb _ _ _ _ _ _ _ _ _
     rw [e7]
     exact HWK.out
    clear e7 HA1 HA2 HPT htc
    go_wp2
    exact ⟨⟨k+1,by first | rfl | (congr 1),by omega,HP2.out⟩,by simp [intOf];omega⟩
  ·have hkn':¬ (k:Int)<(n:Int):=by omega
   obtain rfl:k=n:=by omega
   obtain ⟨r1,r2⟩:=HX.out _ _ HWK.out.rg
   obtain ⟨⟨c0,c1,c2,c3,c4⟩,d0,d1,d2,d3⟩:=askO_cells r1
   have G3:=Lib.hid (And.intro r1 r2)
   clear r1 r2 y0 y3 y4 x0 x3 x4
   go_wp2
   exact ask_back rfl w.heap.size ⟨3,c,z,false⟩ rfl (askO_set (k':=⟨3,c,z,false⟩) G3.out.1) rfl (⟨rfl,G3.out.2 _ (turn4 _ _ (.int .i64 3) (.int .i64 c) (.float .f64 z) (.bool false))⟩)
end
end Go.Proofs.YteinilmecnlanabGreatDoor
namespace Go.Proofs.YteinilmecnlanabGreatDoor
open Go.ChangeShapes Go.WideShapes Go.ChangeAt Go.RowKit Num
attribute [local go_sem] run_store_float
section
variable {W w:World} {br bl:Nat} {F0 K:List Nat} {m:Mac} {cs:List Ins}
theorem Rg.both (h:Rg W F0 br bl K w m cs) (i:Ins):∃ F,Rg ((w.alloc (insO i)).alloc (askO ask0)) F br bl K ((w.alloc (insO i)).alloc (askO ask0)) m cs∧∀ u m',Rg ((w.alloc (insO i)).alloc (askO ask0)) F br bl K u m' cs→u.heap[w.heap.size]?=some (insO i)∧u.heap[w.heap.size+1]?=some (askO ask0)∧Rg W F0 br bl K u m' cs∧∀ u',Turn [w.heap.size+1] [w.heap.size+1] u u'→Rg W F0 br bl K u' m' cs:=by
 obtain ⟨F,h1,h2⟩:=h.away (N:=(w.alloc (insO i)).alloc (askO ask0)) ((below_alloc w (insO i)).trans ((below_alloc _ (askO ask0)).mono (by simp)))
 refine ⟨F,h1,fun u m' hu=>?_⟩
 obtain ⟨a1,a2,a3⟩:=h2 u m' hu
 exact ⟨(a1 _ (Nat.le_refl _) (by simp;omega)).trans ((heap_alloc_old _ _ (by simp)).trans (heap_alloc_new w _)),(a1 (w.heap.size+1) (by omega) (by simp)).trans (heap_new (by simp)),a2,fun u' t=>a3 _ u' (by omega) (by simp) t⟩
theorem Rg.at11 (h:Rg W F0 br bl K w m cs) (c:Int):w.cell? ⟨br,11,none⟩=some (.int .i64 m.place)∧w.frozen? ⟨br,11,none⟩=false∧br<w.heap.size∧Rg W F0 br bl K (w.setCell ⟨br,11,none⟩ (.int .i64 c)) { m with place:=c } cs:=by
 obtain ⟨q,hr,_,_,_⟩:=id h
 exact ⟨(hr.cell 11).trans rfl,hr.free 11,hr.ltB,h.set 11 (.int .i64 c) { m with place:=c } (fun q=>rfl) ⟨rfl,rfl,rfl,rfl,rfl,rfl,rfl,rfl,rfl⟩ id⟩
theorem Rg.at14 (h:Rg W F0 br bl K w m cs) (o c e:Int) (ho:¬ o=0):(w.cell? ⟨br,14,none⟩=some (.int .i64 m.how)∧w.cell? ⟨br,15,none⟩=some (.int .i64 m.cod)∧w.cell? ⟨br,16,none⟩=some (.int .i64 m.err))∧(w.frozen? ⟨br,14,none⟩=false∧w.frozen? ⟨br,15,none⟩=false∧w.frozen? ⟨br,16,none⟩=false)∧br<w.heap.size∧Rg W F0 br bl K (((w.setCell ⟨br,14,none⟩ (.int .i64 o)).setCell ⟨br,15,none⟩ (.int .i64 c)).setCell ⟨br,16,none⟩ (.int .i64 e)) { m with how:=o,cod:=c,err:=e } cs:=by
 obtain ⟨q,hr,_,_,_⟩:=id h
 refine ⟨⟨(hr.cell 14).trans rfl,(hr.cell 15).trans rfl,(hr.cell 16).trans rfl⟩,⟨hr.free 14,hr.free 15,hr.free 16⟩,hr.ltB,?_⟩
 have g1:=h.set 14 (.int .i64 o) { m with how:=o } (fun q=>rfl) ⟨rfl,rfl,rfl,rfl,rfl,rfl,rfl,rfl,rfl⟩ (fun _ z=>absurd z ho)
 have g2:=g1.set 15 (.int .i64 c) { m with how:=o,cod:=c } (fun q=>rfl) ⟨rfl,rfl,rfl,rfl,rfl,rfl,rfl,rfl,rfl⟩ (fun _ z=>absurd z ho)
 exact g2.set 16 (.int .i64 e) { m with how:=o,cod:=c,err:=e } (fun q=>rfl) ⟨rfl,rfl,rfl,rfl,rfl,rfl,rfl,rfl,rfl⟩ (fun _ z=>absurd z ho)
theorem Rg.over (h:Rg W F0 br bl K w m cs) (h0:m.how=0) (he:m.err=0):Rg W F0 br bl K (w.setCell ⟨br,14,none⟩ (.int .i64 1)) { m with how:=1,cod:=0,err:=0 } cs∧w.cell? ⟨br,14,none⟩=some (.int .i64 m.how)∧w.frozen? ⟨br,14,none⟩=false∧br<w.heap.size:=by
 obtain ⟨q,hr,_,_,_⟩:=id h
 have g1:=h.set 14 (.int .i64 1) { m with how:=1 } (fun q=>rfl) ⟨rfl,rfl,rfl,rfl,rfl,rfl,rfl,rfl,rfl⟩ (fun _ z=>absurd z (by show ¬ (1:Int)=0;decide))
 have e:({ m with how:=1,cod:=0,err:=0 }:Mac)={ m with how:=1 }:=by
  have:=hr.zc h0
  cases m
  simp_all
 rw [e]
 exact ⟨g1,(hr.cell 14).trans rfl,hr.free 14,hr.ltB⟩
theorem rdo_push (h:Rg W F0 br bl K w m cs) {n:Int} {x:Nat} (hs:m.st.length<64):Calls Tryz.prog 75 #[.pointer (some ⟨br,0,none⟩),insV ⟨1,n,x⟩] w fun r w'=>r=.returned (askV ask0)∧Rg W F0 br bl K w' { m with st:=fixB x::m.st } cs:=by
 obtain ⟨F,h1,hX⟩:=h.both ⟨1,n,x⟩
 have HX:=Lib.hid hX
 have hb:=h.ltB
 have HTR:Hid (∀ g,g=((w.alloc (insO ⟨1,n,x⟩)).alloc (askO ask0)).heap.size→Calls Tryz.prog 76 #[.pointer (some ⟨br,0,none⟩),.int .i64 0,.slice (some ⟨g,0,none⟩) 1 1] (((w.alloc (insO ⟨1,n,x⟩)).alloc (askO ask0)).alloc (.cells #[.float .f64 (fixB x)] 64)) fun e w'=>e=.returned (.tuple #[])∧Rg ((w.alloc (insO ⟨1,n,x⟩)).alloc (askO ask0)) F br bl K w' { m with st:=fixB x::m.st } cs):=fun g hg=>by
  subst hg
  exact h1.trade1 (fixB x) (k:=0) (r:=m.st.length) (by omega) (by omega)
 clear h h1 hX hs
 unfold insV
 go_enter Tryz.func75,Tryz.ntmps75
 go_wp2_with (first
  | (go_at_call 76;refine (HTR.out _ (by simp)).mono ?_;rintro e u2 ⟨rfl,q⟩;obtain ⟨r0,r1,r2,r3⟩:=HX.out _ _ q;obtain ⟨⟨c0,c1,c2,c3,c4⟩,d0,d1,d2,d3⟩:=askO_cells r1;obtain ⟨i0,i1,i2,i3⟩:=cells3_of r0;have G9:=Lib.hid (And.intro r1 r3);clear q r0 r1 r2 r3)
  | (go_at_call 48;refine (refFix_any _ _).mono ?_;rintro e u ⟨rfl,hu⟩;subst u))
 exact ask_back rfl (w.heap.size+1) ask0 rfl (askO_set (k':=ask0) G9.out.1) rfl ⟨rfl,G9.out.2 _ (turn4 _ _ (.int .i64 0) (.int .i64 0) (.float .f64 0) (.bool false))⟩
theorem rdo_drop (h:Rg W F0 br bl K w m cs) {n:Int} {x:Nat} {y:Nat} {s:List Nat} (hs:m.st=y::s) (hs2:m.st.length≤64):Calls Tryz.prog 75 #[.pointer (some ⟨br,0,none⟩),insV ⟨2,n,x⟩] w fun r w'=>r=.returned (askV ask0)∧Rg W F0 br bl K w' { m with st:=s } cs:=by
 obtain ⟨F,h1,hX⟩:=h.both ⟨2,n,x⟩
 have HX:=Lib.hid hX
 have hb:=h.ltB
 have HTR:Hid (Calls Tryz.prog 76 #[.pointer (some ⟨br,0,none⟩),.int .i64 1,.slice none 0 0] ((w.alloc (insO ⟨2,n,x⟩)).alloc (askO ask0)) fun e w'=>e=.returned (.tuple #[])∧Rg ((w.alloc (insO ⟨2,n,x⟩)).alloc (askO ask0)) F br bl K w' { m with st:=s } cs):=by
  have:=rtrade_none h1 (k:=1) (r:=s.length) (by rw [hs];simp) (by omega) hs2
  rw [show m.st.drop 1=s by rw [hs];rfl] at this
  exact this
 clear h h1 hX hs hs2
 unfold insV
 go_enter Tryz.func75,Tryz.ntmps75
 go_wp2_with (go_at_call 76;refine HTR.out.mono ?_;rintro e u2 ⟨rfl,q⟩;obtain ⟨r0,r1,r2,r3⟩:=HX.out _ _ q;obtain ⟨⟨c0,c1,c2,c3,c4⟩,d0,d1,d2,d3⟩:=askO_cells r1;obtain ⟨i0,i1,i2,i3⟩:=cells3_of r0;have G9:=Lib.hid (And.intro r1 r3);clear q r0 r1 r2 r3)
 exact ask_back rfl (w.heap.size+1) ask0 rfl (askO_set (k':=ask0) G9.out.1) rfl ⟨rfl,G9.out.2 _ (turn4 _ _ (.int .i64 0) (.int .i64 0) (.float .f64 0) (.bool false))⟩
theorem rdo_jump (h:Rg W F0 br bl K w m cs) {n:Int} {x:Nat}:Calls Tryz.prog 75 #[.pointer (some ⟨br,0,none⟩),insV ⟨11,n,x⟩] w fun r w'=>r=.returned (askV ask0)∧Rg W F0 br bl K w' { m with place:=n } cs:=by
 obtain ⟨e1,e2,e3,e4⟩:=h.at11 n
 have G9:=Lib.hid e4
 clear h e4
 unfold insV
 go_enter Tryz.func75,Tryz.ntmps75
 go_wp2
 exact ask_back rfl (w.heap.size+1) ask0 rfl (heap_new (by simp)) rfl ⟨rfl,(G9.out.alloc _).alloc _⟩
theorem rdo_abort (h:Rg W F0 br bl K w m cs) {n:Int} {x:Nat}:Calls Tryz.prog 75 #[.pointer (some ⟨br,0,none⟩),insV ⟨19,n,x⟩] w fun r w'=>r=.returned (askV askEnd)∧Rg W F0 br bl K w' { m with how:=2,cod:=n,err:=0 } cs:=by
 obtain ⟨⟨e1,e2,e3⟩,⟨f1,f2,f3⟩,hb,e4⟩:=h.at14 2 n 0 (by decide)
 have G9:=Lib.hid e4
 clear h e4
 unfold insV
 go_enter Tryz.func75,Tryz.ntmps75
 go_wp2
 exact ask_back rfl (w.heap.size+1) askEnd rfl (heap_new (by simp)) rfl ⟨rfl,(G9.out.alloc _).alloc _⟩
theorem rdo_halt (h:Rg W F0 br bl K w m cs) {n:Int} {x:Nat} (h0:m.how=0) (he:m.err=0):Calls Tryz.prog 75 #[.pointer (some ⟨br,0,none⟩),insV ⟨20,n,x⟩] w fun r w'=>r=.returned (askV askEnd)∧Rg W F0 br bl K w' { m with how:=1,cod:=0,err:=0 } cs:=by
 obtain ⟨e4,e1,f1,hb⟩:=h.over h0 he
 have G9:=Lib.hid e4
 clear h e4 h0 he
 unfold insV
 go_enter Tryz.func75,Tryz.ntmps75
 go_wp2
 exact ask_back rfl (w.heap.size+1) askEnd rfl (heap_new (by simp)) rfl ⟨rfl,(G9.out.alloc _).alloc _⟩
theorem rdo_ret0 (h:Rg W F0 br bl K w m cs) {n:Int} {x:Nat} (h0:m.how=0) (he:m.err=0) (hc:m.calls=[]):Calls Tryz.prog 75 #[.pointer (some ⟨br,0,none⟩),insV ⟨15,n,x⟩] w fun r w'=>r=.returned (askV askEnd)∧Rg W F0 br bl K w' { m with how:=1,cod:=0,err:=0 } cs:=by
 obtain ⟨e4,e1,f1,hb⟩:=h.over h0 he
 obtain ⟨q,hr,_⟩:=id h
 have e9:w.cell? ⟨br,9,none⟩=some (.slice q.pc 0 q.cc):=by have z:w.cell? ⟨br,9,none⟩=some (.slice q.pc m.calls.length q.cc):=(hr.cell 9).trans rfl;rw [hc] at z;exact z
 have G9:=Lib.hid e4
 clear h e4 h0 he hr hc
 unfold insV
 go_enter Tryz.func75,Tryz.ntmps75
 go_wp2
 exact ask_back rfl (w.heap.size+1) askEnd rfl (heap_new (by simp)) rfl ⟨rfl,(G9.out.alloc _).alloc _⟩
theorem Rg.topG (h:Rg W F0 br bl K w m cs) {k:Nat} (hk:k<m.st.length) (hs:m.st.length≤64):Calls Tryz.prog 93 #[.pointer (some ⟨br,0,none⟩),.int .i64 k] w fun e w'=>e=.returned (.float .f64 (m.st.getD k 0))∧Rg W F0 br bl K w' m cs:=(rtop_any h hk hs).mono fun e w' ⟨a,n,b⟩=>⟨a,by rw [b];exact h.same (Same.drewN _ _)⟩
theorem Rg.drop1 (h:Rg W F0 br bl K w m cs) {y:Nat} {s:List Nat} (hs:m.st=y::s) (hs2:m.st.length≤64):Calls Tryz.prog 76 #[.pointer (some ⟨br,0,none⟩),.int .i64 1,.slice none 0 0] w fun e w'=>e=.returned (.tuple #[])∧Rg W F0 br bl K w' { m with st:=s } cs:=by
 have:=rtrade_none h (k:=1) (r:=s.length) (by rw [hs];simp) (by omega) hs2
 rw [show m.st.drop 1=s by rw [hs];rfl] at this
 exact this
theorem Rg.trade2 (h:Rg W F0 br bl K w m cs) (a b:Nat) {k r:Nat} (hk:m.st.length=r+k) (hs:m.st.length≤64):Calls Tryz.prog 76 #[.pointer (some ⟨br,0,none⟩),.int .i64 k,.slice (some ⟨w.heap.size,0,none⟩) 2 2] (w.alloc (.cells #[.float .f64 a,.float .f64 b] 64)) fun e w'=>e=.returned (.tuple #[])∧Rg W F0 br bl K w' { m with st:=b::a::m.st.drop k } cs :=
 rtrade_some (h.alloc _) (l:=[a,b]) hk rfl (by omega) (by omega) hs (fun j v hv=>by
  match j,hv with
  | 0,hv=>rw [cell_of_row _ _ _ _ _ _ (heap_alloc_new w _)];simpa [fls] using hv
  | 1,hv=>rw [cell_of_row _ _ _ _ _ _ (heap_alloc_new w _)];simpa [fls] using hv
  | j+2,hv=>simp [fls] at hv)
theorem rdo_dup (h:Rg W F0 br bl K w m cs) {n:Int} {x:Nat} {y:Nat} {s:List Nat} (hs:m.st=y::s) (hs2:m.st.length≤64):Calls Tryz.prog 75 #[.pointer (some ⟨br,0,none⟩),insV ⟨3,n,x⟩] w fun r w'=>r=.returned (askV ask0)∧Rg W F0 br bl K w' { m with st:=y::m.st } cs:=by
 obtain ⟨F,h1,hX⟩:=h.both ⟨3,n,x⟩
 have HX:=Lib.hid hX
 have hb:=h.ltB
 have HT:Hid (∀ u,Rg ((w.alloc (insO ⟨3,n,x⟩)).alloc (askO ask0)) F br bl K u m cs→Calls Tryz.prog 93 #[.pointer (some ⟨br,0,none⟩),.int .i64 0] u fun e w'=>e=.returned (.float .f64 y)∧Rg ((w.alloc (insO ⟨3,n,x⟩)).alloc (askO ask0)) F br bl K w' m cs):=fun u hu=>by
  have:=hu.topG (k:=0) (by rw [hs];simp) hs2
  rw [hs] at this
  exact this
 have HTR:Hid (∀ u x1,Rg ((w.alloc (insO ⟨3,n,x⟩)).alloc (askO ask0)) F br bl K u m cs→Calls Tryz.prog 76 #[.pointer (some ⟨br,0,none⟩),.int .i64 0,.slice (some ⟨u.heap.size,0,none⟩) 1 1] (u.alloc (.cells #[.float .f64 x1] 64)) fun e w'=>e=.returned (.tuple #[])∧Rg ((w.alloc (insO ⟨3,n,x⟩)).alloc (askO ask0)) F br bl K w' { m with st:=x1::m.st } cs):=fun u x1 hu=>by
  have:=hu.trade1 x1 (k:=0) (r:=m.st.length) (by omega) hs2
  rw [List.drop_zero] at this
  exact this
 have G0:=Lib.hid h1
 clear h h1 hX hs hs2
 unfold insV
 go_enter Tryz.func75,Tryz.ntmps75
 go_wp2_with (first
  | (go_at_call 76;refine (HTR.out _ _ G1.out).mono ?_;rintro e u9 ⟨rfl,q⟩;obtain ⟨r0,r1,r2,r3⟩:=HX.out _ _ q;obtain ⟨⟨c0,c1,c2,c3,c4⟩,d0,d1,d2,d3⟩:=askO_cells r1;obtain ⟨i0,i1,i2,i3⟩:=cells3_of r0;have G9:=Lib.hid (And.intro r1 r3);clear q r0 r1 r2 r3)
  | (go_at_call 93;refine (HT.out _ G0.out).mono ?_;rintro e u1 ⟨rfl,q⟩;have G1:=Lib.hid q;clear q))
 exact ask_back rfl (w.heap.size+1) ask0 rfl (askO_set (k':=ask0) G9.out.1) rfl ⟨rfl,G9.out.2 _ (turn4 _ _ (.int .i64 0) (.int .i64 0) (.float .f64 0) (.bool false))⟩
theorem rdo_swap (h:Rg W F0 br bl K w m cs) {n:Int} {x:Nat} {y z:Nat} {s:List Nat} (hs:m.st=y::z::s) (hs2:m.st.length≤64):Calls Tryz.prog 75 #[.pointer (some ⟨br,0,none⟩),insV ⟨4,n,x⟩] w fun r w'=>r=.returned (askV ask0)∧Rg W F0 br bl K w' { m with st:=z::y::s } cs:=by
 obtain ⟨F,h1,hX⟩:=h.both ⟨4,n,x⟩
 have HX:=Lib.hid hX
 have hb:=h.ltB
 have HT:Hid (∀ u,Rg ((w.alloc (insO ⟨4,n,x⟩)).alloc (askO ask0)) F br bl K u m cs→Calls Tryz.prog 93 #[.pointer (some ⟨br,0,none⟩),.int .i64 0] u fun e w'=>e=.returned (.float .f64 y)∧Rg ((w.alloc (insO ⟨4,n,x⟩)).alloc (askO ask0)) F br bl K w' m cs):=fun u hu=>by
  have:=hu.topG (k:=0) (by rw [hs];simp) hs2
  rw [hs] at this
  exact this
 have HT1:Hid (∀ u,Rg ((w.alloc (insO ⟨4,n,x⟩)).alloc (askO ask0)) F br bl K u m cs→Calls Tryz.prog 93 #[.pointer (some ⟨br,0,none⟩),.int .i64 1] u fun e w'=>e=.returned (.float .f64 z)∧Rg ((w.alloc (insO ⟨4,n,x⟩)).alloc (askO ask0)) F br bl K w' m cs):=fun u hu=>by
  have:=hu.topG (k:=1) (by rw [hs];simp) hs2
  rw [hs] at this
  exact this
 have G0:=Lib.hid h1
 have HTR:Hid (∀ u a b,Rg ((w.alloc (insO ⟨4,n,x⟩)).alloc (askO ask0)) F br bl K u m cs→Calls Tryz.prog 76 #[.pointer (some ⟨br,0,none⟩),.int .i64 2,.slice (some ⟨u.heap.size,0,none⟩) 2 2] (u.alloc (.cells #[.float .f64 a,.float .f64 b] 64)) fun e w'=>e=.returned (.tuple #[])∧Rg ((w.alloc (insO ⟨4,n,x⟩)).alloc (askO ask0)) F br bl K w' { m with st:=b::a::s } cs):=fun u a b hu=>by
  have:=hu.trade2 a b (k:=2) (r:=s.length) (by rw [hs];simp) hs2
  rw [show m.st.drop 2=s by rw [hs];rfl] at this
  exact this
 clear h h1 hX hs hs2
 unfold insV
 go_enter Tryz.func75,Tryz.ntmps75
 go_wp2_with (first
  | (go_at_call 76;refine (HTR.out _ _ _ G2.out).mono ?_;rintro e u9 ⟨rfl,q⟩;obtain ⟨r0,r1,r2,r3⟩:=HX.out _ _ q;obtain ⟨⟨c0,c1,c2,c3,c4⟩,d0,d1,d2,d3⟩:=askO_cells r1;obtain ⟨i0,i1,i2,i3⟩:=cells3_of r0;have G9:=Lib.hid (And.intro r1 r3);clear q r0 r1 r2 r3)
  | (go_at_call 93;refine (HT1.out _ G1.out).mono ?_;rintro e u2 ⟨rfl,q⟩;have G2:=Lib.hid q;clear q)
  | (go_at_call 93;refine (HT.out _ G0.out).mono ?_;rintro e u1 ⟨rfl,q⟩;have G1:=Lib.hid q;clear q))
 exact ask_back rfl (w.heap.size+1) ask0 rfl (askO_set (k':=ask0) G9.out.1) rfl ⟨rfl,G9.out.2 _ (turn4 _ _ (.int .i64 0) (.int .i64 0) (.float .f64 0) (.bool false))⟩
theorem rdo_pick (h:Rg W F0 br bl K w m cs) {n:Int} {x:Nat} {k:Nat} (hn:n=k) (hk:k<m.st.length) (hs2:m.st.length≤64):Calls Tryz.prog 75 #[.pointer (some ⟨br,0,none⟩),insV ⟨5,n,x⟩] w fun r w'=>r=.returned (askV ask0)∧Rg W F0 br bl K w' { m with st:=m.st.getD k 0::m.st } cs:=by
 subst hn
 obtain ⟨F,h1,hX⟩:=h.both ⟨5,k,x⟩
 have HX:=Lib.hid hX
 have hb:=h.ltB
 have HT:Hid (∀ u,Rg ((w.alloc (insO ⟨5,k,x⟩)).alloc (askO ask0)) F br bl K u m cs→Calls Tryz.prog 93 #[.pointer (some ⟨br,0,none⟩),.int .i64 k] u fun e w'=>e=.returned (.float .f64 (m.st.getD k 0))∧Rg ((w.alloc (insO ⟨5,k,x⟩)).alloc (askO ask0)) F br bl K w' m cs):=fun u hu=>by
  have:=hu.topG (k:=k) hk hs2
  skip
  exact this
 have HTR:Hid (∀ u x1,Rg ((w.alloc (insO ⟨5,k,x⟩)).alloc (askO ask0)) F br bl K u m cs→Calls Tryz.prog 76 #[.pointer (some ⟨br,0,none⟩),.int .i64 0,.slice (some ⟨u.heap.size,0,none⟩) 1 1] (u.alloc (.cells #[.float .f64 x1] 64)) fun e w'=>e=.returned (.tuple #[])∧Rg ((w.alloc (insO ⟨5,k,x⟩)).alloc (askO ask0)) F br bl K w' { m with st:=x1::m.st } cs):=fun u x1 hu=>by
  have:=hu.trade1 x1 (k:=0) (r:=m.st.length) (by omega) hs2
  rw [List.drop_zero] at this
  exact this
 have G0:=Lib.hid h1
 clear h h1 hX hk hs2
 generalize m.st.getD k 0=y at *
 unfold insV
 go_enter Tryz.func75,Tryz.ntmps75
 go_wp2_with (first
  | (go_at_call 76;refine (HTR.out _ _ G1.out).mono ?_;rintro e u9 ⟨rfl,q⟩;obtain ⟨r0,r1,r2,r3⟩:=HX.out _ _ q;obtain ⟨⟨c0,c1,c2,c3,c4⟩,d0,d1,d2,d3⟩:=askO_cells r1;obtain ⟨i0,i1,i2,i3⟩:=cells3_of r0;have G9:=Lib.hid (And.intro r1 r3);clear q r0 r1 r2 r3)
  | (go_at_call 93;refine (HT.out _ G0.out).mono ?_;rintro e u1 ⟨rfl,q⟩;have G1:=Lib.hid q;clear q))
 exact ask_back rfl (w.heap.size+1) ask0 rfl (askO_set (k':=ask0) G9.out.1) rfl ⟨rfl,G9.out.2 _ (turn4 _ _ (.int .i64 0) (.int .i64 0) (.float .f64 0) (.bool false))⟩
end
end Go.Proofs.YteinilmecnlanabGreatDoor
namespace Go.Proofs.YteinilmecnlanabGreatDoor
open Go.ChangeShapes Go.WideShapes Go.ChangeAt Go.RowKit Num
attribute [local go_sem] run_store_float
section
variable {W w:World} {br bl:Nat} {F0 K:List Nat} {m:Mac} {cs:List Ins}
theorem bl_drw {N u:World} {B:Nat} (h:Below B N u):Below B N u.drew:=h.trans ((Same.drew _).below _)
theorem bl_new {N u:World} (h:Below N.heap.size N u) (o:Obj):Below N.heap.size N (u.alloc o):=h.alloc h.size o
theorem eight_at (f:Nat→Nat) {k:Nat} (h:k<8):(fls (eight f))[k]?=some (.float .f64 (f k)):=by
 match k,h with
 | 0,_=>rfl
 | 1,_=>rfl
 | 2,_=>rfl
 | 3,_=>rfl
 | 4,_=>rfl
 | 5,_=>rfl
 | 6,_=>rfl
 | 7,_=>rfl
theorem eight_put (f:Nat→Nat) (x:Nat) {k:Nat} (h:k<8):(fls (eight f)).set k (.float .f64 x)=fls (eight (updF f k x)):=by
 match k,h with
 | 0,_=>rfl
 | 1,_=>rfl
 | 2,_=>rfl
 | 3,_=>rfl
 | 4,_=>rfl
 | 5,_=>rfl
 | 6,_=>rfl
 | 7,_=>rfl
theorem Rg.argAt (h:Rg W F0 br bl K w m cs) {k:Nat} (hk:k<8):∃ g o c,w.cell? ⟨br,7,none⟩=some (.slice (some ⟨g,o,none⟩) 8 c)∧w.cell? ⟨g,o+k,none⟩=some (.float .f64 (m.args k))∧g<w.heap.size∧br<w.heap.size:=by
 obtain ⟨q,hr,_⟩:=h
 obtain ⟨g,o,e,c,hl⟩:=hr.arg.get (eight_at m.args hk)
 exact ⟨g,o,q.ca,by rw [← e,← hr.na];exact (hr.cell 7).trans rfl,c,hl,hr.ltB⟩
theorem Rg.locAt (h:Rg W F0 br bl K w m cs) {k:Nat} (hk:k<8):∃ c,w.cell? ⟨br,10,none⟩=some (.slice (some ⟨bl,0,none⟩) 8 c)∧w.cell? ⟨bl,k,none⟩=some (.float .f64 (m.loc k))∧w.frozen? ⟨bl,k,none⟩=false∧bl<w.heap.size∧br<w.heap.size∧br≠bl:=by
 obtain ⟨q,hr,⟨rfl,_⟩,_⟩:=h
 obtain ⟨c1,c2,c3⟩:=row_get hr.loc (eight_at m.loc hk)
 exact ⟨q.cl,(hr.cell 10).trans rfl,c1,c2,c3,hr.ltB,hr.ne⟩
theorem Rg.setL (h:Rg W F0 br bl K w m cs) {k:Nat} (hk:k<8) (x:Nat):Rg W F0 br bl K (w.setCell ⟨bl,k,none⟩ (.float .f64 x)) { m with loc:=updF m.loc k x } cs:=by
 obtain ⟨q,hr,⟨rfl,hK⟩,ht,hF⟩:=h
 obtain ⟨r,t⟩:=row_put hr.loc k (.float .f64 x)
 rw [eight_put m.loc x hk] at r
 have kk:∀ p∈q.rows,Kept (fpR p) w (w.setCell ⟨q.bl,k,none⟩ (.float .f64 x)):=fun p hp=>t.kept (fun y hy z=>by simp at z;subst z;exact (hr.ap p hp).2 hy) (fun y hy=>hr.lt y (in_fr hp hy))
 refine ⟨q,{ hr with box:=?_,loc:=r,arg:=hr.arg.keep (kk _ (by simp [Rp.rows])),st:=hr.st.keep (kk _ (by simp [Rp.rows])),cal:=hr.cal.keep (kk _ (by simp [Rp.rows])),out:=hr.out.keep (kk _ (by simp [Rp.rows])),rds:=hr.rds.keep (kk _ (by simp [Rp.rows])),buf:=hr.buf.keep (kk _ (by simp [Rp.rows])),cod:=hr.cod.keepK (t.kept (fun y hy z=>by simp at z;subst z;exact hr.apk.2 hy) hr.ltk),lt:=fun y hy=>Nat.lt_of_lt_of_le (hr.lt y hy) t.size,ltk:=fun y hy=>Nat.lt_of_lt_of_le (hr.ltk y hy) t.size },⟨rfl,hK⟩,ht.trans (t.wide (by simp)),hF⟩
 exact (heap_setCell_other _ _ _ _ (by simpa using hr.ne)).trans hr.box
theorem rdo_arg (h:Rg W F0 br bl K w m cs) {n:Int} {x:Nat} {k:Nat} (hn:n=k) (hk:k<8) (hs2:m.st.length≤63):Calls Tryz.prog 75 #[.pointer (some ⟨br,0,none⟩),insV ⟨6,n,x⟩] w fun r w'=>r=.returned (askV ask0)∧Rg W F0 br bl K w' { m with st:=m.args k::m.st } cs:=by
 subst hn
 obtain ⟨F,h1,hX⟩:=h.both ⟨6,k,x⟩
 have HX:=Lib.hid hX
 have hb:=h.ltB
 obtain ⟨g0,o0,c0',e1,e2,e3,e4⟩:=h.argAt hk
 have HTR:Hid (∀ g,g=((w.alloc (insO ⟨6,k,x⟩)).alloc (askO ask0)).heap.size→Calls Tryz.prog 76 #[.pointer (some ⟨br,0,none⟩),.int .i64 0,.slice (some ⟨g,0,none⟩) 1 1] (((w.alloc (insO ⟨6,k,x⟩)).alloc (askO ask0)).drew.alloc (.cells #[.float .f64 (m.args k)] 64)) fun e w'=>e=.returned (.tuple #[])∧Rg ((w.alloc (insO ⟨6,k,x⟩)).alloc (askO ask0)) F br bl K w' { m with st:=m.args k::m.st } cs):=fun g hg=>by
  subst hg
  have:=(h1.same (Same.drew _)).trade1 (m.args k) (k:=0) (r:=m.st.length) (by omega) (by omega)
  rw [List.drop_zero] at this
  exact this
 have hk':(k:Int)<8:=by omega
 have HS:Hid (∀ u,Below (w.alloc (insO ⟨6,k,x⟩)).heap.size (w.alloc (insO ⟨6,k,x⟩)) u→(fun u=>u.cell? ⟨br,7,none⟩=some (.slice (some ⟨g0,o0,none⟩) 8 c0')∧u.cell? ⟨w.heap.size,1,none⟩=some (.int .i64 (k:Int))∧u.cell? ⟨g0,o0+k,none⟩=some (.float .f64 (m.args k))) u):=fun u hu=>by
  have b1:Below w.heap.size w u:=(below_alloc w _).trans (hu.mono (by simp))
  exact ⟨(b1.cell (p:=⟨br,7,none⟩) e4).trans e1,(insO_at hu).2.1,(b1.cell (p:=⟨g0,o0+k,none⟩) e3).trans e2⟩
 clear h h1 hX hs2
 generalize m.args k=y at *
 unfold insV
 go_enter Tryz.func75,Tryz.ntmps75
 go_wp2
 refine wp_region_seqE (fun u=>u.cell? ⟨br,7,none⟩=some (.slice (some ⟨g0,o0,none⟩) 8 c0')∧u.cell? ⟨w.heap.size,1,none⟩=some (.int .i64 (k:Int))∧u.cell? ⟨g0,o0+k,none⟩=some (.float .f64 y)) ((0,true)::(1,true)::(2,true)::(3,true)::(4,true)::(5,true)::(6,true)::(7,true)::(8,true)::(9,false)::(10,false)::[]) (by kernel_rfl) (by kernel_rfl) (fun _ _ _ _ _ h=>h) (HS.out _ (bl_drw (below_alloc (w.alloc (insO ⟨6,k,x⟩)) (askO ask0)))) ?_
 repeat (first
  | (refine wpSeqE_take (v:=?_) rfl (by rfl) (fun wq hSq=>?_) ?_;rotate_left;(focus ((try dsimp only at hSq);go_simp;try with_reducible rfl));simp only [Act.put,List.setIfInBounds_toArray,List.set_cons_zero,List.set_cons_succ]))
 refine wpSeqE_do rfl (by rfl) (fun K hK=>?_)
 go_simp
 refine hK.out _ _ (fun _=>HS.out _ (bl_new (bl_drw (below_alloc (w.alloc (insO ⟨6,k,x⟩)) (askO ask0))) _)) ?_
 clear hK K
 try simp only [Act.put,List.setIfInBounds_toArray,List.set_cons_zero,List.set_cons_succ]
 refine wpSeqE_do rfl (by rfl) (fun K hK=>?_)
 go_simp
 refine (HTR.out _ (by simp)).mono ?_
 rintro e u9 ⟨rfl,q⟩
 obtain ⟨r0,r1,r2,r3⟩:=HX.out _ _ q;obtain ⟨⟨c0,c1,c2,c3,c4⟩,d0,d1,d2,d3⟩:=askO_cells r1;obtain ⟨i0,i1,i2,i3⟩:=cells3_of r0;have G9:=Lib.hid (And.intro r1 r3);clear q r0 r1 r2 r3
 refine hK.out _ _ (fun z=>absurd rfl z) ?_
 clear hK K
 refine wpSeqE_nil ?_
 go_wp2
 exact ask_back rfl (w.heap.size+1) ask0 rfl (askO_set (k':=ask0) G9.out.1) rfl ⟨rfl,G9.out.2 _ (turn4 _ _ (.int .i64 0) (.int .i64 0) (.float .f64 0) (.bool false))⟩
theorem rdo_get (h:Rg W F0 br bl K w m cs) {n:Int} {x:Nat} {k:Nat} (hn:n=k) (hk:k<8) (hs2:m.st.length≤63):Calls Tryz.prog 75 #[.pointer (some ⟨br,0,none⟩),insV ⟨7,n,x⟩] w fun r w'=>r=.returned (askV ask0)∧Rg W F0 br bl K w' { m with st:=m.loc k::m.st } cs:=by
 subst hn
 obtain ⟨F,h1,hX⟩:=h.both ⟨7,k,x⟩
 have HX:=Lib.hid hX
 have hb:=h.ltB
 obtain ⟨c0',e1,e2,e3,e4,e5,e6⟩:=h.locAt hk
 have HTR:Hid (∀ g,g=((w.alloc (insO ⟨7,k,x⟩)).alloc (askO ask0)).heap.size→Calls Tryz.prog 76 #[.pointer (some ⟨br,0,none⟩),.int .i64 0,.slice (some ⟨g,0,none⟩) 1 1] (((w.alloc (insO ⟨7,k,x⟩)).alloc (askO ask0)).drew.alloc (.cells #[.float .f64 (m.loc k)] 64)) fun e w'=>e=.returned (.tuple #[])∧Rg ((w.alloc (insO ⟨7,k,x⟩)).alloc (askO ask0)) F br bl K w' { m with st:=m.loc k::m.st } cs):=fun g hg=>by
  subst hg
  have:=(h1.same (Same.drew _)).trade1 (m.loc k) (k:=0) (r:=m.st.length) (by omega) (by omega)
  rw [List.drop_zero] at this
  exact this
 have hk':(k:Int)<8:=by omega
 have HS:Hid (∀ u,Below (w.alloc (insO ⟨7,k,x⟩)).heap.size (w.alloc (insO ⟨7,k,x⟩)) u→(fun u=>u.cell? ⟨br,10,none⟩=some (.slice (some ⟨bl,0,none⟩) 8 c0')∧u.cell? ⟨w.heap.size,1,none⟩=some (.int .i64 (k:Int))∧u.cell? ⟨bl,k,none⟩=some (.float .f64 (m.loc k))) u):=fun u hu=>by
  have b1:Below w.heap.size w u:=(below_alloc w _).trans (hu.mono (by simp))
  exact ⟨(b1.cell (p:=⟨br,10,none⟩) e5).trans e1,(insO_at hu).2.1,(b1.cell (p:=⟨bl,k,none⟩) e4).trans e2⟩
 clear h h1 hX hs2
 generalize m.loc k=y at *
 unfold insV
 go_enter Tryz.func75,Tryz.ntmps75
 go_wp2
 refine wp_region_seqE (fun u=>u.cell? ⟨br,10,none⟩=some (.slice (some ⟨bl,0,none⟩) 8 c0')∧u.cell? ⟨w.heap.size,1,none⟩=some (.int .i64 (k:Int))∧u.cell? ⟨bl,k,none⟩=some (.float .f64 y)) ((0,true)::(1,true)::(2,true)::(3,true)::(4,true)::(5,true)::(6,true)::(7,true)::(8,true)::(9,false)::(10,false)::[]) (by kernel_rfl) (by kernel_rfl) (fun _ _ _ _ _ h=>h) (HS.out _ (bl_drw (below_alloc (w.alloc (insO ⟨7,k,x⟩)) (askO ask0)))) ?_
 repeat (first
  | (refine wpSeqE_take (v:=?_) rfl (by rfl) (fun wq hSq=>?_) ?_;rotate_left;(focus ((try dsimp only at hSq);go_simp;try with_reducible rfl));simp only [Act.put,List.setIfInBounds_toArray,List.set_cons_zero,List.set_cons_succ]))
 refine wpSeqE_do rfl (by rfl) (fun K hK=>?_)
 go_simp
 refine hK.out _ _ (fun _=>HS.out _ (bl_new (bl_drw (below_alloc (w.alloc (insO ⟨7,k,x⟩)) (askO ask0))) _)) ?_
 clear hK K
 try simp only [Act.put,List.setIfInBounds_toArray,List.set_cons_zero,List.set_cons_succ]
 refine wpSeqE_do rfl (by rfl) (fun K hK=>?_)
 go_simp
 refine (HTR.out _ (by simp)).mono ?_
 rintro e u9 ⟨rfl,q⟩
 obtain ⟨r0,r1,r2,r3⟩:=HX.out _ _ q;obtain ⟨⟨c0,c1,c2,c3,c4⟩,d0,d1,d2,d3⟩:=askO_cells r1;obtain ⟨i0,i1,i2,i3⟩:=cells3_of r0;have G9:=Lib.hid (And.intro r1 r3);clear q r0 r1 r2 r3
 refine hK.out _ _ (fun z=>absurd rfl z) ?_
 clear hK K
 refine wpSeqE_nil ?_
 go_wp2
 exact ask_back rfl (w.heap.size+1) ask0 rfl (askO_set (k':=ask0) G9.out.1) rfl ⟨rfl,G9.out.2 _ (turn4 _ _ (.int .i64 0) (.int .i64 0) (.float .f64 0) (.bool false))⟩
theorem rdo_one (h:Rg W F0 br bl K w m cs) {n:Int} {x:Nat} (hn:1≤n∧n≤8) {y:Nat} {s:List Nat} (hs:m.st=y::s) (hs2:m.st.length≤64) (hy:okN y):Calls Tryz.prog 75 #[.pointer (some ⟨br,0,none⟩),insV ⟨9,n,x⟩] w fun r w'=>r=.returned (askV ask0)∧Rg W F0 br bl K w' { m with st:=oneV n y::s } cs:=by
 obtain ⟨F,h1,hX⟩:=h.both ⟨9,n,x⟩
 have HX:=Lib.hid hX
 have hb:=h.ltB
 have HT:Hid (∀ u,Rg ((w.alloc (insO ⟨9,n,x⟩)).alloc (askO ask0)) F br bl K u m cs→Calls Tryz.prog 93 #[.pointer (some ⟨br,0,none⟩),.int .i64 0] u fun e w'=>e=.returned (.float .f64 y)∧Rg ((w.alloc (insO ⟨9,n,x⟩)).alloc (askO ask0)) F br bl K w' m cs):=fun u hu=>by
  have:=hu.topG (k:=0) (by rw [hs];simp) hs2
  rw [hs] at this
  exact this
 have HIN:Hid (∀ u m',Rg ((w.alloc (insO ⟨9,n,x⟩)).alloc (askO ask0)) F br bl K u m' cs→u.cell? ⟨w.heap.size,0,none⟩=some (.int .i64 9)∧u.cell? ⟨w.heap.size,1,none⟩=some (.int .i64 n)∧w.heap.size<u.heap.size):=fun u m' hu=>by
  obtain ⟨z0,z1,z2,z3⟩:=cells3_of (HX.out u m' hu).1
  exact ⟨z0,z1,z3⟩
 have HTR:Hid (∀ u x1,Rg ((w.alloc (insO ⟨9,n,x⟩)).alloc (askO ask0)) F br bl K u m cs→Calls Tryz.prog 76 #[.pointer (some ⟨br,0,none⟩),.int .i64 1,.slice (some ⟨u.heap.size,0,none⟩) 1 1] (u.alloc (.cells #[.float .f64 x1] 64)) fun e w'=>e=.returned (.tuple #[])∧Rg ((w.alloc (insO ⟨9,n,x⟩)).alloc (askO ask0)) F br bl K w' { m with st:=x1::s } cs):=fun u x1 hu=>by
  have:=hu.trade1 x1 (k:=1) (r:=s.length) (by rw [hs];simp) hs2
  rw [show m.st.drop 1=s by rw [hs];rfl] at this
  exact this
 have HO:Hid (∀ u,Calls Tryz.prog 94 #[.int .i64 n,.float .f64 y] u fun e w'=>e=.returned (.tuple #[.float .f64 (oneV n y),.int .i64 0])∧Below u.heap.size u w'):=fun u=>rone_any hn hy u
 have G0:=Lib.hid (h1.same (Same.drew _))
 clear h h1 hX hs hs2 hn hy
 generalize oneV n y=v1 at *
 unfold insV
 go_enter Tryz.func75,Tryz.ntmps75
 go_wp2
 refine wp_region_seq (fun u=>u.cell? ⟨w.heap.size,1,none⟩=some (.int .i64 n)) ((0,true)::(1,true)::(2,true)::(3,false)::(4,false)::(5,true)::(6,true)::(7,true)::(8,true)::(9,true)::[]) (by kernel_rfl) (by kernel_rfl) (fun _ _ _ _ _ h=>h) ((HIN.out _ _ G0.out).2.1) ?_
 repeat (first
  | (refine wpSeq_take (v:=?_) rfl (by rfl) (fun wq hSq=>?_) ?_;rotate_left;(focus ((try dsimp only at hSq);go_simp;try with_reducible rfl));simp only [Act.put,List.setIfInBounds_toArray,List.set_cons_zero,List.set_cons_succ]))
 refine wpSeq_do rfl (by rfl) (fun K hK=>?_)
 go_simp
 refine (HT.out _ G0.out).mono ?_
 rintro e u1 ⟨rfl,q⟩
 have G1:=Lib.hid q
 clear q
 refine hK.out _ _ (HIN.out _ _ G1.out).2.1 ?_
 clear hK K
 try simp only [Act.put,List.setIfInBounds_toArray,List.set_cons_zero,List.set_cons_succ]
 repeat (first
  | (refine wpSeq_take (v:=?_) rfl (by rfl) (fun wq hSq=>?_) ?_;rotate_left;(focus ((try dsimp only at hSq);go_simp;try with_reducible rfl));simp only [Act.put,List.setIfInBounds_toArray,List.set_cons_zero,List.set_cons_succ]))
 refine wpSeq_do rfl (by rfl) (fun K hK=>?_)
 go_simp
 refine (HO.out _).mono ?_
 rintro e u2 ⟨rfl,q⟩
 have G2:=Lib.hid (G1.out.on q)
 clear q
 refine hK.out _ _ (HIN.out _ _ G2.out).2.1 ?_
 clear hK K
 try simp only [Act.put,List.setIfInBounds_toArray,List.set_cons_zero,List.set_cons_succ]
 repeat (first
  | (refine wpSeq_take (v:=?_) rfl (by rfl) (fun wq hSq=>?_) ?_;rotate_left;(focus ((try dsimp only at hSq);go_simp;try with_reducible rfl));simp only [Act.put,List.setIfInBounds_toArray,List.set_cons_zero,List.set_cons_succ]))
 refine wpSeq_nil ?_
 go_wp2_with (go_at_call 76;refine (HTR.out _ _ G2.out).mono ?_;rintro e u9 ⟨rfl,q⟩;obtain ⟨r0,r1,r2,r3⟩:=HX.out _ _ q;obtain ⟨⟨c0,c1,c2,c3,c4⟩,d0,d1,d2,d3⟩:=askO_cells r1;obtain ⟨i0,i1,i2,i3⟩:=cells3_of r0;have G9:=Lib.hid (And.intro r1 r3);clear q r0 r1 r2 r3)
 exact ask_back rfl (w.heap.size+1) ask0 rfl (askO_set (k':=ask0) G9.out.1) rfl ⟨rfl,G9.out.2 _ (turn4 _ _ (.int .i64 0) (.int .i64 0) (.float .f64 0) (.bool false))⟩
theorem rdo_two (h:Rg W F0 br bl K w m cs) {n:Int} {x:Nat} (hn:1≤n∧n≤12) {y z:Nat} {s:List Nat} (hs:m.st=y::z::s) (hs2:m.st.length≤64) (hy:okN y) (hz:okN z):Calls Tryz.prog 75 #[.pointer (some ⟨br,0,none⟩),insV ⟨10,n,x⟩] w fun r w'=>r=.returned (askV ask0)∧Rg W F0 br bl K w' { m with st:=twoV n z y::s } cs:=by
 obtain ⟨F,h1,hX⟩:=h.both ⟨10,n,x⟩
 have HX:=Lib.hid hX
 have hb:=h.ltB
 have HT:Hid (∀ u,Rg ((w.alloc (insO ⟨10,n,x⟩)).alloc (askO ask0)) F br bl K u m cs→Calls Tryz.prog 93 #[.pointer (some ⟨br,0,none⟩),.int .i64 0] u fun e w'=>e=.returned (.float .f64 y)∧Rg ((w.alloc (insO ⟨10,n,x⟩)).alloc (askO ask0)) F br bl K w' m cs):=fun u hu=>by
  have:=hu.topG (k:=0) (by rw [hs];simp) hs2
  rw [hs] at this
  exact this
 have HT1:Hid (∀ u,Rg ((w.alloc (insO ⟨10,n,x⟩)).alloc (askO ask0)) F br bl K u m cs→Calls Tryz.prog 93 #[.pointer (some ⟨br,0,none⟩),.int .i64 1] u fun e w'=>e=.returned (.float .f64 z)∧Rg ((w.alloc (insO ⟨10,n,x⟩)).alloc (askO ask0)) F br bl K w' m cs):=fun u hu=>by
  have:=hu.topG (k:=1) (by rw [hs];simp) hs2
  rw [hs] at this
  exact this
 have HIN:Hid (∀ u m',Rg ((w.alloc (insO ⟨10,n,x⟩)).alloc (askO ask0)) F br bl K u m' cs→u.cell? ⟨w.heap.size,0,none⟩=some (.int .i64 10)∧u.cell? ⟨w.heap.size,1,none⟩=some (.int .i64 n)∧w.heap.size<u.heap.size):=fun u m' hu=>by
  obtain ⟨z0,z1,z2,z3⟩:=cells3_of (HX.out u m' hu).1
  exact ⟨z0,z1,z3⟩
 have HTR:Hid (∀ u x1,Rg ((w.alloc (insO ⟨10,n,x⟩)).alloc (askO ask0)) F br bl K u m cs→Calls Tryz.prog 76 #[.pointer (some ⟨br,0,none⟩),.int .i64 2,.slice (some ⟨u.heap.size,0,none⟩) 1 1] (u.alloc (.cells #[.float .f64 x1] 64)) fun e w'=>e=.returned (.tuple #[])∧Rg ((w.alloc (insO ⟨10,n,x⟩)).alloc (askO ask0)) F br bl K w' { m with st:=x1::s } cs):=fun u x1 hu=>by
  have:=hu.trade1 x1 (k:=2) (r:=s.length) (by rw [hs];simp) hs2
  rw [show m.st.drop 2=s by rw [hs];rfl] at this
  exact this
 have HO:Hid (∀ u,Calls Tryz.prog 95 #[.int .i64 n,.float .f64 z,.float .f64 y] u fun e w'=>e=.returned (.tuple #[.float .f64 (twoV n z y),.int .i64 0])∧Below u.heap.size u w'):=fun u=>rtwo_any hn hz hy u
 have G0:=Lib.hid (h1.same (Same.drew _))
 clear h h1 hX hs hs2 hn hy hz
 generalize twoV n z y=v1 at *
 unfold insV
 go_enter Tryz.func75,Tryz.ntmps75
 go_wp2
 refine wp_region_seq (fun u=>u.cell? ⟨w.heap.size,1,none⟩=some (.int .i64 n)) ((0,true)::(1,true)::(2,true)::(4,true)::(3,false)::(5,false)::(6,false)::(7,true)::(8,true)::(9,true)::(10,true)::(11,true)::[]) (by kernel_rfl) (by kernel_rfl) (fun _ _ _ _ _ h=>h) ((HIN.out _ _ G0.out).2.1) ?_
 repeat (first
  | (refine wpSeq_take (v:=?_) rfl (by rfl) (fun wq hSq=>?_) ?_;rotate_left;(focus ((try dsimp only at hSq);go_simp;try with_reducible rfl));simp only [Act.put,List.setIfInBounds_toArray,List.set_cons_zero,List.set_cons_succ]))
 refine wpSeq_do rfl (by rfl) (fun K hK=>?_)
 go_simp
 refine (HT1.out _ G0.out).mono ?_
 rintro e u1 ⟨rfl,q⟩
 have G1:=Lib.hid q
 clear q
 refine hK.out _ _ (HIN.out _ _ G1.out).2.1 ?_
 clear hK K
 try simp only [Act.put,List.setIfInBounds_toArray,List.set_cons_zero,List.set_cons_succ]
 refine wpSeq_do rfl (by rfl) (fun K hK=>?_)
 go_simp
 refine (HT.out _ G1.out).mono ?_
 rintro e u2 ⟨rfl,q⟩
 have G2:=Lib.hid q
 clear q
 refine hK.out _ _ (HIN.out _ _ G2.out).2.1 ?_
 clear hK K
 try simp only [Act.put,List.setIfInBounds_toArray,List.set_cons_zero,List.set_cons_succ]
 refine wpSeq_do rfl (by rfl) (fun K hK=>?_)
 go_simp
 refine (HO.out _).mono ?_
 rintro e u3 ⟨rfl,q⟩
 have G3:=Lib.hid (G2.out.on q)
 clear q
 refine hK.out _ _ (HIN.out _ _ G3.out).2.1 ?_
 clear hK K
 try simp only [Act.put,List.setIfInBounds_toArray,List.set_cons_zero,List.set_cons_succ]
 repeat (first
  | (refine wpSeq_take (v:=?_) rfl (by rfl) (fun wq hSq=>?_) ?_;rotate_left;(focus ((try dsimp only at hSq);go_simp;try with_reducible rfl));simp only [Act.put,List.setIfInBounds_toArray,List.set_cons_zero,List.set_cons_succ]))
 refine wpSeq_nil ?_
 go_wp2_with (go_at_call 76;refine (HTR.out _ _ G3.out).mono ?_;rintro e u9 ⟨rfl,q⟩;obtain ⟨r0,r1,r2,r3⟩:=HX.out _ _ q;obtain ⟨⟨c0,c1,c2,c3,c4⟩,d0,d1,d2,d3⟩:=askO_cells r1;obtain ⟨i0,i1,i2,i3⟩:=cells3_of r0;have G9:=Lib.hid (And.intro r1 r3);clear q r0 r1 r2 r3)
 exact ask_back rfl (w.heap.size+1) ask0 rfl (askO_set (k':=ask0) G9.out.1) rfl ⟨rfl,G9.out.2 _ (turn4 _ _ (.int .i64 0) (.int .i64 0) (.float .f64 0) (.bool false))⟩
theorem rdo_if1 (h:Rg W F0 br bl K w m cs) {n:Int} {x:Nat} {y:Nat} {s:List Nat} (hs:m.st=y::s) (hs2:m.st.length≤64) (hy:trueB y=true):Calls Tryz.prog 75 #[.pointer (some ⟨br,0,none⟩),insV ⟨12,n,x⟩] w fun r w'=>r=.returned (askV ask0)∧Rg W F0 br bl K w' { m with place:=n,st:=s } cs:=by
 obtain ⟨F,h1,hX⟩:=h.both ⟨12,n,x⟩
 have HX:=Lib.hid hX
 have hb:=h.ltB
 have HT:Hid (∀ u,Rg ((w.alloc (insO ⟨12,n,x⟩)).alloc (askO ask0)) F br bl K u m cs→Calls Tryz.prog 93 #[.pointer (some ⟨br,0,none⟩),.int .i64 0] u fun e w'=>e=.returned (.float .f64 y)∧Rg ((w.alloc (insO ⟨12,n,x⟩)).alloc (askO ask0)) F br bl K w' m cs):=fun u hu=>by
  have:=hu.topG (k:=0) (by rw [hs];simp) hs2
  rw [hs] at this
  exact this
 have HIN:Hid (∀ u m',Rg ((w.alloc (insO ⟨12,n,x⟩)).alloc (askO ask0)) F br bl K u m' cs→u.cell? ⟨w.heap.size,0,none⟩=some (.int .i64 12)∧u.cell? ⟨w.heap.size,1,none⟩=some (.int .i64 n)∧w.heap.size<u.heap.size):=fun u m' hu=>by
  obtain ⟨z0,z1,z2,z3⟩:=cells3_of (HX.out u m' hu).1
  exact ⟨z0,z1,z3⟩
 have HTR:Hid (∀ u,Rg ((w.alloc (insO ⟨12,n,x⟩)).alloc (askO ask0)) F br bl K u { m with place:=n } cs→Calls Tryz.prog 76 #[.pointer (some ⟨br,0,none⟩),.int .i64 1,.slice none 0 0] u fun e w'=>e=.returned (.tuple #[])∧Rg ((w.alloc (insO ⟨12,n,x⟩)).alloc (askO ask0)) F br bl K w' { m with place:=n,st:=s } cs):=fun u hu=>hu.drop1 (m:={ m with place:=n }) hs hs2
 have HO:Hid (∀ u,Calls Tryz.prog 96 #[.float .f64 y] u fun e w'=>e=.returned (.bool true)∧w'=u):=fun u=>by rw [← hy];exact refTrue_any y u
 have HAT:Hid (∀ u,Rg ((w.alloc (insO ⟨12,n,x⟩)).alloc (askO ask0)) F br bl K u m cs→_):=fun u hu=>hu.at11 n
 have G0:=Lib.hid (h1.same (Same.drew _))
 clear h h1 hX hs hs2 hy
 unfold insV
 go_enter Tryz.func75,Tryz.ntmps75
 go_wp2
 refine wp_region_seq (fun u=>u.cell? ⟨w.heap.size,0,none⟩=some (.int .i64 12)) ((0,true)::(3,true)::(4,true)::(5,true)::(1,false)::(2,false)::(6,true)::[]) (by kernel_rfl) (by kernel_rfl) (fun _ _ _ _ _ h=>h) ((HIN.out _ _ G0.out).1) ?_
 repeat (first
  | (refine wpSeq_take (v:=?_) rfl (by rfl) (fun wq hSq=>?_) ?_;rotate_left;(focus ((try dsimp only at hSq);go_simp;try with_reducible rfl));simp only [Act.put,List.setIfInBounds_toArray,List.set_cons_zero,List.set_cons_succ]))
 refine wpSeq_do rfl (by rfl) (fun K hK=>?_)
 go_simp
 refine (HT.out _ G0.out).mono ?_
 rintro e u1 ⟨rfl,q⟩
 have G1:=Lib.hid q
 clear q
 refine hK.out _ _ (HIN.out _ _ G1.out).1 ?_
 clear hK K
 try simp only [Act.put,List.setIfInBounds_toArray,List.set_cons_zero,List.set_cons_succ]
 refine wpSeq_do rfl (by rfl) (fun K hK=>?_)
 go_simp
 refine (HO.out _).mono ?_
 rintro e u ⟨rfl,hu⟩
 subst u
 refine hK.out _ _ (HIN.out _ _ G1.out).1 ?_
 clear hK K
 try simp only [Act.put,List.setIfInBounds_toArray,List.set_cons_zero,List.set_cons_succ]
 repeat (first
  | (refine wpSeq_take (v:=?_) rfl (by rfl) (fun wq hSq=>?_) ?_;rotate_left;(focus ((try dsimp only at hSq);go_simp;try with_reducible rfl));simp only [Act.put,List.setIfInBounds_toArray,List.set_cons_zero,List.set_cons_succ]))
 refine wpSeq_nil ?_
 obtain ⟨_,j1,j2⟩:=HIN.out _ _ G1.out
 obtain ⟨e1,e2,e3,e4⟩:=HAT.out _ G1.out
 have G2:=Lib.hid e4
 clear e4
 go_wp2_with (go_at_call 76;refine (HTR.out _ G2.out).mono ?_;rintro e u9 ⟨rfl,q⟩;obtain ⟨r0,r1,r2,r3⟩:=HX.out _ _ q;obtain ⟨⟨c0,c1,c2,c3,c4⟩,d0,d1,d2,d3⟩:=askO_cells r1;obtain ⟨i0,i1,i2,i3⟩:=cells3_of r0;have G9:=Lib.hid (And.intro r1 r3);clear q r0 r1 r2 r3)
 exact ask_back rfl (w.heap.size+1) ask0 rfl (askO_set (k':=ask0) G9.out.1) rfl ⟨rfl,G9.out.2 _ (turn4 _ _ (.int .i64 0) (.int .i64 0) (.float .f64 0) (.bool false))⟩
theorem rdo_if0 (h:Rg W F0 br bl K w m cs) {n:Int} {x:Nat} {y:Nat} {s:List Nat} (hs:m.st=y::s) (hs2:m.st.length≤64) (hy:trueB y=false):Calls Tryz.prog 75 #[.pointer (some ⟨br,0,none⟩),insV ⟨12,n,x⟩] w fun r w'=>r=.returned (askV ask0)∧Rg W F0 br bl K w' { m with place:=m.place,st:=s } cs:=by
 obtain ⟨F,h1,hX⟩:=h.both ⟨12,n,x⟩
 have HX:=Lib.hid hX
 have hb:=h.ltB
 have HT:Hid (∀ u,Rg ((w.alloc (insO ⟨12,n,x⟩)).alloc (askO ask0)) F br bl K u m cs→Calls Tryz.prog 93 #[.pointer (some ⟨br,0,none⟩),.int .i64 0] u fun e w'=>e=.returned (.float .f64 y)∧Rg ((w.alloc (insO ⟨12,n,x⟩)).alloc (askO ask0)) F br bl K w' m cs):=fun u hu=>by
  have:=hu.topG (k:=0) (by rw [hs];simp) hs2
  rw [hs] at this
  exact this
 have HIN:Hid (∀ u m',Rg ((w.alloc (insO ⟨12,n,x⟩)).alloc (askO ask0)) F br bl K u m' cs→u.cell? ⟨w.heap.size,0,none⟩=some (.int .i64 12)∧u.cell? ⟨w.heap.size,1,none⟩=some (.int .i64 n)∧w.heap.size<u.heap.size):=fun u m' hu=>by
  obtain ⟨z0,z1,z2,z3⟩:=cells3_of (HX.out u m' hu).1
  exact ⟨z0,z1,z3⟩
 have HTR:Hid (∀ u,Rg ((w.alloc (insO ⟨12,n,x⟩)).alloc (askO ask0)) F br bl K u { m with place:=m.place } cs→Calls Tryz.prog 76 #[.pointer (some ⟨br,0,none⟩),.int .i64 1,.slice none 0 0] u fun e w'=>e=.returned (.tuple #[])∧Rg ((w.alloc (insO ⟨12,n,x⟩)).alloc (askO ask0)) F br bl K w' { m with place:=m.place,st:=s } cs):=fun u hu=>hu.drop1 (m:={ m with place:=m.place }) hs hs2
 have HO:Hid (∀ u,Calls Tryz.prog 96 #[.float .f64 y] u fun e w'=>e=.returned (.bool false)∧w'=u):=fun u=>by rw [← hy];exact refTrue_any y u
 have HAT:Hid (∀ u,Rg ((w.alloc (insO ⟨12,n,x⟩)).alloc (askO ask0)) F br bl K u m cs→_):=fun u hu=>hu.at11 n
 have G0:=Lib.hid (h1.same (Same.drew _))
 clear h h1 hX hs hs2 hy
 unfold insV
 go_enter Tryz.func75,Tryz.ntmps75
 go_wp2
 refine wp_region_seq (fun u=>u.cell? ⟨w.heap.size,0,none⟩=some (.int .i64 12)) ((0,true)::(3,true)::(4,true)::(5,true)::(1,false)::(2,false)::(6,true)::[]) (by kernel_rfl) (by kernel_rfl) (fun _ _ _ _ _ h=>h) ((HIN.out _ _ G0.out).1) ?_
 repeat (first
  | (refine wpSeq_take (v:=?_) rfl (by rfl) (fun wq hSq=>?_) ?_;rotate_left;(focus ((try dsimp only at hSq);go_simp;try with_reducible rfl));simp only [Act.put,List.setIfInBounds_toArray,List.set_cons_zero,List.set_cons_succ]))
 refine wpSeq_do rfl (by rfl) (fun K hK=>?_)
 go_simp
 refine (HT.out _ G0.out).mono ?_
 rintro e u1 ⟨rfl,q⟩
 have G1:=Lib.hid q
 clear q
 refine hK.out _ _ (HIN.out _ _ G1.out).1 ?_
 clear hK K
 try simp only [Act.put,List.setIfInBounds_toArray,List.set_cons_zero,List.set_cons_succ]
 refine wpSeq_do rfl (by rfl) (fun K hK=>?_)
 go_simp
 refine (HO.out _).mono ?_
 rintro e u ⟨rfl,hu⟩
 subst u
 refine hK.out _ _ (HIN.out _ _ G1.out).1 ?_
 clear hK K
 try simp only [Act.put,List.setIfInBounds_toArray,List.set_cons_zero,List.set_cons_succ]
 repeat (first
  | (refine wpSeq_take (v:=?_) rfl (by rfl) (fun wq hSq=>?_) ?_;rotate_left;(focus ((try dsimp only at hSq);go_simp;try with_reducible rfl));simp only [Act.put,List.setIfInBounds_toArray,List.set_cons_zero,List.set_cons_succ]))
 refine wpSeq_nil ?_
 have G2:=G1
 go_wp2_with (go_at_call 76;refine (HTR.out _ G2.out).mono ?_;rintro e u9 ⟨rfl,q⟩;obtain ⟨r0,r1,r2,r3⟩:=HX.out _ _ q;obtain ⟨⟨c0,c1,c2,c3,c4⟩,d0,d1,d2,d3⟩:=askO_cells r1;obtain ⟨i0,i1,i2,i3⟩:=cells3_of r0;have G9:=Lib.hid (And.intro r1 r3);clear q r0 r1 r2 r3)
 exact ask_back rfl (w.heap.size+1) ask0 rfl (askO_set (k':=ask0) G9.out.1) rfl ⟨rfl,G9.out.2 _ (turn4 _ _ (.int .i64 0) (.int .i64 0) (.float .f64 0) (.bool false))⟩
theorem rdo_un1 (h:Rg W F0 br bl K w m cs) {n:Int} {x:Nat} {y:Nat} {s:List Nat} (hs:m.st=y::s) (hs2:m.st.length≤64) (hy:trueB y=true):Calls Tryz.prog 75 #[.pointer (some ⟨br,0,none⟩),insV ⟨13,n,x⟩] w fun r w'=>r=.returned (askV ask0)∧Rg W F0 br bl K w' { m with place:=m.place,st:=s } cs:=by
 obtain ⟨F,h1,hX⟩:=h.both ⟨13,n,x⟩
 have HX:=Lib.hid hX
 have hb:=h.ltB
 have HT:Hid (∀ u,Rg ((w.alloc (insO ⟨13,n,x⟩)).alloc (askO ask0)) F br bl K u m cs→Calls Tryz.prog 93 #[.pointer (some ⟨br,0,none⟩),.int .i64 0] u fun e w'=>e=.returned (.float .f64 y)∧Rg ((w.alloc (insO ⟨13,n,x⟩)).alloc (askO ask0)) F br bl K w' m cs):=fun u hu=>by
  have:=hu.topG (k:=0) (by rw [hs];simp) hs2
  rw [hs] at this
  exact this
 have HIN:Hid (∀ u m',Rg ((w.alloc (insO ⟨13,n,x⟩)).alloc (askO ask0)) F br bl K u m' cs→u.cell? ⟨w.heap.size,0,none⟩=some (.int .i64 13)∧u.cell? ⟨w.heap.size,1,none⟩=some (.int .i64 n)∧w.heap.size<u.heap.size):=fun u m' hu=>by
  obtain ⟨z0,z1,z2,z3⟩:=cells3_of (HX.out u m' hu).1
  exact ⟨z0,z1,z3⟩
 have HTR:Hid (∀ u,Rg ((w.alloc (insO ⟨13,n,x⟩)).alloc (askO ask0)) F br bl K u { m with place:=m.place } cs→Calls Tryz.prog 76 #[.pointer (some ⟨br,0,none⟩),.int .i64 1,.slice none 0 0] u fun e w'=>e=.returned (.tuple #[])∧Rg ((w.alloc (insO ⟨13,n,x⟩)).alloc (askO ask0)) F br bl K w' { m with place:=m.place,st:=s } cs):=fun u hu=>hu.drop1 (m:={ m with place:=m.place }) hs hs2
 have HO:Hid (∀ u,Calls Tryz.prog 96 #[.float .f64 y] u fun e w'=>e=.returned (.bool true)∧w'=u):=fun u=>by rw [← hy];exact refTrue_any y u
 have HAT:Hid (∀ u,Rg ((w.alloc (insO ⟨13,n,x⟩)).alloc (askO ask0)) F br bl K u m cs→_):=fun u hu=>hu.at11 n
 have G0:=Lib.hid (h1.same (Same.drew _))
 clear h h1 hX hs hs2 hy
 unfold insV
 go_enter Tryz.func75,Tryz.ntmps75
 go_wp2
 refine wp_region_seq (fun u=>u.cell? ⟨w.heap.size,0,none⟩=some (.int .i64 13)) ((0,true)::(3,true)::(4,true)::(5,true)::(1,false)::(2,false)::(6,true)::[]) (by kernel_rfl) (by kernel_rfl) (fun _ _ _ _ _ h=>h) ((HIN.out _ _ G0.out).1) ?_
 repeat (first
  | (refine wpSeq_take (v:=?_) rfl (by rfl) (fun wq hSq=>?_) ?_;rotate_left;(focus ((try dsimp only at hSq);go_simp;try with_reducible rfl));simp only [Act.put,List.setIfInBounds_toArray,List.set_cons_zero,List.set_cons_succ]))
 refine wpSeq_do rfl (by rfl) (fun K hK=>?_)
 go_simp
 refine (HT.out _ G0.out).mono ?_
 rintro e u1 ⟨rfl,q⟩
 have G1:=Lib.hid q
 clear q
 refine hK.out _ _ (HIN.out _ _ G1.out).1 ?_
 clear hK K
 try simp only [Act.put,List.setIfInBounds_toArray,List.set_cons_zero,List.set_cons_succ]
 refine wpSeq_do rfl (by rfl) (fun K hK=>?_)
 go_simp
 refine (HO.out _).mono ?_
 rintro e u ⟨rfl,hu⟩
 subst u
 refine hK.out _ _ (HIN.out _ _ G1.out).1 ?_
 clear hK K
 try simp only [Act.put,List.setIfInBounds_toArray,List.set_cons_zero,List.set_cons_succ]
 repeat (first
  | (refine wpSeq_take (v:=?_) rfl (by rfl) (fun wq hSq=>?_) ?_;rotate_left;(focus ((try dsimp only at hSq);go_simp;try with_reducible rfl));simp only [Act.put,List.setIfInBounds_toArray,List.set_cons_zero,List.set_cons_succ]))
 refine wpSeq_nil ?_
 have G2:=G1
 go_wp2_with (go_at_call 76;refine (HTR.out _ G2.out).mono ?_;rintro e u9 ⟨rfl,q⟩;obtain ⟨r0,r1,r2,r3⟩:=HX.out _ _ q;obtain ⟨⟨c0,c1,c2,c3,c4⟩,d0,d1,d2,d3⟩:=askO_cells r1;obtain ⟨i0,i1,i2,i3⟩:=cells3_of r0;have G9:=Lib.hid (And.intro r1 r3);clear q r0 r1 r2 r3)
 exact ask_back rfl (w.heap.size+1) ask0 rfl (askO_set (k':=ask0) G9.out.1) rfl ⟨rfl,G9.out.2 _ (turn4 _ _ (.int .i64 0) (.int .i64 0) (.float .f64 0) (.bool false))⟩
theorem rdo_un0 (h:Rg W F0 br bl K w m cs) {n:Int} {x:Nat} {y:Nat} {s:List Nat} (hs:m.st=y::s) (hs2:m.st.length≤64) (hy:trueB y=false):Calls Tryz.prog 75 #[.pointer (some ⟨br,0,none⟩),insV ⟨13,n,x⟩] w fun r w'=>r=.returned (askV ask0)∧Rg W F0 br bl K w' { m with place:=n,st:=s } cs:=by
 obtain ⟨F,h1,hX⟩:=h.both ⟨13,n,x⟩
 have HX:=Lib.hid hX
 have hb:=h.ltB
 have HT:Hid (∀ u,Rg ((w.alloc (insO ⟨13,n,x⟩)).alloc (askO ask0)) F br bl K u m cs→Calls Tryz.prog 93 #[.pointer (some ⟨br,0,none⟩),.int .i64 0] u fun e w'=>e=.returned (.float .f64 y)∧Rg ((w.alloc (insO ⟨13,n,x⟩)).alloc (askO ask0)) F br bl K w' m cs):=fun u hu=>by
  have:=hu.topG (k:=0) (by rw [hs];simp) hs2
  rw [hs] at this
  exact this
 have HIN:Hid (∀ u m',Rg ((w.alloc (insO ⟨13,n,x⟩)).alloc (askO ask0)) F br bl K u m' cs→u.cell? ⟨w.heap.size,0,none⟩=some (.int .i64 13)∧u.cell? ⟨w.heap.size,1,none⟩=some (.int .i64 n)∧w.heap.size<u.heap.size):=fun u m' hu=>by
  obtain ⟨z0,z1,z2,z3⟩:=cells3_of (HX.out u m' hu).1
  exact ⟨z0,z1,z3⟩
 have HTR:Hid (∀ u,Rg ((w.alloc (insO ⟨13,n,x⟩)).alloc (askO ask0)) F br bl K u { m with place:=n } cs→Calls Tryz.prog 76 #[.pointer (some ⟨br,0,none⟩),.int .i64 1,.slice none 0 0] u fun e w'=>e=.returned (.tuple #[])∧Rg ((w.alloc (insO ⟨13,n,x⟩)).alloc (askO ask0)) F br bl K w' { m with place:=n,st:=s } cs):=fun u hu=>hu.drop1 (m:={ m with place:=n }) hs hs2
 have HO:Hid (∀ u,Calls Tryz.prog 96 #[.float .f64 y] u fun e w'=>e=.returned (.bool false)∧w'=u):=fun u=>by rw [← hy];exact refTrue_any y u
 have HAT:Hid (∀ u,Rg ((w.alloc (insO ⟨13,n,x⟩)).alloc (askO ask0)) F br bl K u m cs→_):=fun u hu=>hu.at11 n
 have G0:=Lib.hid (h1.same (Same.drew _))
 clear h h1 hX hs hs2 hy
 unfold insV
 go_enter Tryz.func75,Tryz.ntmps75
 go_wp2
 refine wp_region_seq (fun u=>u.cell? ⟨w.heap.size,0,none⟩=some (.int .i64 13)) ((0,true)::(3,true)::(4,true)::(5,true)::(1,false)::(2,false)::(6,true)::[]) (by kernel_rfl) (by kernel_rfl) (fun _ _ _ _ _ h=>h) ((HIN.out _ _ G0.out).1) ?_
 repeat (first
  | (refine wpSeq_take (v:=?_) rfl (by rfl) (fun wq hSq=>?_) ?_;rotate_left;(focus ((try dsimp only at hSq);go_simp;try with_reducible rfl));simp only [Act.put,List.setIfInBounds_toArray,List.set_cons_zero,List.set_cons_succ]))
 refine wpSeq_do rfl (by rfl) (fun K hK=>?_)
 go_simp
 refine (HT.out _ G0.out).mono ?_
 rintro e u1 ⟨rfl,q⟩
 have G1:=Lib.hid q
 clear q
 refine hK.out _ _ (HIN.out _ _ G1.out).1 ?_
 clear hK K
 try simp only [Act.put,List.setIfInBounds_toArray,List.set_cons_zero,List.set_cons_succ]
 refine wpSeq_do rfl (by rfl) (fun K hK=>?_)
 go_simp
 refine (HO.out _).mono ?_
 rintro e u ⟨rfl,hu⟩
 subst u
 refine hK.out _ _ (HIN.out _ _ G1.out).1 ?_
 clear hK K
 try simp only [Act.put,List.setIfInBounds_toArray,List.set_cons_zero,List.set_cons_succ]
 repeat (first
  | (refine wpSeq_take (v:=?_) rfl (by rfl) (fun wq hSq=>?_) ?_;rotate_left;(focus ((try dsimp only at hSq);go_simp;try with_reducible rfl));simp only [Act.put,List.setIfInBounds_toArray,List.set_cons_zero,List.set_cons_succ]))
 refine wpSeq_nil ?_
 obtain ⟨_,j1,j2⟩:=HIN.out _ _ G1.out
 obtain ⟨e1,e2,e3,e4⟩:=HAT.out _ G1.out
 have G2:=Lib.hid e4
 clear e4
 go_wp2_with (go_at_call 76;refine (HTR.out _ G2.out).mono ?_;rintro e u9 ⟨rfl,q⟩;obtain ⟨r0,r1,r2,r3⟩:=HX.out _ _ q;obtain ⟨⟨c0,c1,c2,c3,c4⟩,d0,d1,d2,d3⟩:=askO_cells r1;obtain ⟨i0,i1,i2,i3⟩:=cells3_of r0;have G9:=Lib.hid (And.intro r1 r3);clear q r0 r1 r2 r3)
 exact ask_back rfl (w.heap.size+1) ask0 rfl (askO_set (k':=ask0) G9.out.1) rfl ⟨rfl,G9.out.2 _ (turn4 _ _ (.int .i64 0) (.int .i64 0) (.float .f64 0) (.bool false))⟩
theorem rdo_read (h:Rg W F0 br bl K w m cs) {n:Int} {x:Nat} {A:Ask} {M:Mac} (hc:∀ F u,Rg u F br bl K u m cs→Calls Tryz.prog 97 #[.pointer (some ⟨br,0,none⟩)] u fun r w'=>r=.returned (askV A)∧Rg u F br bl K w' M cs):Calls Tryz.prog 75 #[.pointer (some ⟨br,0,none⟩),insV ⟨16,n,x⟩] w fun r w'=>r=.returned (askV A)∧Rg W F0 br bl K w' M cs:=by
 obtain ⟨F,h1,hX⟩:=h.both ⟨16,n,x⟩
 have HX:=Lib.hid hX
 have hb:=h.ltB
 have HC:=Lib.hid (hc F _ h1)
 clear h h1 hX hc
 obtain ⟨ak,ac,ax,af⟩:=A
 unfold insV
 go_enter Tryz.func75,Tryz.ntmps75
 go_wp2_with (go_at_call 97;refine HC.out.mono ?_;rintro e u9 ⟨rfl,q⟩;obtain ⟨r0,r1,r2,r3⟩:=HX.out _ _ q;obtain ⟨⟨c0,c1,c2,c3,c4⟩,d0,d1,d2,d3⟩:=askO_cells r1;obtain ⟨i0,i1,i2,i3⟩:=cells3_of r0;have G9:=Lib.hid (And.intro r1 r3);clear q r0 r1 r2 r3;unfold askV)
 exact ask_back rfl (w.heap.size+1) ⟨ak,ac,ax,af⟩ rfl (askO_set (k':=⟨ak,ac,ax,af⟩) G9.out.1) rfl ⟨rfl,G9.out.2 _ (turn4 _ _ (.int .i64 ak) (.int .i64 ac) (.float .f64 ax) (.bool af))⟩
theorem rdo_write (h:Rg W F0 br bl K w m cs) {n:Int} {x:Nat} {A:Ask} {M:Mac} (hc:∀ F u,Rg u F br bl K u m cs→Calls Tryz.prog 98 #[.pointer (some ⟨br,0,none⟩)] u fun r w'=>r=.returned (askV A)∧Rg u F br bl K w' M cs):Calls Tryz.prog 75 #[.pointer (some ⟨br,0,none⟩),insV ⟨17,n,x⟩] w fun r w'=>r=.returned (askV A)∧Rg W F0 br bl K w' M cs:=by
 obtain ⟨F,h1,hX⟩:=h.both ⟨17,n,x⟩
 have HX:=Lib.hid hX
 have hb:=h.ltB
 have HC:=Lib.hid (hc F _ h1)
 clear h h1 hX hc
 obtain ⟨ak,ac,ax,af⟩:=A
 unfold insV
 go_enter Tryz.func75,Tryz.ntmps75
 go_wp2_with (go_at_call 98;refine HC.out.mono ?_;rintro e u9 ⟨rfl,q⟩;obtain ⟨r0,r1,r2,r3⟩:=HX.out _ _ q;obtain ⟨⟨c0,c1,c2,c3,c4⟩,d0,d1,d2,d3⟩:=askO_cells r1;obtain ⟨i0,i1,i2,i3⟩:=cells3_of r0;have G9:=Lib.hid (And.intro r1 r3);clear q r0 r1 r2 r3;unfold askV)
 exact ask_back rfl (w.heap.size+1) ⟨ak,ac,ax,af⟩ rfl (askO_set (k':=⟨ak,ac,ax,af⟩) G9.out.1) rfl ⟨rfl,G9.out.2 _ (turn4 _ _ (.int .i64 ak) (.int .i64 ac) (.float .f64 ax) (.bool af))⟩
end
end Go.Proofs.YteinilmecnlanabGreatDoor
namespace Go.Proofs.YteinilmecnlanabGreatDoor
open Go.ChangeShapes Go.WideShapes Go.ChangeAt Go.RowKit Num
attribute [local go_sem] run_store_float
section
variable {W w:World} {br bl:Nat} {F0 K:List Nat} {m:Mac} {cs:List Ins}
theorem rdo_set (h:Rg W F0 br bl K w m cs) {n:Int} {x:Nat} {k:Nat} (hn:n=k) (hk:k<8) {y:Nat} {s:List Nat} (hs:m.st=y::s) (hs2:m.st.length≤64):Calls Tryz.prog 75 #[.pointer (some ⟨br,0,none⟩),insV ⟨8,n,x⟩] w fun r w'=>r=.returned (askV ask0)∧Rg W F0 br bl K w' { m with loc:=updF m.loc k y,st:=s } cs:=by
 subst hn
 obtain ⟨F,h1,hX⟩:=h.both ⟨8,k,x⟩
 have HX:=Lib.hid hX
 have hb:=h.ltB
 have HT:Hid (∀ u,Rg ((w.alloc (insO ⟨8,k,x⟩)).alloc (askO ask0)) F br bl K u m cs→Calls Tryz.prog 93 #[.pointer (some ⟨br,0,none⟩),.int .i64 0] u fun e w'=>e=.returned (.float .f64 y)∧(∃ q,w'=u.drewN q)∧Rg ((w.alloc (insO ⟨8,k,x⟩)).alloc (askO ask0)) F br bl K w' m cs):=fun u hu=>by
  have:=rtop_any hu (k:=0) (by rw [hs];simp) hs2
  rw [hs] at this
  exact this.mono fun e u' ⟨a,b⟩=>⟨a,b,by obtain ⟨q,rfl⟩:=b;exact hu.same (Same.drewN _ _)⟩
 have HIN:Hid (∀ u m',Rg ((w.alloc (insO ⟨8,k,x⟩)).alloc (askO ask0)) F br bl K u m' cs→u.cell? ⟨w.heap.size,0,none⟩=some (.int .i64 8)∧u.cell? ⟨w.heap.size,1,none⟩=some (.int .i64 k)∧w.heap.size<u.heap.size):=fun u m' hu=>by
  obtain ⟨z0,z1,z2,z3⟩:=cells3_of (HX.out u m' hu).1
  exact ⟨z0,z1,z3⟩
 obtain ⟨c0',e1,e2,e3,e4,e5,e6⟩:=h1.locAt hk
 have HLO:Hid (∀ u,Rg ((w.alloc (insO ⟨8,k,x⟩)).alloc (askO ask0)) F br bl K u m cs→(u.cell? ⟨bl,k,none⟩=some (.float .f64 (m.loc k))∧u.frozen? ⟨bl,k,none⟩=false∧bl<u.heap.size)∧Hid (Rg ((w.alloc (insO ⟨8,k,x⟩)).alloc (askO ask0)) F br bl K (u.setCell ⟨bl,k,none⟩ (.float .f64 y)) { m with loc:=updF m.loc k y } cs)):=fun u hu=>by
  obtain ⟨c,z1,z2,z3,z4,z5,z6⟩:=hu.locAt hk
  exact ⟨⟨z2,z3,z4⟩,hu.setL hk y⟩
 have HTR:Hid (∀ u,Rg ((w.alloc (insO ⟨8,k,x⟩)).alloc (askO ask0)) F br bl K u { m with loc:=updF m.loc k y } cs→Calls Tryz.prog 76 #[.pointer (some ⟨br,0,none⟩),.int .i64 1,.slice none 0 0] u fun e w'=>e=.returned (.tuple #[])∧Rg ((w.alloc (insO ⟨8,k,x⟩)).alloc (askO ask0)) F br bl K w' { m with loc:=updF m.loc k y,st:=s } cs):=fun u hu=>hu.drop1 (m:={ m with loc:=updF m.loc k y }) hs hs2
 have hk':(k:Int)<8:=by omega
 have G0:=Lib.hid (h1.same (Same.drew _))
 have HE1:=Lib.hid e1
 clear h h1 hX hs hs2 e1 e2 e3 e4 e5
 unfold insV
 go_enter Tryz.func75,Tryz.ntmps75
 go_wp2
 refine wp_region_seqE (fun u=>u.cell? ⟨br,10,none⟩=some (.slice (some ⟨bl,0,none⟩) 8 c0')∧u.cell? ⟨w.heap.size,1,none⟩=some (.int .i64 (k:Int))) ((0,true)::(1,true)::(2,true)::(3,true)::(4,true)::(5,true)::(6,true)::(7,false)::(8,true)::(9,false)::[]) (by kernel_rfl) (by kernel_rfl) (fun _ _ _ _ _ h=>h) (⟨HE1.out,(HIN.out _ _ G0.out).2.1⟩) ?_
 repeat (first
  | (refine wpSeqE_take (v:=?_) rfl (by rfl) (fun wq hSq=>?_) ?_;rotate_left;(focus ((try dsimp only at hSq);go_simp;try with_reducible rfl));simp only [Act.put,List.setIfInBounds_toArray,List.set_cons_zero,List.set_cons_succ]))
 refine wpSeqE_do rfl (by rfl) (fun K hK=>?_)
 go_simp
 refine (HT.out _ G0.out).mono ?_
 rintro e u1 ⟨rfl,⟨qn,hq⟩,q⟩
 have hS1:u1.cell? ⟨br,10,none⟩=some (.slice (some ⟨bl,0,none⟩) 8 c0'):=by rw [hq];exact HE1.out
 clear hq
 have G1:=Lib.hid q
 clear q
 refine hK.out _ _ (fun _=>⟨hS1,(HIN.out _ _ G1.out).2.1⟩) ?_
 clear hK K
 try simp only [Act.put,List.setIfInBounds_toArray,List.set_cons_zero,List.set_cons_succ]
 repeat (first
  | (refine wpSeqE_take (v:=?_) rfl (by rfl) (fun wq hSq=>?_) ?_;rotate_left;(focus ((try dsimp only at hSq);go_simp;try with_reducible rfl));simp only [Act.put,List.setIfInBounds_toArray,List.set_cons_zero,List.set_cons_succ]))
 obtain ⟨⟨l1,l2,l3⟩,G2⟩:=HLO.out _ G1.out
 refine wpSeqE_do rfl (by rfl) (fun K hK=>?_)
 go_simp
 refine hK.out _ _ (fun z=>absurd rfl z) ?_
 clear hK K
 refine wpSeqE_nil ?_
 go_wp2_with (go_at_call 76;refine (HTR.out _ G2.out).mono ?_;rintro e u9 ⟨rfl,q⟩;obtain ⟨r0,r1,r2,r3⟩:=HX.out _ _ q;obtain ⟨⟨c0,c1,c2,c3,c4⟩,d0,d1,d2,d3⟩:=askO_cells r1;obtain ⟨i0,i1,i2,i3⟩:=cells3_of r0;have G9:=Lib.hid (And.intro r1 r3);clear q r0 r1 r2 r3)
 exact ask_back rfl (w.heap.size+1) ask0 rfl (askO_set (k':=ask0) G9.out.1) rfl ⟨rfl,G9.out.2 _ (turn4 _ _ (.int .i64 0) (.int .i64 0) (.float .f64 0) (.bool false))⟩
theorem rdo_emit (h:Rg W F0 br bl K w m cs) {n:Int} {x:Nat} {y:Nat} {s:List Nat} (hs:m.st=y::s) (hs2:m.st.length≤64) (hl:m.out.length≤1024):Calls Tryz.prog 75 #[.pointer (some ⟨br,0,none⟩),insV ⟨18,n,x⟩] w fun r w'=>r=.returned (askV ask0)∧Rg W F0 br bl K w' { m with out:=m.out ++ [y],st:=s } cs:=by
 obtain ⟨F,h1,hX⟩:=h.both ⟨18,n,x⟩
 have HX:=Lib.hid hX
 have hb:=h.ltB
 have HT:Hid (∀ u,Rg ((w.alloc (insO ⟨18,n,x⟩)).alloc (askO ask0)) F br bl K u m cs→Calls Tryz.prog 93 #[.pointer (some ⟨br,0,none⟩),.int .i64 0] u fun e w'=>e=.returned (.float .f64 y)∧(∃ q,w'=u.drewN q)∧Rg ((w.alloc (insO ⟨18,n,x⟩)).alloc (askO ask0)) F br bl K w' m cs):=fun u hu=>by
  have:=rtop_any hu (k:=0) (by rw [hs];simp) hs2
  rw [hs] at this
  exact this.mono fun e u' ⟨a,b⟩=>⟨a,b,by obtain ⟨q,rfl⟩:=b;exact hu.same (Same.drewN _ _)⟩
 have HTR:Hid (∀ u,Rg ((w.alloc (insO ⟨18,n,x⟩)).alloc (askO ask0)) F br bl K u { m with out:=m.out ++ [y] } cs→Calls Tryz.prog 76 #[.pointer (some ⟨br,0,none⟩),.int .i64 1,.slice none 0 0] u fun e w'=>e=.returned (.tuple #[])∧Rg ((w.alloc (insO ⟨18,n,x⟩)).alloc (askO ask0)) F br bl K w' { m with out:=m.out ++ [y],st:=s } cs):=fun u hu=>hu.drop1 (m:={ m with out:=m.out ++ [y] }) hs hs2
 obtain ⟨p,k,cr,e1,e2,e3,e4,e5⟩:=h1.tells y hl
 have H5:=Lib.hid e5
 have hkl:k≤1024:=by omega
 have hwr:IntKind.i64.wrap (k:Int)=k:=by rw [IntKind.wrap_i64];omega
 have G0:=Lib.hid (h1.same (Same.drew _))
 have HE1:=Lib.hid e1
 clear h h1 hX hs hs2 e1 e3 e5 hl
 rcases e4 with ⟨rfl,rfl⟩ | ⟨g,o,rfl⟩
 ·simp only [Int.cast_ofNat_Int] at hwr e2
  unfold insV
  go_enter Tryz.func75,Tryz.ntmps75
  go_wp2
  refine wp_region_seqE (fun u=>u.cell? ⟨br,17,none⟩=some (.slice none 0 cr)) ((0,true)::(1,true)::(2,true)::(3,true)::(4,true)::(5,true)::(6,true)::(7,true)::(8,true)::(9,true)::(10,true)::(11,true)::(12,true)::(13,true)::(14,true)::(15,true)::(16,true)::(17,false)::(18,false)::(19,false)::(20,true)::(21,true)::(22,false)::[]) (by kernel_rfl) (by kernel_rfl) (fun _ _ _ _ _ h=>h) (HE1.out) ?_
  repeat (first
   | (refine wpSeqE_take (v:=?_) rfl (by rfl) (fun wq hSq=>?_) ?_;rotate_left;(focus ((try dsimp only at hSq);go_simp;try with_reducible rfl));simp only [Act.put,List.setIfInBounds_toArray,List.set_cons_zero,List.set_cons_succ]))
  refine wpSeqE_do rfl (by rfl) (fun K hK=>?_)
  go_simp
  refine (HT.out _ G0.out).mono ?_
  rintro e u1 ⟨rfl,⟨qn,hq⟩,q⟩
  have hS1:u1.cell? ⟨br,17,none⟩=some (.slice none 0 cr):=by rw [hq];exact HE1.out
  have B1:Hid (Below ((w.alloc (insO ⟨18,n,x⟩)).alloc (askO ask0)).heap.size ((w.alloc (insO ⟨18,n,x⟩)).alloc (askO ask0)) u1):=by rw [hq];exact ((Same.drew _).below _).trans ((Same.drewN _ _).below _)
  clear hq
  have G1:=Lib.hid q
  clear q
  refine hK.out _ _ (fun _=>hS1) ?_
  clear hK K
  try simp only [Act.put,List.setIfInBounds_toArray,List.set_cons_zero,List.set_cons_succ]
  refine wpSeqE_do rfl (by rfl) (fun K hK=>?_)
  go_simp
  refine hK.out _ _ (fun _=>(H5.out _ (bl_new B1.out _)).1.1) ?_
  clear hK K
  try simp only [Act.put,List.setIfInBounds_toArray,List.set_cons_zero,List.set_cons_succ]
  refine wpSeqE_do rfl (by rfl) (fun K hK=>?_)
  refine wp_append_ex _ _ _ _ rfl _ _ rfl rfl ((H5.out (u1.alloc (.cells #[.float .f64 y] 64)) (bl_new B1.out _)).2 u1.heap.size _ (by rw [cell_of_row _ _ _ _ _ _ (heap_alloc_new u1 _)];rfl)) ?_
  rintro v w3 ⟨gq,nq,cq,rfl,hq0,hq1,hq2,hq3⟩
  refine hK.out _ _ (fun _=>hq1) ?_
  clear hK K
  try simp only [Act.put,List.setIfInBounds_toArray,List.set_cons_zero,List.set_cons_succ]
  repeat (first
   | (refine wpSeqE_take (v:=?_) rfl (by rfl) (fun wq hSq=>?_) ?_;rotate_left;(focus ((try dsimp only at hSq);go_simp;try with_reducible rfl));simp only [Act.put,List.setIfInBounds_toArray,List.set_cons_zero,List.set_cons_succ]))
  refine wpSeqE_do rfl (by rfl) (fun K hK=>?_)
  go_simp
  refine hK.out _ _ (fun z=>absurd rfl z) ?_
  clear hK K
  refine wpSeqE_nil ?_
  go_wp2_with (go_at_call 76;refine (HTR.out _ hq0.out).mono ?_;rintro e u9 ⟨rfl,q⟩;obtain ⟨r0,r1,r2,r3⟩:=HX.out _ _ q;obtain ⟨⟨c0,c1,c2,c3,c4⟩,d0,d1,d2,d3⟩:=askO_cells r1;obtain ⟨i0,i1,i2,i3⟩:=cells3_of r0;have G9:=Lib.hid (And.intro r1 r3);clear q r0 r1 r2 r3)
  exact ask_back rfl (w.heap.size+1) ask0 rfl (askO_set (k':=ask0) G9.out.1) rfl ⟨rfl,G9.out.2 _ (turn4 _ _ (.int .i64 0) (.int .i64 0) (.float .f64 0) (.bool false))⟩
 ·skip
  unfold insV
  go_enter Tryz.func75,Tryz.ntmps75
  go_wp2
  refine wp_region_seqE (fun u=>u.cell? ⟨br,17,none⟩=some (.slice (some ⟨g,o,none⟩) k cr)) ((0,true)::(1,true)::(2,true)::(3,true)::(4,true)::(5,true)::(6,true)::(7,true)::(8,true)::(9,true)::(10,true)::(11,true)::(12,true)::(13,true)::(14,true)::(15,true)::(16,true)::(17,false)::(18,false)::(19,false)::(20,true)::(21,true)::(22,false)::[]) (by kernel_rfl) (by kernel_rfl) (fun _ _ _ _ _ h=>h) (HE1.out) ?_
  repeat (first
   | (refine wpSeqE_take (v:=?_) rfl (by rfl) (fun wq hSq=>?_) ?_;rotate_left;(focus ((try dsimp only at hSq);go_simp;try with_reducible rfl));simp only [Act.put,List.setIfInBounds_toArray,List.set_cons_zero,List.set_cons_succ]))
  refine wpSeqE_do rfl (by rfl) (fun K hK=>?_)
  go_simp
  refine (HT.out _ G0.out).mono ?_
  rintro e u1 ⟨rfl,⟨qn,hq⟩,q⟩
  have hS1:u1.cell? ⟨br,17,none⟩=some (.slice (some ⟨g,o,none⟩) k cr):=by rw [hq];exact HE1.out
  have B1:Hid (Below ((w.alloc (insO ⟨18,n,x⟩)).alloc (askO ask0)).heap.size ((w.alloc (insO ⟨18,n,x⟩)).alloc (askO ask0)) u1):=by rw [hq];exact ((Same.drew _).below _).trans ((Same.drewN _ _).below _)
  clear hq
  have G1:=Lib.hid q
  clear q
  refine hK.out _ _ (fun _=>hS1) ?_
  clear hK K
  try simp only [Act.put,List.setIfInBounds_toArray,List.set_cons_zero,List.set_cons_succ]
  refine wpSeqE_do rfl (by rfl) (fun K hK=>?_)
  go_simp
  refine hK.out _ _ (fun _=>(H5.out _ (bl_new B1.out _)).1.1) ?_
  clear hK K
  try simp only [Act.put,List.setIfInBounds_toArray,List.set_cons_zero,List.set_cons_succ]
  refine wpSeqE_do rfl (by rfl) (fun K hK=>?_)
  refine wp_append_ex _ _ _ _ rfl _ _ rfl rfl ((H5.out (u1.alloc (.cells #[.float .f64 y] 64)) (bl_new B1.out _)).2 u1.heap.size _ (by rw [cell_of_row _ _ _ _ _ _ (heap_alloc_new u1 _)];rfl)) ?_
  rintro v w3 ⟨gq,nq,cq,rfl,hq0,hq1,hq2,hq3⟩
  refine hK.out _ _ (fun _=>hq1) ?_
  clear hK K
  try simp only [Act.put,List.setIfInBounds_toArray,List.set_cons_zero,List.set_cons_succ]
  repeat (first
   | (refine wpSeqE_take (v:=?_) rfl (by rfl) (fun wq hSq=>?_) ?_;rotate_left;(focus ((try dsimp only at hSq);go_simp;try with_reducible rfl));simp only [Act.put,List.setIfInBounds_toArray,List.set_cons_zero,List.set_cons_succ]))
  refine wpSeqE_do rfl (by rfl) (fun K hK=>?_)
  go_simp
  refine hK.out _ _ (fun z=>absurd rfl z) ?_
  clear hK K
  refine wpSeqE_nil ?_
  go_wp2_with (go_at_call 76;refine (HTR.out _ hq0.out).mono ?_;rintro e u9 ⟨rfl,q⟩;obtain ⟨r0,r1,r2,r3⟩:=HX.out _ _ q;obtain ⟨⟨c0,c1,c2,c3,c4⟩,d0,d1,d2,d3⟩:=askO_cells r1;obtain ⟨i0,i1,i2,i3⟩:=cells3_of r0;have G9:=Lib.hid (And.intro r1 r3);clear q r0 r1 r2 r3)
  exact ask_back rfl (w.heap.size+1) ask0 rfl (askO_set (k':=ask0) G9.out.1) rfl ⟨rfl,G9.out.2 _ (turn4 _ _ (.int .i64 0) (.int .i64 0) (.float .f64 0) (.bool false))⟩
theorem rdo_call (h:Rg W F0 br bl K w m cs) {n:Int} {x:Nat} (hl:m.calls.length≤1024):Calls Tryz.prog 75 #[.pointer (some ⟨br,0,none⟩),insV ⟨14,n,x⟩] w fun r w'=>r=.returned (askV ask0)∧Rg W F0 br bl K w' { m with calls:=m.place::m.calls,place:=n } cs:=by
 obtain ⟨F,h1,hX⟩:=h.both ⟨14,n,x⟩
 have HX:=Lib.hid hX
 have hb:=h.ltB
 have HIN:Hid (∀ u m',Rg ((w.alloc (insO ⟨14,n,x⟩)).alloc (askO ask0)) F br bl K u m' cs→u.cell? ⟨w.heap.size,0,none⟩=some (.int .i64 14)∧u.cell? ⟨w.heap.size,1,none⟩=some (.int .i64 n)∧w.heap.size<u.heap.size):=fun u m' hu=>by
  obtain ⟨z0,z1,z2,z3⟩:=cells3_of (HX.out u m' hu).1
  exact ⟨z0,z1,z3⟩
 have HAT:Hid (∀ u,Rg ((w.alloc (insO ⟨14,n,x⟩)).alloc (askO ask0)) F br bl K u { m with calls:=m.place::m.calls } cs→_):=fun u hu=>hu.at11 n
 have HPL:Hid (∀ u,Below ((w.alloc (insO ⟨14,n,x⟩)).alloc (askO ask0)).heap.size ((w.alloc (insO ⟨14,n,x⟩)).alloc (askO ask0)) u→u.cell? ⟨br,11,none⟩=some (.int .i64 m.place)):=fun u hu=>((h1.on hu).at11 0).1
 obtain ⟨p,k,cr,e1,e2,e3,e4,e5⟩:=h1.opens m.place hl
 have H5:=Lib.hid e5
 have hkl:k≤1024:=by omega
 have hwr:IntKind.i64.wrap (k:Int)=k:=by rw [IntKind.wrap_i64];omega
 have HE1:=Lib.hid e1
 have HE2:=Lib.hid (h1.at11 0).1
 have HAP:Hid (∀ u,Below ((w.alloc (insO ⟨14,n,x⟩)).alloc (askO ask0)).heap.size ((w.alloc (insO ⟨14,n,x⟩)).alloc (askO ask0)) u→∀ g0 ty,u.cell? ⟨g0,0,none⟩=some (.int .i64 m.place)→∃ v u',(Builtin.append_ #[86,86] ty #[.slice p k k,.slice (some ⟨g0,0,none⟩) 1 1]).run Tryz.prog u=.ok v u'∧∃ g1 n1 c1,v=.slice (some ⟨g1,0,none⟩) n1 c1∧(Hid (Rg ((w.alloc (insO ⟨14,n,x⟩)).alloc (askO ask0)) F br bl K (u'.setCell ⟨br,9,none⟩ (.slice (some ⟨g1,0,none⟩) n1 c1)) { m with calls:=m.place::m.calls } cs)∧u'.cell? ⟨br,9,none⟩=some (.slice p k cr)∧u'.frozen? ⟨br,9,none⟩=false∧br<u'.heap.size∧u'.cell? ⟨br,11,none⟩=some (.int .i64 m.place))):=fun u hu g0 ty c0=>by
  obtain ⟨v,u',z1,g1,n1,c1,rfl,z2,z3,z4,z5⟩:=(H5.out u hu).2 g0 ty c0
  refine ⟨_,u',z1,g1,n1,c1,rfl,z2,z3,z4,z5,?_⟩
  have:=(HAT.out _ z2.out).1
  rwa [World.cell?_setCell_other _ _ _ _ (by simp)] at this
 clear h h1 hX e1 e3 e5 hl
 rcases e4 with ⟨rfl,rfl⟩ | ⟨g,o,rfl⟩
 ·simp only [Int.cast_ofNat_Int] at hwr e2
  unfold insV
  go_enter Tryz.func75,Tryz.ntmps75
  go_wp2
  refine wp_region_seqE (fun u=>u.cell? ⟨br,9,none⟩=some (.slice none 0 cr)∧u.cell? ⟨br,11,none⟩=some (.int .i64 m.place)) ((0,true)::(1,true)::(2,true)::(3,true)::(4,true)::(5,true)::(6,true)::(7,true)::(8,true)::(9,true)::(10,true)::(11,true)::(12,true)::(13,true)::(14,true)::(15,true)::(16,true)::(17,true)::(18,true)::(19,true)::(20,false)::(21,false)::(22,true)::(23,true)::(24,false)::[]) (by kernel_rfl) (by kernel_rfl) (fun _ _ _ _ _ h=>h) (⟨HE1.out,HE2.out⟩) ?_
  repeat (first
   | (refine wpSeqE_take (v:=?_) rfl (by rfl) (fun wq hSq=>?_) ?_;rotate_left;(focus ((try dsimp only at hSq);go_simp;try with_reducible rfl));simp only [Act.put,List.setIfInBounds_toArray,List.set_cons_zero,List.set_cons_succ]))
  refine wpSeqE_do rfl (by rfl) (fun K hK=>?_)
  go_simp
  refine hK.out _ _ (fun _=>⟨(H5.out _ (bl_new (bl_drw (Below.refl _ _)) _)).1.1,HPL.out _ (bl_new (bl_drw (Below.refl _ _)) _)⟩) ?_
  clear hK K
  try simp only [Act.put,List.setIfInBounds_toArray,List.set_cons_zero,List.set_cons_succ]
  refine wpSeqE_do rfl (by rfl) (fun K hK=>?_)
  refine wp_append_ex _ _ _ _ rfl _ _ rfl rfl (HAP.out (((w.alloc (insO ⟨14,n,x⟩)).alloc (askO ask0)).drew.alloc (.cells #[.int .i64 m.place] 3)) (bl_new (bl_drw (Below.refl _ _)) _) (w.heap.size+1+1) _ (by rw [cell_of_row _ _ _ _ _ _ (heap_new (by simp))];rfl)) ?_
  rintro v w3 ⟨gq,nq,cq,rfl,hq0,hq1,hq2,hq3,hq4⟩
  refine hK.out _ _ (fun _=>⟨hq1,hq4⟩) ?_
  clear hK K
  try simp only [Act.put,List.setIfInBounds_toArray,List.set_cons_zero,List.set_cons_succ]
  repeat (first
   | (refine wpSeqE_take (v:=?_) rfl (by rfl) (fun wq hSq=>?_) ?_;rotate_left;(focus ((try dsimp only at hSq);go_simp;try with_reducible rfl));simp only [Act.put,List.setIfInBounds_toArray,List.set_cons_zero,List.set_cons_succ]))
  refine wpSeqE_do rfl (by rfl) (fun K hK=>?_)
  go_simp
  refine hK.out _ _ (fun z=>absurd rfl z) ?_
  clear hK K
  refine wpSeqE_nil ?_
  obtain ⟨_,j1,j2⟩:=HIN.out _ _ hq0.out
  obtain ⟨f1,f2,f3,q⟩:=HAT.out _ hq0.out
  obtain ⟨r0,r1,r2,r3⟩:=HX.out _ _ q;obtain ⟨⟨c0,c1,c2,c3,c4⟩,d0,d1,d2,d3⟩:=askO_cells r1;obtain ⟨i0,i1,i2,i3⟩:=cells3_of r0;have G9:=Lib.hid (And.intro r1 r3);clear q r0 r1 r2 r3
  clear hq0
  go_wp2
  exact ask_back rfl (w.heap.size+1) ask0 rfl (askO_set (k':=ask0) G9.out.1) rfl ⟨rfl,G9.out.2 _ (turn4 _ _ (.int .i64 0) (.int .i64 0) (.float .f64 0) (.bool false))⟩
 ·skip
  unfold insV
  go_enter Tryz.func75,Tryz.ntmps75
  go_wp2
  refine wp_region_seqE (fun u=>u.cell? ⟨br,9,none⟩=some (.slice (some ⟨g,o,none⟩) k cr)∧u.cell? ⟨br,11,none⟩=some (.int .i64 m.place)) ((0,true)::(1,true)::(2,true)::(3,true)::(4,true)::(5,true)::(6,true)::(7,true)::(8,true)::(9,true)::(10,true)::(11,true)::(12,true)::(13,true)::(14,true)::(15,true)::(16,true)::(17,true)::(18,true)::(19,true)::(20,false)::(21,false)::(22,true)::(23,true)::(24,false)::[]) (by kernel_rfl) (by kernel_rfl) (fun _ _ _ _ _ h=>h) (⟨HE1.out,HE2.out⟩) ?_
  repeat (first
   | (refine wpSeqE_take (v:=?_) rfl (by rfl) (fun wq hSq=>?_) ?_;rotate_left;(focus ((try dsimp only at hSq);go_simp;try with_reducible rfl));simp only [Act.put,List.setIfInBounds_toArray,List.set_cons_zero,List.set_cons_succ]))
  refine wpSeqE_do rfl (by rfl) (fun K hK=>?_)
  go_simp
  refine hK.out _ _ (fun _=>⟨(H5.out _ (bl_new (bl_drw (Below.refl _ _)) _)).1.1,HPL.out _ (bl_new (bl_drw (Below.refl _ _)) _)⟩) ?_
  clear hK K
  try simp only [Act.put,List.setIfInBounds_toArray,List.set_cons_zero,List.set_cons_succ]
  refine wpSeqE_do rfl (by rfl) (fun K hK=>?_)
  refine wp_append_ex _ _ _ _ rfl _ _ rfl rfl (HAP.out (((w.alloc (insO ⟨14,n,x⟩)).alloc (askO ask0)).drew.alloc (.cells #[.int .i64 m.place] 3)) (bl_new (bl_drw (Below.refl _ _)) _) (w.heap.size+1+1) _ (by rw [cell_of_row _ _ _ _ _ _ (heap_new (by simp))];rfl)) ?_
  rintro v w3 ⟨gq,nq,cq,rfl,hq0,hq1,hq2,hq3,hq4⟩
  refine hK.out _ _ (fun _=>⟨hq1,hq4⟩) ?_
  clear hK K
  try simp only [Act.put,List.setIfInBounds_toArray,List.set_cons_zero,List.set_cons_succ]
  repeat (first
   | (refine wpSeqE_take (v:=?_) rfl (by rfl) (fun wq hSq=>?_) ?_;rotate_left;(focus ((try dsimp only at hSq);go_simp;try with_reducible rfl));simp only [Act.put,List.setIfInBounds_toArray,List.set_cons_zero,List.set_cons_succ]))
  refine wpSeqE_do rfl (by rfl) (fun K hK=>?_)
  go_simp
  refine hK.out _ _ (fun z=>absurd rfl z) ?_
  clear hK K
  refine wpSeqE_nil ?_
  obtain ⟨_,j1,j2⟩:=HIN.out _ _ hq0.out
  obtain ⟨f1,f2,f3,q⟩:=HAT.out _ hq0.out
  obtain ⟨r0,r1,r2,r3⟩:=HX.out _ _ q;obtain ⟨⟨c0,c1,c2,c3,c4⟩,d0,d1,d2,d3⟩:=askO_cells r1;obtain ⟨i0,i1,i2,i3⟩:=cells3_of r0;have G9:=Lib.hid (And.intro r1 r3);clear q r0 r1 r2 r3
  clear hq0
  go_wp2
  exact ask_back rfl (w.heap.size+1) ask0 rfl (askO_set (k':=ask0) G9.out.1) rfl ⟨rfl,G9.out.2 _ (turn4 _ _ (.int .i64 0) (.int .i64 0) (.float .f64 0) (.bool false))⟩
end
end Go.Proofs.YteinilmecnlanabGreatDoor
namespace Go.Proofs.YteinilmecnlanabGreatDoor
open Go.ChangeShapes Go.WideShapes Go.ChangeAt Go.RowKit Num
attribute [local go_sem] run_store_float
section
variable {W w:World} {br bl:Nat} {F0 K:List Nat} {m:Mac} {cs:List Ins}
theorem i64s_app (a b:List Int):i64s (a ++ b)=i64s a ++ i64s b:=by unfold i64s;rw [List.map_append]
theorem Rg.lastC (h:Rg W F0 br bl K w m cs) {c:Int} {r:List Int} (hc:m.calls=c::r):∃ g o cc,w.cell? ⟨br,9,none⟩=some (.slice (some ⟨g,o,none⟩) (r.length+1) cc)∧(r.length+1:Int)≤cc∧w.cell? ⟨g,o+r.length,none⟩=some (.int .i64 c)∧g<w.heap.size∧br≠g∧(w.frozen? ⟨br,9,none⟩=false∧w.frozen? ⟨br,11,none⟩=false∧w.cell? ⟨br,11,none⟩=some (.int .i64 m.place)∧br<w.heap.size)∧Rg W F0 br bl K ((w.setCell ⟨br,11,none⟩ (.int .i64 c)).setCell ⟨br,9,none⟩ (.slice (some ⟨g,o,none⟩) r.length cc)) { m with calls:=r,place:=c } cs:=by
 obtain ⟨q,hr,hbl,ht,hF⟩:=id h
 have hro:=hr.cal
 rw [hc,List.reverse_cons,i64s_app] at hro
 obtain ⟨g,o,hp,hcell,hg⟩:=hro.get (j:=r.length) (v:=.int .i64 c) (by
  rw [List.getElem?_append_right (by rw [i64s_len,List.length_reverse];exact Nat.le_refl _),i64s_len,List.length_reverse,Nat.sub_self]
  rfl)
 have hlen:m.calls.length=r.length+1:=by rw [hc];rfl
 refine ⟨g,o,q.cc,by rw [← hp,← hlen];exact (hr.cell 9).trans rfl,by have:=hr.c2;omega,hcell,hg,fun e=>(hr.ap q.pc (by simp [Rp.rows])).1 (by rw [hp];simp [fpR];exact e),⟨hr.free 9,hr.free 11,(hr.cell 11).trans rfl,hr.ltB⟩,?_⟩
 have hr1:=hr.set 11 (.int .i64 c) { m with place:=c } rfl ⟨rfl,rfl,rfl,rfl,rfl,rfl,rfl,rfl,rfl⟩ hr.zc
 have hro1:=hr1.cal
 have e0:({ m with place:=c }:Mac).calls=c::r:=hc
 rw [e0,List.reverse_cons,i64s_app] at hro1
 have:=(h.at11 c).2.2.2.putC hr1 hF hbl (w3:=w.setCell ⟨br,11,none⟩ (.int .i64 c)) (Below.refl _ _) (p:=q.pc) (s:=r) (c:=q.cc) (.inl (by simp [Rp.rows])) (fun y hy=>hr1.lt y (in_fr (by simp [Rp.rows]) hy)) hro1.pre (by have:=hr.c2;omega)
 rw [hp] at this
 exact this
theorem rdo_ret (h:Rg W F0 br bl K w m cs) {n:Int} {x:Nat} {c:Int} {r:List Int} (hc:m.calls=c::r) (hl:m.calls.length≤16):Calls Tryz.prog 75 #[.pointer (some ⟨br,0,none⟩),insV ⟨15,n,x⟩] w fun e w'=>e=.returned (askV ask0)∧Rg W F0 br bl K w' { m with calls:=r,place:=c } cs:=by
 obtain ⟨g,o,cc,e1,e2,e3,e4,e5,⟨k1,k2,k3,hb⟩,e6⟩:=h.lastC hc
 have hd:r.length≤15:=by rw [hc] at hl;simp at hl;omega
 have G9:=Lib.hid e6
 obtain ⟨d,hdd⟩:∃ d,r.length=d:=⟨_,rfl⟩
 rw [hdd] at e1 e2 e3 G9 hd
 have hwr:IntKind.i64.wrap (d:Int)=d:=by rw [IntKind.wrap_i64];omega
 have HS:Hid (∀ u,Below w.heap.size w u→u.cell? ⟨br,9,none⟩=some (.slice (some ⟨g,o,none⟩) (d+1) cc)∧u.cell? ⟨g,o+d,none⟩=some (.int .i64 c)):=fun u hu=>⟨(hu.cell (p:=⟨br,9,none⟩) hb).trans e1,(hu.cell (p:=⟨g,o+d,none⟩) e4).trans e3⟩
 have hdc:(d:Int)≤(cc:Int):=by omega
 have hb1:(d:Int)<(d:Int)+1:=by omega
 have hb2:(d:Int)<((d+1:Nat):Int):=by omega
 have hb3:(0:Int)≤(d:Int):=by omega
 have HS1:Hid (∀ u,Below (w.setCell ⟨br,11,none⟩ (.int .i64 c)).heap.size (w.setCell ⟨br,11,none⟩ (.int .i64 c)) u→u.cell? ⟨br,9,none⟩=some (.slice (some ⟨g,o,none⟩) (d+1) cc)):=fun u hu=>(hu.cell (p:=⟨br,9,none⟩) (by simpa using hb)).trans ((World.cell?_setCell_other _ _ _ _ (by simp)).trans e1)
 clear h hc hl e6 hdd
 unfold insV
 go_enter Tryz.func75,Tryz.ntmps75
 go_wp2
 refine wp_region_seqE (fun u=>u.cell? ⟨br,9,none⟩=some (.slice (some ⟨g,o,none⟩) (d+1) cc)∧u.cell? ⟨g,o+d,none⟩=some (.int .i64 c)) ((0,true)::(1,true)::(2,true)::(3,true)::(4,true)::(5,true)::(6,true)::(7,true)::(8,true)::(9,true)::(10,true)::(11,true)::(12,true)::(13,true)::(14,true)::(15,false)::[]) (by kernel_rfl) (by kernel_rfl) (fun _ _ _ _ _ h=>h) (HS.out _ (bl_drw ((below_alloc w _).trans ((below_alloc _ _).mono (by simp))))) ?_
 repeat (first
  | (refine wpSeqE_take (v:=?_) rfl (by rfl) (fun wq hSq=>?_) ?_;rotate_left;(focus ((try dsimp only at hSq);go_simp;try with_reducible rfl));simp only [Act.put,List.setIfInBounds_toArray,List.set_cons_zero,List.set_cons_succ]))
 refine wpSeqE_do rfl (by rfl) (fun K hK=>?_)
 go_simp
 refine hK.out _ _ (fun z=>absurd rfl z) ?_
 clear hK K
 refine wpSeqE_nil ?_
 go_wp2
 refine wp_region_seqE (fun u=>u.cell? ⟨br,9,none⟩=some (.slice (some ⟨g,o,none⟩) (d+1) cc)) ((0,true)::(1,true)::(2,true)::(3,true)::(4,true)::(5,true)::(6,true)::(7,true)::(8,true)::(9,true)::(10,true)::(11,true)::(12,true)::(13,true)::(14,false)::[]) (by kernel_rfl) (by kernel_rfl) (fun _ _ _ _ _ h=>h) (HS1.out _ (bl_drw (bl_drw ((below_alloc (w.setCell ⟨br,11,none⟩ (.int .i64 c)) _).trans ((below_alloc _ _).mono (by simp)))))) ?_
 repeat (first
  | (refine wpSeqE_take (v:=?_) rfl (by rfl) (fun wq hSq=>?_) ?_;rotate_left;(focus ((try dsimp only at hSq);go_simp;try with_reducible rfl));simp only [Act.put,List.setIfInBounds_toArray,List.set_cons_zero,List.set_cons_succ]))
 refine wpSeqE_do rfl (by rfl) (fun K hK=>?_)
 go_simp
 refine hK.out _ _ (fun z=>absurd rfl z) ?_
 clear hK K
 refine wpSeqE_nil ?_
 go_wp2
 exact ask_back rfl (w.heap.size+1) ask0 rfl (heap_new (by simp)) rfl ⟨rfl,((G9.out.alloc _).alloc _).same (Same.drewN _ 2)⟩
end
end Go.Proofs.YteinilmecnlanabGreatDoor
