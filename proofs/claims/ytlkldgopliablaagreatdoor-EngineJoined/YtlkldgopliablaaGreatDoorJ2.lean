import Derived.Test.YtlkldgopliablaaGreatDoorJ1
import Derived.Laws.StructEq
import Derived.Test.YtlkldgopliablaaGreatDoorWalkB
import Derived.Test.YtlkldgopliablaaGreatDoorM2
import Derived.Deep.QuietTactic
import Derived.BigQuiet
import Derived.Laws.CopyRow
import Derived.Deep.RegionWith
import Derived.Deep.WholeRow
import Derived.Deep.RegionHeld
import Derived.Test.YtlkldgopliablaaGreatDoorSq
import Derived.Test.YtlkldgopliablaaGreatDoorY2
import Derived.Test.YtlkldgopliablaaGreatDoorS1
import Derived.Deep.AppendLies
import Derived.Deep.LoopGhost
import Derived.Deep.AppendSrc
import Derived.Deep.MidRow
set_option maxRecDepth 100000
set_option maxHeartbeats 8000000
namespace Go.Proofs.YtlkldgopliablaaGreatDoor
open Go.ChangeShapes Go.WideShapes Go.ChangeAt Go.RowKit Num
structure Mid (m:Mac):Prop where
 cells:1≤m.cells∧m.cells≤256
 fuel:1≤m.fuel∧m.fuel≤1024
 wmax:1≤m.wmax∧m.wmax≤32
 len:m.code.length≤1024
 may:∀ k,k<m.code.length→mayB (ci m.code k) m.code.length=true∧(ci m.code k).x<18446744073709551616
 args:∀ k,okN (m.args k)
 loc:∀ k,okN (m.loc k)
 st:∀ x∈m.st,okN x
 high:m.st.length≤64
 calls:∀ c∈m.calls,0≤c∧c≤(m.code.length:Int)
 deep:m.calls.length≤16
 place:0≤m.place∧m.place≤(m.code.length:Int)
 used:0≤m.used∧m.used≤m.fuel
 out:(m.out.length:Int)<m.used
 reads:(m.reads.length:Int)<m.used
 buf:∀ t∈m.buf,okN t.2
 few:(m.buf.length:Int)≤m.wmax
 wait:m.wait=-1
 how:m.how=0
 none:m.upd=false→m.buf=[]
 err:m.err=0
 idle:m.code≠[]
section
variable {m:Mac}
theorem Mid.setSt (h:Mid m) {s:List Nat} (hs:∀ x∈s,okN x) (hl:s.length≤64):Mid { m with st:=s } :=
 ⟨h.cells,h.fuel,h.wmax,h.len,h.may,h.args,h.loc,hs,hl,h.calls,h.deep,h.place,h.used,h.out,h.reads,h.buf,h.few,h.wait,h.how,h.none,h.err,h.idle⟩
theorem Mid.setLoc (h:Mid m) {f:Nat→Nat} (hf:∀ k,okN (f k)):Mid { m with loc:=f } :=
 ⟨h.cells,h.fuel,h.wmax,h.len,h.may,h.args,hf,h.st,h.high,h.calls,h.deep,h.place,h.used,h.out,h.reads,h.buf,h.few,h.wait,h.how,h.none,h.err,h.idle⟩
theorem Mid.setPlace (h:Mid m) {n:Int} (hn:0≤n∧n≤(m.code.length:Int)):Mid { m with place:=n } :=
 ⟨h.cells,h.fuel,h.wmax,h.len,h.may,h.args,h.loc,h.st,h.high,h.calls,h.deep,hn,h.used,h.out,h.reads,h.buf,h.few,h.wait,h.how,h.none,h.err,h.idle⟩
theorem Mid.setCalls (h:Mid m) {c:List Int} (hc:∀ x∈c,0≤x∧x≤(m.code.length:Int)) (hd:c.length≤16):Mid { m with calls:=c } :=
 ⟨h.cells,h.fuel,h.wmax,h.len,h.may,h.args,h.loc,h.st,h.high,hc,hd,h.place,h.used,h.out,h.reads,h.buf,h.few,h.wait,h.how,h.none,h.err,h.idle⟩
theorem Mid.setBuf (h:Mid m) {l:Wr} (hl:∀ t∈l,okN t.2) (hf:(l.length:Int)≤m.wmax) (hn:m.upd=false→l=[]):Mid { m with buf:=l } :=
 ⟨h.cells,h.fuel,h.wmax,h.len,h.may,h.args,h.loc,h.st,h.high,h.calls,h.deep,h.place,h.used,h.out,h.reads,hl,hf,h.wait,h.how,hn,h.err,h.idle⟩
theorem Mid.not_wait (h:Mid m):¬ 0≤m.wait:=by rw [h.wait];decide
theorem Mid.ended (h:Mid m) (o c e:Int) (ho:0≤o∧o≤3) (hoe:o=3 ↔ e≠0) (he:e≠80) (l:List Nat) (hl:(l.length:Int)≤m.used):Inv { m with out:=l,how:=o,cod:=c,err:=e } :=
 ⟨h.cells,h.fuel,h.wmax,h.len,h.may,h.args,h.loc,h.st,by rw [if_neg h.not_wait];have:=h.high;show (m.st.length:Int)+0≤64;omega,h.calls,h.deep,h.place,h.used,hl,by rw [if_neg h.not_wait];have:=h.reads;show (m.reads.length:Int)+0≤m.used;omega,h.buf,h.few,by have:=h.cells;show -1≤m.wait∧m.wait<m.cells;rw [h.wait];omega,ho,h.none,hoe,fun q=>absurd q he,fun q=>absurd q h.idle⟩
theorem Mid.out' (h:Mid m) {l:List Nat} (hl:(l.length:Int)≤m.used):Inv { m with out:=l }:=by
 have:=h.ended 0 m.cod 0 (by omega) (by omega) (by omega) l hl
 have e:({ m with out:=l }:Mac)={ m with out:=l,how:=0,cod:=m.cod,err:=0 }:=by have h1:=h.how;have h2:=h.err;simp only [h1,h2]
 rw [e]
 exact this
theorem Mid.inv (h:Mid m):Inv m:=h.out' (l:=m.out) (by have:=h.out;omega)
theorem Mid.fails (h:Mid m) (e:Int) (he:e≠0∧e≠80):Inv (failM m e).1:=h.ended 3 0 e (by omega) ⟨fun _=>he.1,fun _=>rfl⟩ he.2 m.out (by have:=h.out;omega)
theorem Mid.readsSt (h:Mid m) {l:Wr} (hl:(l.length:Int)≤m.used):Inv { m with reads:=l } :=
 ⟨h.cells,h.fuel,h.wmax,h.len,h.may,h.args,h.loc,h.st,by rw [if_neg h.not_wait];have:=h.high;show (m.st.length:Int)+0≤64;omega,h.calls,h.deep,h.place,h.used,by have:=h.out;show (m.out.length:Int)≤m.used;omega,by rw [if_neg h.not_wait];show (l.length:Int)+0≤m.used;omega,h.buf,h.few,by have:=h.cells;show -1≤m.wait∧m.wait<m.cells;rw [h.wait];omega,by show 0≤m.how∧m.how≤3;rw [h.how];decide,h.none,by show m.how=3 ↔ m.err≠0;rw [h.how,h.err];decide,fun q=>by have q':m.err=80:=q;rw [h.err] at q';exact absurd q' (by decide),fun q=>absurd q h.idle⟩
theorem Mid.waits (h:Mid m) {c:Int} (hc:0≤c∧c<m.cells) (hl:m.st.length+1≤64):Inv { m with wait:=c } :=
 ⟨h.cells,h.fuel,h.wmax,h.len,h.may,h.args,h.loc,h.st,by rw [if_pos hc.1];show (m.st.length:Int)+1≤64;omega,h.calls,h.deep,h.place,h.used,by have:=h.out;show (m.out.length:Int)≤m.used;omega,by rw [if_pos hc.1];have:=h.reads;show (m.reads.length:Int)+1≤m.used;omega,h.buf,h.few,by show -1≤c∧c<m.cells;omega,by show 0≤m.how∧m.how≤3;rw [h.how];decide,h.none,by show m.how=3 ↔ m.err≠0;rw [h.how,h.err];decide,fun q=>by have q':m.err=80:=q;rw [h.err] at q';exact absurd q' (by decide),fun q=>absurd q h.idle⟩
theorem putC_len_le {l:Wr} {m:Int} {c:Int} (h:mayP m l c=true) (hf:(l.length:Int)≤m) (y:Nat):((putC l c y).length:Int)≤m:=by
 rw [putC_len]
 unfold mayP at h
 cases hh:hasC l c
 ·rw [hh] at h
  have:(l.length:Int)<m:=by simpa using h
  simp
  omega
 ·simpa using hf
theorem putC_all {l:Wr} {c:Int} {y:Nat} (h:∀ t∈l,okN t.2) (hy:okN y):∀ t∈putC l c y,okN t.2:=by
 intro t ht
 unfold putC at ht
 split at ht
 ·rcases List.mem_or_eq_of_mem_set ht with q | q
  ·exact h t q
  ·rw [q];exact hy
 ·rcases List.mem_append.1 ht with q | q
  ·exact h t q
  ·simp at q;rw [q];exact hy
theorem getC_ok {l:Wr} {c:Int} (h:∀ t∈l,okN t.2):okN (getC l c):=by
 unfold getC
 rw [List.getD_eq_getElem?_getD]
 cases hl:l[idx l c]? with
 | none=>exact okN_zero
 | some t=>exact h t (List.mem_of_getElem? hl)
theorem get_ok {l:List Nat} (h:∀ x∈l,okN x) (k:Nat):okN (l.getD k 0):=getD_all 0 okN_zero l h k
theorem drop_ok {l:List Nat} (h:∀ x∈l,okN x) (k:Nat):∀ x∈l.drop k,okN x:=fun x hx=>h x (List.mem_of_mem_drop hx)
theorem cons_ok {l:List Nat} {y:Nat} (hy:okN y) (h:∀ x∈l,okN x):∀ x∈y::l,okN x:=fun x hx=>by
 rcases List.mem_cons.1 hx with rfl | q
 ·exact hy
 ·exact h x q
theorem place_ok {k:Nat} {n:Int} {x many:Nat} (h:mayB ⟨k,n,x⟩ many=true) (hk:(shp k).kind=3) (hl:(shp k).lo=0):0≤n∧n≤(many:Int):=by
 unfold mayB fitsB outB at h
 simp only [Bool.and_eq_true,decide_eq_true_eq,Int.toNat_natCast,Bool.not_eq_true',Bool.and_eq_false_iff,decide_eq_false_iff_not] at h
 obtain ⟨⟨⟨_,h1⟩,h2⟩,_⟩:=h
 rw [hl] at h1
 rcases h2 with h2 | h2
 ·exact absurd hk h2
 ·omega
theorem inv_do (h:Mid m) {k:Nat} {n:Int} {x:Nat} (hi:mayB ⟨k,n,x⟩ m.code.length=true) (hx:x<18446744073709551616) (hr:roomB m ⟨k,n,x⟩=true):Inv (doM m ⟨k,n,x⟩).1:=by
 obtain ⟨hk,hlo,hhi⟩:=fits_parts hi
 obtain ⟨r1,r2,r3,r4⟩:=room_parts hr
 have hst:=h.st
 have hgh:=h.high
 have hkk:k=1∨k=2∨k=3∨k=4∨k=5∨k=6∨k=7∨k=8∨k=9∨k=10∨k=11∨k=12∨k=13∨k=14∨k=15∨k=16∨k=17∨k=18∨k=19∨k=20:=by omega
 rcases hkk with rfl | rfl | rfl | rfl | rfl | rfl | rfl | rfl | rfl | rfl | rfl | rfl | rfl | rfl | rfl | rfl | rfl | rfl | rfl | rfl
 ·have r3':(m.st.length:Int) - 0+1≤64:=r3
  exact (h.setSt (cons_ok (okN_fix hx) hst) (by simp;omega)).inv
 ·exact (h.setSt (drop_ok hst 1) (by simp;omega)).inv
 ·have r3':(m.st.length:Int) - 1+2≤64:=r3
  have r1':(1:Int)≤(m.st.length:Int):=r1 (by omega)
  exact (h.setSt (cons_ok (get_ok hst 0) hst) (by simp;omega)).inv
 ·have r3':(m.st.length:Int) - 2+2≤64:=r3
  have r1':(2:Int)≤(m.st.length:Int):=r1 (by omega)
  exact (h.setSt (cons_ok (get_ok hst 1) (cons_ok (get_ok hst 0) (drop_ok hst 2))) (by simp;omega)).inv
 ·have r3':(m.st.length:Int) - 0+1≤64:=r3
  exact (h.setSt (cons_ok (get_ok hst _) hst) (by simp;omega)).inv
 ·have r3':(m.st.length:Int) - 0+1≤64:=r3
  exact (h.setSt (cons_ok (h.args _) hst) (by simp;omega)).inv
 ·have r3':(m.st.length:Int) - 0+1≤64:=r3
  exact (h.setSt (cons_ok (h.loc _) hst) (by simp;omega)).inv
 ·exact ((h.setSt (drop_ok hst 1) (by simp;omega)).setLoc (fun j=>by show okN (if j=n.toNat then _ else _);split;exact get_ok hst 0;exact h.loc j)).inv
 ·have r3':(m.st.length:Int) - 1+1≤64:=r3
  have r1':(1:Int)≤(m.st.length:Int):=r1 (by omega)
  exact (h.setSt (cons_ok (okN_one n (get_ok hst 0)) (drop_ok hst 1)) (by simp;omega)).inv
 ·have r3':(m.st.length:Int) - 2+1≤64:=r3
  have r1':(2:Int)≤(m.st.length:Int):=r1 (by omega)
  exact (h.setSt (cons_ok (okN_two n (get_ok hst 1) (get_ok hst 0)) (drop_ok hst 2)) (by simp;omega)).inv
 ·exact (h.setPlace (place_ok hi rfl rfl)).inv
 ·have hp:=place_ok hi rfl rfl
  exact ((h.setSt (drop_ok hst 1) (by simp;omega)).setPlace (n:=if trueB (m.st.getD 0 0) then n else m.place) (by split;exact hp;exact h.place)).inv
 ·have hp:=place_ok hi rfl rfl
  exact ((h.setSt (drop_ok hst 1) (by simp;omega)).setPlace (n:=if trueB (m.st.getD 0 0) then m.place else n) (by split;exact h.place;exact hp)).inv
 ·have hc:=r4 rfl
  exact ((h.setCalls (c:=m.place::m.calls) (fun y hy=>by rcases List.mem_cons.1 hy with rfl | q;exact h.place;exact h.calls y q) (by simp;omega)).setPlace (place_ok hi rfl rfl)).inv
 ·show Inv (retM m).1
  cases hc:m.calls with
  | nil =>
   rw [retM_nil hc]
   exact h.ended 1 0 0 (by omega) (by omega) (by omega) m.out (by have:=h.out;omega)
  | cons c q =>
   rw [retM_cons hc]
   have hq:=h.calls
   have hd:=h.deep
   rw [hc] at hq hd
   simp at hd
   exact ((h.setCalls (c:=q) (fun y hy=>hq y (by simp [hy])) (by omega)).setPlace (hq c (by simp))).inv
 ·have r1':(1:Int)≤(m.st.length:Int):=r1 (by omega)
  have r3':(m.st.length:Int) - 1+1≤64:=r3
  show Inv (readM m).1
  unfold readM
  cases ha:addrB m with
  | false=>exact h.fails 50 (by omega)
  | true =>
   have hid:=idx_wf (m.st.getD 0 0) h.cells.2 ha
   cases hh:hasC m.buf (addrV m) with
   | false =>
    rw [if_pos rfl,if_neg Bool.false_ne_true]
    exact (h.setSt (drop_ok hst 1) (by simp;omega)).waits ⟨hid.1,hid.2.1⟩ (by simp;omega)
   | true =>
    rw [if_pos rfl,if_pos rfl]
    exact (h.setSt (cons_ok (getC_ok h.buf) (drop_ok hst 1)) (by simp;omega)).readsSt (l:=m.reads ++ [(addrV m,getC m.buf (addrV m))]) (by have:=h.reads;simp;omega)
 ·show Inv (writeM m).1
  unfold writeM
  cases hu:m.upd with
  | false=>exact h.fails 81 (by omega)
  | true =>
   cases ha:addrB m with
   | false=>exact h.fails 50 (by omega)
   | true =>
    cases hp:mayP m.wmax m.buf (addrV m) with
    | false=>exact h.fails 70 (by omega)
    | true =>
     have:=((h.setSt (drop_ok hst 2) (by simp;omega)).setBuf (l:=putC m.buf (addrV m) (m.st.getD 1 0)) (putC_all h.buf (get_ok hst 1)) (putC_len_le hp h.few _) (fun q=>by have q':m.upd=false:=q;rw [hu] at q';cases q')).inv
     rw [if_pos rfl,if_pos rfl,if_pos rfl]
     rw [← hu]
     exact this
 ·exact (h.setSt (drop_ok hst 1) (by simp;omega)).out' (l:=m.out ++ [m.st.getD 0 0]) (by have:=h.out;simp;omega)
 ·exact h.ended 2 n 0 (by omega) (by omega) (by omega) m.out (by have:=h.out;omega)
 ·exact h.ended 1 0 0 (by omega) (by omega) (by omega) m.out (by have:=h.out;omega)
theorem mid_beg (h:Inv m) (hw:¬ 0≤m.wait) (h0:m.how=0) (hf:m.used<m.fuel) (hp:m.place<(m.code.length:Int)):Mid (begM m):=by
 have h1:=h.high
 have h2:=h.reads
 rw [if_neg hw] at h1 h2
 have h3:=h.wait
 have h4:=h.used
 have h5:=h.place
 have h6:=h.out
 refine ⟨h.cells,h.fuel,h.wmax,h.len,h.may,h.args,h.loc,h.st,by show m.st.length≤64;omega,h.calls,h.deep,by show 0≤m.place+1∧m.place+1≤(m.code.length:Int);omega,by show 0≤m.used+1∧m.used+1≤m.fuel;omega,by show (m.out.length:Int)<m.used+1;omega,by show (m.reads.length:Int)<m.used+1;omega,h.buf,h.few,by show m.wait=-1;omega,h0,h.none,?_,fun q=>?_⟩
 ·show m.err=0
  by_cases he:m.err=0
  ·exact he
  ·exact absurd (h.fail.2 he) (by rw [h0];decide)
 ·have q':m.code=[]:=q
  rw [q'] at hp
  simp at hp
  omega
theorem inv_ended (h:Inv m) (e:Int) (he:e≠0) (hf:e=80→m.used=m.fuel):Inv (failM m e).1 :=
 ⟨h.cells,h.fuel,h.wmax,h.len,h.may,h.args,h.loc,h.st,h.high,h.calls,h.deep,h.place,h.used,h.out,h.reads,h.buf,h.few,h.wait,by show (0:Int)≤3∧(3:Int)≤3;decide,h.none,⟨fun _=>he,fun _=>rfl⟩,hf,h.idle⟩
theorem inv_step (h:Inv m):Inv (stepM m).1:=by
 unfold stepM
 by_cases hw:0≤m.wait
 ·rw [if_pos hw]
  exact h
 rw [if_neg hw]
 by_cases h0:m.how=0
 ·rw [if_pos h0]
  by_cases hf:m.used<m.fuel
  ·rw [if_pos hf]
   by_cases hp:m.place<(m.code.length:Int)
   ·rw [if_pos hp]
    have hM:=mid_beg h hw h0 hf hp
    have hk:m.place.toNat<m.code.length:=by have:=h.place;omega
    have hmay:=h.may _ hk
    cases hr:roomB (begM m) (insM m) with
    | false=>exact hM.fails 82 (by omega)
    | true =>
     rw [if_pos rfl]
     unfold insM at hr ⊢
     rcases hci:ci m.code m.place.toNat with ⟨o,n,x⟩
     rw [hci] at hmay hr
     obtain ⟨q,hq⟩:∃ q:Nat,o=q:=⟨o.toNat,by have:=hmay.1;unfold mayB knownB at this;simp at this;omega⟩
     subst hq
     exact inv_do hM hmay.1 hmay.2 hr
   ·rw [if_neg hp]
    exact inv_ended h 50 (by omega) (by omega)
  ·rw [if_neg hf]
   exact inv_ended h 80 (by omega) (fun _=>by have:=h.used;omega)
 ·rw [if_neg h0]
  exact h
theorem inv_give (h:Inv m) {x:Nat} (hx:x<18446744073709551616):Inv (giveM m x):=by
 unfold giveM
 by_cases hw:0≤m.wait
 ·rw [if_pos hw]
  have h1:=h.high
  have h2:=h.reads
  rw [if_pos hw] at h1 h2
  have h3:=h.cells
  exact ⟨h.cells,h.fuel,h.wmax,h.len,h.may,h.args,h.loc,cons_ok (okN_fix hx) h.st,by show ((fixB x::m.st).length:Int)+(if (0:Int)≤-1 then 1 else 0)≤64;rw [if_neg (by decide)];simp;omega,h.calls,h.deep,h.place,h.used,h.out,by show ((m.reads ++ [(m.wait,fixB x)]).length:Int)+(if (0:Int)≤-1 then 1 else 0)≤m.used;rw [if_neg (by decide)];simp;omega,h.buf,h.few,by show (-1:Int)≤-1∧(-1:Int)<m.cells;omega,h.how,h.none,h.fail,h.full,h.idle⟩
 ·rw [if_neg hw]
  exact h
theorem inv_new {a b f e t:Int} {c:List Ins} {l:List Nat} (hc:Md.cfgB a b f e=true) (hx:∀ k,k<c.length→(ci c k).x<18446744073709551616) (hl:∀ x∈l,x<18446744073709551616):Inv (newM a f e t c l):=by
 obtain ⟨h1,_,h3,h4⟩:=Md.cfgB_iff.1 hc
 have hcode:(if checkB t c then c else []).length≤1024∧∀ k,k<(if checkB t c then c else []).length→mayB (ci (if checkB t c then c else []) k) (if checkB t c then c else []).length=true∧(ci (if checkB t c then c else []) k).x<18446744073709551616:=by
  cases hq:checkB t c with
  | false=>exact ⟨by simp,fun k hk=>absurd hk (by simp)⟩
  | true =>
   have:=check_parts.1 hq
   rw [if_pos rfl]
   exact ⟨this.2.2.1,fun k hk=>⟨this.2.2.2 k hk,hx k hk⟩⟩
 refine ⟨h1,h3,h4,hcode.1,hcode.2,fun k=>okN_fix ?_,fun _=>okN_zero,fun x hx=>by simp [newM] at hx,by simp [newM],fun c hc=>by simp [newM] at hc,by simp [newM],by show (0:Int)≤0∧(0:Int)≤_;omega,by show (0:Int)≤0∧(0:Int)≤f;omega,by simp [newM],by simp [newM],fun t ht=>by simp [newM] at ht,by show ((([]:Wr).length:Nat):Int)≤e;simp;omega,by show (-1:Int)≤-1∧(-1:Int)<a;omega,by show (0:Int)≤0∧(0:Int)≤3;decide,fun _=>rfl,by show (0:Int)=3 ↔ (0:Int)≠0;decide,fun q=>absurd q (show ¬ (0:Int)=80 by decide),fun _=>rfl⟩
 exact getD_all (P:=fun x=>x<18446744073709551616) 0 (by decide) l hl k
end
end Go.Proofs.YtlkldgopliablaaGreatDoor
namespace Go.Proofs.YtlkldgopliablaaGreatDoor
open Go.ChangeShapes Go.WideShapes Go.ChangeAt Go.RowKit Num
attribute [local go_sem] run_store_float
end Go.Proofs.YtlkldgopliablaaGreatDoor
namespace Go.Proofs.YtlkldgopliablaaGreatDoor
open Go.ChangeShapes Go.WideShapes Go.ChangeAt Go.RowKit Num
attribute [local go_sem] run_store_float
theorem end_eq (h c e:Int) (w:World):(Op.equalIn 10000 63 (.agg #[.int .i64 h,.int .i64 c,.int .i64 e]) (.agg #[.int .i64 h,.int .i64 c,.int .i64 e])).run Tryz.prog w=.ok true w:=by
 have u3:=Tryz.underlying3
 have a3:=Tryz.isAgg3
 have z3:=Tryz.sizeOf3
 have u4:=Tryz.underlying37
 have a4:=Tryz.isAgg37
 have z4:=Tryz.sizeOf37
 have hS:Tryz.prog.underlying 63=some (.struct (Tryz.prog.fieldsOf 63)):=by kernel_rfl
 rw [show (10000:Nat)=9999+1 from rfl,run_equalIn_agg w 9999 63 _ _ hS (by kernel_rfl)]
 simp only [Program.fieldsOf,Tryz.underlying63]
 go_simp
end Go.Proofs.YtlkldgopliablaaGreatDoor
namespace Go.Proofs.YtlkldgopliablaaGreatDoor
open Go.ChangeShapes Go.WideShapes Go.ChangeAt Go.RowKit Num
end Go.Proofs.YtlkldgopliablaaGreatDoor
namespace Go.Proofs.YtlkldgopliablaaGreatDoor
open Go.ChangeShapes Go.WideShapes Go.ChangeAt Go.RowKit Num
attribute [local go_sem] run_store_float
end Go.Proofs.YtlkldgopliablaaGreatDoor
namespace Go.Proofs.YtlkldgopliablaaGreatDoor
open Go.ChangeShapes Go.WideShapes Go.ChangeAt Go.RowKit Num
attribute [local go_sem] run_store_float
end Go.Proofs.YtlkldgopliablaaGreatDoor
namespace Go.Proofs.YtlkldgopliablaaGreatDoor
open Go.ChangeShapes Go.WideShapes Go.ChangeAt Go.RowKit Num
attribute [local go_sem] run_store_float
section
variable {w:World}
theorem newW_boxes4 {w u:World} {a b c e t:Int} {ao:Option Addr} {n cap:Nat} (h:Below (newW w a b c e t ao n cap).heap.size (newW w a b c e t ao n cap) u) :
  u.cell? ⟨w.heap.size,0,none⟩=some (.int .i64 a)∧u.cell? ⟨w.heap.size,1,none⟩=some (.int .i64 b)∧u.cell? ⟨w.heap.size,2,none⟩=some (.int .i64 c)∧u.cell? ⟨w.heap.size,3,none⟩=some (.int .i64 e)∧w.heap.size<u.heap.size:=by
 have b1:u.heap[w.heap.size]?=some (cfgO a b c e):=(h.block _ (by simp;omega)).trans ((heap_alloc_old _ _ (by simp)).trans (heap_alloc_new w _))
 exact Md.cells4 b1
end
end Go.Proofs.YtlkldgopliablaaGreatDoor
namespace Go.Proofs.YtlkldgopliablaaGreatDoor
open Go.ChangeShapes Go.WideShapes Go.ChangeAt Go.RowKit Num
structure Like (m m':Mac):Prop where
 cells:m'.cells=m.cells
 fuel:m'.fuel=m.fuel
 wmax:m'.wmax=m.wmax
 upd:m'.upd=m.upd
 code:m'.code=m.code
theorem Like.refl (m:Mac):Like m m:=⟨rfl,rfl,rfl,rfl,rfl⟩
theorem Like.trans {a b c:Mac} (h:Like a b) (k:Like b c):Like a c:=⟨k.cells.trans h.cells,k.fuel.trans h.fuel,k.wmax.trans h.wmax,k.upd.trans h.upd,k.code.trans h.code⟩
def Ends (_m:Mac) (r:Mac × Ask):Prop:=r.2.kind=4∧r.1.how≠0∧¬ 0≤r.1.wait
def Waits (m:Mac) (r:Mac × Ask):Prop:=r.2.kind=1∧r.2.cell=r.1.wait∧0≤r.1.wait∧r.1.how=0∧r.1.used=m.used+1
def Goes (m:Mac) (r:Mac × Ask):Prop:=(r.2.kind=0∨r.2.kind=2∨r.2.kind=3)∧¬ 0≤r.1.wait∧r.1.how=0∧r.1.used=m.used+1
def Turns (m:Mac) (r:Mac × Ask):Prop:=Like m r.1∧(Ends m r∨Waits m r∨Goes m r)
section
variable {m:Mac}
theorem fails_turns (hw:¬ 0≤m.wait) (e:Int):Turns m (failM m e):=⟨⟨rfl,rfl,rfl,rfl,rfl⟩,.inl ⟨rfl,by show (3:Int)≠0;decide,hw⟩⟩
theorem fails_begun (hw:¬ 0≤m.wait) (e:Int):Turns m (failM (begM m) e):=⟨⟨rfl,rfl,rfl,rfl,rfl⟩,.inl ⟨rfl,by show (3:Int)≠0;decide,hw⟩⟩
theorem do_turns (hw:¬ 0≤m.wait) (h0:m.how=0) (hcl:m.cells≤256) {k:Nat} {n:Int} {x:Nat} (hk:1≤k∧k<21):Turns m (doM (begM m) ⟨k,n,x⟩):=by
 have hkk:k=1∨k=2∨k=3∨k=4∨k=5∨k=6∨k=7∨k=8∨k=9∨k=10∨k=11∨k=12∨k=13∨k=14∨k=15∨k=16∨k=17∨k=18∨k=19∨k=20:=by omega
 rcases hkk with rfl | rfl | rfl | rfl | rfl | rfl | rfl | rfl | rfl | rfl | rfl | rfl | rfl | rfl | rfl | rfl | rfl | rfl | rfl | rfl
 ·exact ⟨⟨rfl,rfl,rfl,rfl,rfl⟩,.inr (.inr ⟨.inl rfl,hw,h0,rfl⟩)⟩
 ·exact ⟨⟨rfl,rfl,rfl,rfl,rfl⟩,.inr (.inr ⟨.inl rfl,hw,h0,rfl⟩)⟩
 ·exact ⟨⟨rfl,rfl,rfl,rfl,rfl⟩,.inr (.inr ⟨.inl rfl,hw,h0,rfl⟩)⟩
 ·exact ⟨⟨rfl,rfl,rfl,rfl,rfl⟩,.inr (.inr ⟨.inl rfl,hw,h0,rfl⟩)⟩
 ·exact ⟨⟨rfl,rfl,rfl,rfl,rfl⟩,.inr (.inr ⟨.inl rfl,hw,h0,rfl⟩)⟩
 ·exact ⟨⟨rfl,rfl,rfl,rfl,rfl⟩,.inr (.inr ⟨.inl rfl,hw,h0,rfl⟩)⟩
 ·exact ⟨⟨rfl,rfl,rfl,rfl,rfl⟩,.inr (.inr ⟨.inl rfl,hw,h0,rfl⟩)⟩
 ·exact ⟨⟨rfl,rfl,rfl,rfl,rfl⟩,.inr (.inr ⟨.inl rfl,hw,h0,rfl⟩)⟩
 ·exact ⟨⟨rfl,rfl,rfl,rfl,rfl⟩,.inr (.inr ⟨.inl rfl,hw,h0,rfl⟩)⟩
 ·exact ⟨⟨rfl,rfl,rfl,rfl,rfl⟩,.inr (.inr ⟨.inl rfl,hw,h0,rfl⟩)⟩
 ·exact ⟨⟨rfl,rfl,rfl,rfl,rfl⟩,.inr (.inr ⟨.inl rfl,hw,h0,rfl⟩)⟩
 ·exact ⟨⟨rfl,rfl,rfl,rfl,rfl⟩,.inr (.inr ⟨.inl rfl,hw,h0,rfl⟩)⟩
 ·exact ⟨⟨rfl,rfl,rfl,rfl,rfl⟩,.inr (.inr ⟨.inl rfl,hw,h0,rfl⟩)⟩
 ·exact ⟨⟨rfl,rfl,rfl,rfl,rfl⟩,.inr (.inr ⟨.inl rfl,hw,h0,rfl⟩)⟩
 ·show Turns m (retM (begM m))
  cases hc:(begM m).calls with
  | nil =>
   rw [retM_nil hc]
   exact ⟨⟨rfl,rfl,rfl,rfl,rfl⟩,.inl ⟨rfl,by show (1:Int)≠0;decide,hw⟩⟩
  | cons c q =>
   rw [retM_cons hc]
   exact ⟨⟨rfl,rfl,rfl,rfl,rfl⟩,.inr (.inr ⟨.inl rfl,hw,h0,rfl⟩)⟩
 ·show Turns m (readM (begM m))
  unfold readM
  cases ha:addrB (begM m) with
  | false=>exact fails_begun hw 50
  | true =>
   have hid:=idx_wf ((begM m).st.getD 0 0) (n:=m.cells) hcl ha
   cases hh:hasC (begM m).buf (addrV (begM m)) with
   | false =>
    rw [if_pos rfl,if_neg Bool.false_ne_true]
    exact ⟨⟨rfl,rfl,rfl,rfl,rfl⟩,.inr (.inl ⟨rfl,rfl,hid.1,h0,rfl⟩)⟩
   | true =>
    rw [if_pos rfl,if_pos rfl]
    exact ⟨⟨rfl,rfl,rfl,rfl,rfl⟩,.inr (.inr ⟨.inr (.inl rfl),hw,h0,rfl⟩)⟩
 ·show Turns m (writeM (begM m))
  unfold writeM
  cases hu:(begM m).upd with
  | false=>exact fails_begun hw 81
  | true =>
   cases ha:addrB (begM m) with
   | false=>exact fails_begun hw 50
   | true =>
    cases hp:mayP (begM m).wmax (begM m).buf (addrV (begM m)) with
    | false=>exact fails_begun hw 70
    | true =>
     rw [if_pos rfl,if_pos rfl,if_pos rfl]
     exact ⟨⟨rfl,rfl,rfl,hu.symm ▸ rfl,rfl⟩,.inr (.inr ⟨.inr (.inr rfl),hw,h0,rfl⟩)⟩
 ·exact ⟨⟨rfl,rfl,rfl,rfl,rfl⟩,.inr (.inr ⟨.inl rfl,hw,h0,rfl⟩)⟩
 ·exact ⟨⟨rfl,rfl,rfl,rfl,rfl⟩,.inl ⟨rfl,by show (2:Int)≠0;decide,hw⟩⟩
 ·exact ⟨⟨rfl,rfl,rfl,rfl,rfl⟩,.inl ⟨rfl,by show (1:Int)≠0;decide,hw⟩⟩
theorem step_turns (h:Inv m) (hw:¬ 0≤m.wait) (h0:m.how=0):Turns m (stepM m):=by
 unfold stepM
 rw [if_neg hw,if_pos h0]
 by_cases hf:m.used<m.fuel
 ·rw [if_pos hf]
  by_cases hp:m.place<(m.code.length:Int)
  ·rw [if_pos hp]
   have hk:m.place.toNat<m.code.length:=by have:=h.place;omega
   have hmay:=h.may _ hk
   cases hr:roomB (begM m) (insM m) with
   | false=>exact fails_begun hw 82
   | true =>
    rw [if_pos rfl]
    unfold insM
    rcases hci:ci m.code m.place.toNat with ⟨o,n,x⟩
    rw [hci] at hmay
    obtain ⟨q,hq⟩:∃ q:Nat,o=q:=⟨o.toNat,by have:=hmay.1;unfold mayB knownB at this;simp at this;omega⟩
    subst hq
    exact do_turns hw h0 h.cells.2 (fits_parts hmay.1).1
  ·rw [if_neg hp]
   exact fails_turns hw 50
 ·rw [if_neg hf]
  exact fails_turns hw 80
theorem give_goes (hw:0≤m.wait) (x:Nat):¬ 0≤(giveM m x).wait∧(giveM m x).how=m.how∧(giveM m x).used=m.used∧Like m (giveM m x):=by
 unfold giveM
 rw [if_pos hw]
 exact ⟨by show ¬ (0:Int)≤-1;decide,rfl,rfl,⟨rfl,rfl,rfl,rfl,rfl⟩⟩
end
end Go.Proofs.YtlkldgopliablaaGreatDoor
namespace Go.Proofs.YtlkldgopliablaaGreatDoor
open Go.ChangeShapes Go.WideShapes Go.ChangeAt Go.RowKit Num
attribute [local go_sem] run_store_float frombits_run bits_run
end Go.Proofs.YtlkldgopliablaaGreatDoor
namespace Go.Proofs.YtlkldgopliablaaGreatDoor
open Go.ChangeShapes Go.WideShapes Go.ChangeAt Go.RowKit Num
attribute [local go_sem] run_store_float
section
variable {w:World}
theorem mnew_any {a b c e t:Int} {ao:Option Addr} {cs:List Ins} {n cap:Nat} {po:Option Addr} {l:List Nat} {k co:Nat} (hn:cs.length=n) (hk:l.length=k) (hT:Shaped5 w) (hC:CodeAt w ao cs) (hL:FlAt w po l) (hnl:n≤9223372036854775807) (hc:Md.cfgB a b c e=true) (hk8:k≤8):Calls Tryz.prog 129 #[cfgV a b c e,.agg #[.int .i64 t,.slice ao n cap],.slice po k co] w fun r w'=>∃ bm K,r=.returned (.pointer (some ⟨bm,0,none⟩))∧Gm w [] bm K w' (newM a c e t cs l)∧Abv w.heap.size K:=by
 cases hq:checkB t cs
 ·exact mnew_no hc hn hk hk8 hT hC hL hnl hq
 ·exact mnew_yes hc hn hk hk8 hT hC hL hnl hq
end
end Go.Proofs.YtlkldgopliablaaGreatDoor
namespace Go.Proofs.YtlkldgopliablaaGreatDoor
open Go.ChangeShapes Go.WideShapes Go.ChangeAt Go.RowKit Num
def Bufs (m:Mac) (r:Mac × Ask):Prop :=
 (r.2.kind=0∧r.1.buf=m.buf)∨(r.2.kind=4∧r.1.buf=m.buf)∨(r.2.kind=1∧r.1.buf=m.buf∧hasC m.buf r.2.cell=false∧0≤r.2.cell∧r.2.cell<m.cells) ∨
 (r.2.kind=2∧r.1.buf=m.buf∧hasC m.buf r.2.cell=true∧r.2.x=getC m.buf r.2.cell∧0≤r.2.cell∧r.2.cell<m.cells) ∨
 (r.2.kind=3∧r.1.buf=putC m.buf r.2.cell r.2.x∧r.2.first=!hasC m.buf r.2.cell∧0≤r.2.cell∧r.2.cell<m.cells)
section
variable {m:Mac}
theorem fails_bufs (e:Int):Bufs m (failM m e):=.inr (.inl ⟨rfl,rfl⟩)
theorem fails_bufs' (e:Int):Bufs m (failM (begM m) e):=.inr (.inl ⟨rfl,rfl⟩)
theorem do_bufs (hcl:m.cells≤256) {k:Nat} {n:Int} {x:Nat} (hk:1≤k∧k<21):Bufs m (doM (begM m) ⟨k,n,x⟩):=by
 have hkk:k=1∨k=2∨k=3∨k=4∨k=5∨k=6∨k=7∨k=8∨k=9∨k=10∨k=11∨k=12∨k=13∨k=14∨k=15∨k=16∨k=17∨k=18∨k=19∨k=20:=by omega
 rcases hkk with rfl | rfl | rfl | rfl | rfl | rfl | rfl | rfl | rfl | rfl | rfl | rfl | rfl | rfl | rfl | rfl | rfl | rfl | rfl | rfl
 iterate 14 exact .inl ⟨rfl,rfl⟩
 ·show Bufs m (retM (begM m))
  cases hc:(begM m).calls with
  | nil =>
   rw [retM_nil hc]
   exact .inr (.inl ⟨rfl,rfl⟩)
  | cons c q =>
   rw [retM_cons hc]
   exact .inl ⟨rfl,rfl⟩
 ·show Bufs m (readM (begM m))
  unfold readM
  cases ha:addrB (begM m) with
  | false=>exact fails_bufs' 50
  | true =>
   have hid:=idx_wf ((begM m).st.getD 0 0) (n:=m.cells) hcl ha
   cases hh:hasC (begM m).buf (addrV (begM m)) with
   | false =>
    rw [if_pos rfl,if_neg Bool.false_ne_true]
    exact .inr (.inr (.inl ⟨rfl,rfl,hh,hid.1,hid.2.1⟩))
   | true =>
    rw [if_pos rfl,if_pos rfl]
    exact .inr (.inr (.inr (.inl ⟨rfl,rfl,hh,rfl,hid.1,hid.2.1⟩)))
 ·show Bufs m (writeM (begM m))
  unfold writeM
  cases hu:(begM m).upd with
  | false=>exact fails_bufs' 81
  | true =>
   cases ha:addrB (begM m) with
   | false=>exact fails_bufs' 50
   | true =>
    have hid:=idx_wf ((begM m).st.getD 0 0) (n:=m.cells) hcl ha
    cases hp:mayP (begM m).wmax (begM m).buf (addrV (begM m)) with
    | false=>exact fails_bufs' 70
    | true =>
     rw [if_pos rfl,if_pos rfl,if_pos rfl]
     exact .inr (.inr (.inr (.inr ⟨rfl,rfl,rfl,hid.1,hid.2.1⟩)))
 ·exact .inl ⟨rfl,rfl⟩
 ·exact .inr (.inl ⟨rfl,rfl⟩)
 ·exact .inr (.inl ⟨rfl,rfl⟩)
theorem step_bufs (h:Inv m) (hw:¬ 0≤m.wait) (h0:m.how=0):Bufs m (stepM m):=by
 unfold stepM
 rw [if_neg hw,if_pos h0]
 by_cases hf:m.used<m.fuel
 ·rw [if_pos hf]
  by_cases hp:m.place<(m.code.length:Int)
  ·rw [if_pos hp]
   have hk:m.place.toNat<m.code.length:=by have:=h.place;omega
   have hmay:=h.may _ hk
   cases hr:roomB (begM m) (insM m) with
   | false=>exact fails_bufs' 82
   | true =>
    rw [if_pos rfl]
    unfold insM
    rcases hci:ci m.code m.place.toNat with ⟨o,n,x⟩
    rw [hci] at hmay
    obtain ⟨q,hq⟩:∃ q:Nat,o=q:=⟨o.toNat,by have:=hmay.1;unfold mayB knownB at this;simp at this;omega⟩
    subst hq
    exact do_bufs h.cells.2 (fits_parts hmay.1).1
  ·rw [if_neg hp]
   exact fails_bufs 50
 ·rw [if_neg hf]
  exact fails_bufs 80
theorem give_bufs (x:Nat):(giveM m x).buf=m.buf:=by
 unfold giveM
 split <;> rfl
end
end Go.Proofs.YtlkldgopliablaaGreatDoor
namespace Go.Proofs.YtlkldgopliablaaGreatDoor
open Go.ChangeShapes Go.WideShapes Go.ChangeAt Go.RowKit Num
attribute [local go_sem] run_store_float
def bls (l:List Bool):List Value:=l.map Value.bool
theorem bInfo:(Tryz.prog.info? 4).map (fun i=>(i.zero,i.size,i.bytes))=some (some (.bool false),1,1):=by kernel_rfl
theorem bMake (n:Nat) (hn:n≤65536) (w:World):(Instr.makeSlice 49 (.int .i64 (n:Int)) (.int .i64 (n:Int))).run Tryz.prog w=.ok (.slice (some ⟨w.heap.size,0,none⟩) n n) (w.alloc (.cells (bls (List.replicate n false)).toArray 4)):=by
 obtain ⟨i,hi,hz0,hz1,hz2⟩:=info_parts bInfo
 rw [run_make w 49 4 i (.bool false) Tryz.underlying49 hi hz0 .i64 .i64 n n (by omega) (Int.le_refl _) (by rw [hz2];omega) (by omega)]
 have e:(madeCells (.bool false:Value).cells (((n:Int)).toNat*i.size))=(bls (List.replicate n false)).toArray:=by
  rw [hz1,Nat.mul_one,Int.toNat_natCast]
  apply Array.toList_inj.1
  rw [show (.bool false:Value).cells=#[.bool false] from rfl,toList_madeCells_one]
  simp [bls]
 rw [e,Int.toNat_natCast]
theorem row_put {E:TypeId} {w:World} {g c:Nat} {xs:List Value} (h:RowAt E w (some ⟨g,0,none⟩) c xs) (i:Nat) (z:Value):RowAt E (w.setCell ⟨g,i,none⟩ z) (some ⟨g,0,none⟩) c (xs.set i z)∧Turn [g] [g] w (w.setCell ⟨g,i,none⟩ z):=by
 obtain ⟨hs,_⟩:=h.own.stored i z
 refine ⟨⟨?_⟩,turn_set w g i z⟩
 rw [List.length_set]
 exact hs
theorem row_get {E:TypeId} {w:World} {g c:Nat} {xs:List Value} (h:RowAt E w (some ⟨g,0,none⟩) c xs) {j:Nat} {v:Value} (hv:xs[j]?=some v):w.cell? ⟨g,j,none⟩=some v∧w.frozen? ⟨g,j,none⟩=false∧g<w.heap.size:=by
 rcases h.own.2 with ⟨q,_⟩ | ⟨g',cap,cur,hq,_,hg,_⟩
 ·cases q
 ·cases hq
  refine ⟨?_,frozen_of_row w g j _ _ hg,lt_of_block hg⟩
  have:=World.ownsRow.cells h.own (g:=g) rfl j v hv
  rwa [show (⟨g,0,none⟩:Addr).add j=⟨g,j,none⟩ by unfold Addr.add;split <;> simp_all] at this
end Go.Proofs.YtlkldgopliablaaGreatDoor
namespace Go.Proofs.YtlkldgopliablaaGreatDoor.Md
open Go.ChangeShapes Go.WideShapes Go.ChangeAt Go.RowKit
theorem loadAct_any (w:World) (pm pa pt b g k n:Nat) (x:Int) (u:Value) (h0:w.cell? ⟨pm,0,none⟩=some (.pointer (some ⟨b,0,none⟩))) (h1:w.cell? ⟨pa,0,none⟩=some (.int .i64 k)) (h2:w.cell? ⟨b,0,none⟩=some (.slice (some ⟨g,0,none⟩) n n)) (h3:w.cell? ⟨g,k,none⟩=some (.int .u64 x)) (hk:(k:Int)<(n:Int)) (h4:w.cell? ⟨pt,0,none⟩=some u) (h5:w.frozen? ⟨pt,0,none⟩=false) :
  Calls Tryz.prog 213 #[.pointer (some ⟨pm,0,none⟩),.pointer (some ⟨pa,0,none⟩),.pointer (some ⟨pt,0,none⟩)] w fun e w'=>e=.returned (.tuple #[])∧w'=(w.setCell ⟨pt,0,none⟩ (.int .u64 x)).drew:=by
 go_enter Tryz.func213,Tryz.ntmps213
 go_wp2
 go_region
 all_goals (try go_wp2)
 all_goals go_end0
 all_goals exact ⟨rfl,rfl⟩
theorem storeAct_any (w:World) (pm pa pv b g k n:Nat) (x v:Int) (h0:w.cell? ⟨pm,0,none⟩=some (.pointer (some ⟨b,0,none⟩))) (h1:w.cell? ⟨pa,0,none⟩=some (.int .i64 k)) (h2:w.cell? ⟨b,0,none⟩=some (.slice (some ⟨g,0,none⟩) n n)) (h3:w.cell? ⟨g,k,none⟩=some (.int .u64 x)) (hk:(k:Int)<(n:Int)) (h4:w.cell? ⟨pv,0,none⟩=some (.int .u64 v)) (h5:w.frozen? ⟨g,k,none⟩=false) :
  Calls Tryz.prog 276 #[.pointer (some ⟨pv,0,none⟩),.pointer (some ⟨pm,0,none⟩),.pointer (some ⟨pa,0,none⟩)] w fun e w'=>e=.returned (.tuple #[])∧w'=(w.setCell ⟨g,k,none⟩ (.int .u64 v)).drew:=by
 go_enter Tryz.func276,Tryz.ntmps276
 go_wp2
 go_region
 all_goals (try go_wp2)
 all_goals go_end0
 all_goals exact ⟨rfl,rfl⟩
theorem addAct_any (w:World) (pm pa pt pn b g k n:Nat) (x v:Int) (u:Value) (h0:w.cell? ⟨pm,0,none⟩=some (.pointer (some ⟨b,0,none⟩))) (h1:w.cell? ⟨pa,0,none⟩=some (.int .i64 k)) (h2:w.cell? ⟨b,0,none⟩=some (.slice (some ⟨g,0,none⟩) n n)) (h3:w.cell? ⟨g,k,none⟩=some (.int .u64 x)) (hk:(k:Int)<(n:Int)) (h4:w.cell? ⟨pt,0,none⟩=some u) (h5:w.frozen? ⟨pt,0,none⟩=false)
  (h6:w.cell? ⟨pn,0,none⟩=some (.int .u64 v)) (h7:w.frozen? ⟨g,k,none⟩=false) (e1:pm≠pt) (e2:pa≠pt) (e3:b≠pt) (e4:g≠pt) (e5:pn≠pt) :
  Calls Tryz.prog 204 #[.pointer (some ⟨pm,0,none⟩),.pointer (some ⟨pa,0,none⟩),.pointer (some ⟨pt,0,none⟩),.pointer (some ⟨pn,0,none⟩)] w fun e w'=>e=.returned (.tuple #[])∧w'=(((w.setCell ⟨pt,0,none⟩ (.int .u64 x)).setCell ⟨g,k,none⟩ (.int .u64 (addV x v))).drew).drew:=by
 unfold addV
 go_enter Tryz.func204,Tryz.ntmps204
 go_wp2
 go_region
 all_goals (try go_wp2)
 all_goals (try go_region)
 all_goals (try go_wp2)
 all_goals go_end0
 all_goals exact ⟨rfl,rfl⟩
end Go.Proofs.YtlkldgopliablaaGreatDoor.Md
namespace Go.Proofs.YtlkldgopliablaaGreatDoor.Md
open Go.ChangeShapes Go.WideShapes Go.ChangeAt Go.RowKit
section
variable {w:World} {b g:Nat} {ws:List Int} {o:Bool} {c:Int}
theorem access_none (h:MemAt 145 w b g ws o c) (i:Int) (hi:hasB ws i=false) (f:Fn) (first cap:Array Value):Calls Tryz.prog 203 #[.pointer (some ⟨b,0,none⟩),.int .i64 i,.func f first cap] w fun e w'=>e=.returned (.int .i64 30)∧w'=w:=by
 have HM:Hid (MemAt 145 w b g ws o c):=h
 clear h
 go_enter Tryz.func203,Tryz.ntmps203
 go_wp2_with (go_at_call 97;refine (has_any HM.out _).mono ?_;rw [hi];rintro e w' ⟨rfl,hw⟩;subst w')
 go_ret
 exact ⟨rfl,rfl⟩
theorem access_spent (h:MemAt 145 w b g ws false c) (i:Int) (hi:hasB ws i=true) (f:Fn) (first cap:Array Value):Calls Tryz.prog 203 #[.pointer (some ⟨b,0,none⟩),.int .i64 i,.func f first cap] w fun e w'=>e=.returned (.int .i64 31)∧w'=w:=by
 have HM:Hid (MemAt 145 w b g ws false c):=h
 have h1:=h.cell1
 have hb:=h.ltB
 clear h
 go_enter Tryz.func203,Tryz.ntmps203
 go_wp2_with (go_at_call 97;refine (has_any HM.out _).mono ?_;rw [hi];rintro e w' ⟨rfl,hw⟩;subst w')
 go_ret
 exact ⟨rfl,rfl⟩
theorem access_let (h:MemAt 145 w b g ws true c) (i:Int) (hi:hasB ws i=true) (f:FuncId) (cap:Array Value) (Q:World→Prop) (hcall:∀ (args:Array Value) (w:World),(callFunc f args).run Tryz.prog w=.ok (.enter f args) w)
  (hf:Calls Tryz.prog f cap ((w.setCell ⟨b,1,none⟩ (.bool false)).setCell ⟨b,2,none⟩ (.int .i64 (up c))) fun e w'=>e=.returned (.tuple #[])∧Q w'):Calls Tryz.prog 203 #[.pointer (some ⟨b,0,none⟩),.int .i64 i,.func (.func f) #[] cap] w fun e w'=>e=.returned (.int .i64 0)∧Q w':=by
 have HM:Hid (MemAt 145 w b g ws true c):=h
 have h1:=h.cell1
 have h2:=h.cell2
 have hb:=h.ltB
 have hf1:=h.freeB 1
 have hf2:=h.freeB 2
 have HF:=Lib.hid hf
 clear h hf
 unfold up at HF
 go_enter Tryz.func203,Tryz.ntmps203
 go_wp2_with (first | (go_at_call 97;refine (has_any HM.out _).mono ?_;rw [hi];rintro e w' ⟨rfl,hw⟩;subst w') | (refine HF.out.mono ?_;rintro e w' ⟨rfl,hq⟩))
 go_ret
 exact ⟨rfl,hq⟩
end
end Go.Proofs.YtlkldgopliablaaGreatDoor.Md
namespace Go.Proofs.YtlkldgopliablaaGreatDoor.Md
open Go.ChangeShapes Go.WideShapes Go.ChangeAt Go.RowKit
theorem enter_run {f : FuncId} {fn : Func} (hf : Tryz.prog.funcs[f]? = some fn) (hname : (fn.name == "runtime.NumGoroutine") = false) (hb : fn.body.isSome = true) (args : Array Value) (w : World) : (callFunc f args).run Tryz.prog w = .ok (.enter f args) w := by
 obtain ⟨c,hb⟩:=Option.isSome_iff_exists.1 hb
 have h1 : fn.name ≠ "runtime.NumGoroutine" := by simpa using hname
 simp [callFunc,hf,h1,hb,mark]
section
variable {w:World} {b g:Nat} {ws:List Int} {o:Bool} {c:Int}
def poked (ws:List Int) (i v:Int):List Int:=if hasB ws i then ws.set i.toNat v else ws
def stored (ws:List Int) (o:Bool) (i v:Int):List Int:=if hasB ws i && o then ws.set i.toNat v else ws
def spentO (ws:List Int) (o:Bool) (i:Int):Bool:=if hasB ws i then false else o
def spentC (ws:List Int) (o:Bool) (i c:Int):Int:=if hasB ws i && o then up c else c
def toldW (ws:List Int) (o:Bool) (i:Int):Int:=if hasB ws i && o then wordAt ws i else 0
theorem poke_any (h:MemAt 145 w b g ws o c) (i v:Int):Calls Tryz.prog 105 #[.pointer (some ⟨b,0,none⟩),.int .i64 i,.int .u64 v] w fun e w'=>e=.returned (.int .i64 (errP ws i))∧MemAt 145 w' b g (poked ws i v) o c∧Chg b g w w':=by
 have h0:=h.cell0
 have hb:=h.ltB
 have hg:=h.ltG
 have HM:Hid (MemAt 145 w b g ws o c):=h
 unfold errP poked
 cases hh:hasB ws i
 ·clear h
  go_enter Tryz.func105,Tryz.ntmps105
  go_wp2_with (go_at_call 97;refine (has_any HM.out _).mono ?_;rw [hh];rintro e w' ⟨rfl,hw⟩;subst w')
  go_ret
  exact ⟨rfl,HM.out,Chg.refl _ _ _⟩
 ·obtain ⟨k,rfl,hk⟩:=hasB_pos hh
  have hx:=h.word hk
  have hf:=h.freeG k
  have hk2:(k:Int)<(ws.length:Int):=by omega
  clear h
  go_enter Tryz.func105,Tryz.ntmps105
  go_wp2_with (go_at_call 97;refine (has_any HM.out _).mono ?_;rw [hh];rintro e w' ⟨rfl,hw⟩;subst w')
  try go_region
  all_goals (try go_wp2)
  all_goals go_ret
  all_goals exact ⟨rfl,HM.out.setW k v,(Chg.refl _ _ _).setG _ _⟩
theorem loadAct_at (h:MemAt 145 w b g ws true c) {k:Nat} (hk:k<ws.length) :
  Calls Tryz.prog 213 #[.pointer (some ⟨w.heap.size,0,none⟩),.pointer (some ⟨w.heap.size+1,0,none⟩),.pointer (some ⟨w.heap.size+1+1,0,none⟩)] (((((w.alloc (.cells #[.pointer (some ⟨b,0,none⟩)] 86)).alloc (.cells #[.int .i64 k] 3)).alloc (.cells #[.int .u64 0] 69)).setCell ⟨b,1,none⟩ (.bool false)).setCell ⟨b,2,none⟩ (.int .i64 (up c))) fun e w'=>e=.returned (.tuple #[]) ∧
   (w'.cell? ⟨w.heap.size+1+1,0,none⟩=some (.int .u64 (wordAt ws k))∧MemAt 145 w' b g ws false (up c)∧Chg b g w w'):=by
 have hb:=h.ltB
 have hg:=h.ltG
 have hv:wordAt ws k=ws[k]:=by simp [wordAt,hk]
 have HM0:=(((((h.alloc (.cells #[.pointer (some ⟨b,0,none⟩)] 86)).alloc (.cells #[.int .i64 k] 3)).alloc (.cells #[.int .u64 0] 69)).setO false).setC (up c))
 have HM:=(HM0.other (n:=w.heap.size+1+1) (by omega) (by omega) 0 (.int .u64 ws[k])).drew
 have HC:=((((((Chg.refl b g w).alloc (.cells #[.pointer (some ⟨b,0,none⟩)] 86)).alloc (.cells #[.int .i64 k] 3)).alloc (.cells #[.int .u64 0] 69)).setB 1 (.bool false)).setB 2 (.int .i64 (up c))).setN (n:=w.heap.size+1+1) (by omega) 0 (.int .u64 ws[k]) |>.drew
 rw [hv]
 refine (loadAct_any _ w.heap.size (w.heap.size+1) (w.heap.size+1+1) b g k ws.length ws[k] (.int .u64 0) ?_ ?_ HM0.cell0 (HM0.word hk) (by omega) ?_ ?_).mono ?_
 ·simp [go_sem]
 ·simp [go_sem]
 ·simp [go_sem]
 ·simp [go_sem]
 ·rintro e w' ⟨he,rfl⟩
  refine ⟨he,?_,HM,HC⟩
  simp [go_sem]
theorem storeAct_at (h:MemAt 145 w b g ws true c) (v:Int) {k:Nat} (hk:k<ws.length) :
  Calls Tryz.prog 276 #[.pointer (some ⟨w.heap.size+1+1,0,none⟩),.pointer (some ⟨w.heap.size,0,none⟩),.pointer (some ⟨w.heap.size+1,0,none⟩)] (((((w.alloc (.cells #[.pointer (some ⟨b,0,none⟩)] 86)).alloc (.cells #[.int .i64 k] 3)).alloc (.cells #[.int .u64 v] 69)).setCell ⟨b,1,none⟩ (.bool false)).setCell ⟨b,2,none⟩ (.int .i64 (up c))) fun e w'=>e=.returned (.tuple #[]) ∧
   (MemAt 145 w' b g (ws.set k v) false (up c)∧Chg b g w w'):=by
 have hb:=h.ltB
 have hg:=h.ltG
 have HM0:=(((((h.alloc (.cells #[.pointer (some ⟨b,0,none⟩)] 86)).alloc (.cells #[.int .i64 k] 3)).alloc (.cells #[.int .u64 v] 69)).setO false).setC (up c))
 have HC:=((((((Chg.refl b g w).alloc (.cells #[.pointer (some ⟨b,0,none⟩)] 86)).alloc (.cells #[.int .i64 k] 3)).alloc (.cells #[.int .u64 v] 69)).setB 1 (.bool false)).setB 2 (.int .i64 (up c))).setG k (.int .u64 v) |>.drew
 refine (storeAct_any _ w.heap.size (w.heap.size+1) (w.heap.size+1+1) b g k ws.length ws[k] v ?_ ?_ HM0.cell0 (HM0.word hk) (by omega) ?_ (HM0.freeG k)).mono ?_
 ·simp [go_sem]
 ·simp [go_sem]
 ·simp [go_sem]
 ·rintro e w' ⟨he,rfl⟩
  exact ⟨he,(HM0.setW k v).drew,HC⟩
theorem addAct_at (h:MemAt 145 w b g ws true c) (v:Int) {k:Nat} (hk:k<ws.length) :
  Calls Tryz.prog 204 #[.pointer (some ⟨w.heap.size,0,none⟩),.pointer (some ⟨w.heap.size+1,0,none⟩),.pointer (some ⟨w.heap.size+1+1+1,0,none⟩),.pointer (some ⟨w.heap.size+1+1,0,none⟩)] ((((((w.alloc (.cells #[.pointer (some ⟨b,0,none⟩)] 86)).alloc (.cells #[.int .i64 k] 3)).alloc (.cells #[.int .u64 v] 69)).alloc (.cells #[.int .u64 0] 69)).setCell ⟨b,1,none⟩ (.bool false)).setCell ⟨b,2,none⟩ (.int .i64 (up c))) fun e w'=>e=.returned (.tuple #[]) ∧
   (w'.cell? ⟨w.heap.size+1+1+1,0,none⟩=some (.int .u64 (wordAt ws k))∧MemAt 145 w' b g (ws.set k (addV (wordAt ws k) v)) false (up c)∧Chg b g w w'):=by
 have hb:=h.ltB
 have hg:=h.ltG
 have hv:wordAt ws k=ws[k]:=by simp [wordAt,hk]
 have HM0:=((((((h.alloc (.cells #[.pointer (some ⟨b,0,none⟩)] 86)).alloc (.cells #[.int .i64 k] 3)).alloc (.cells #[.int .u64 v] 69)).alloc (.cells #[.int .u64 0] 69)).setO false).setC (up c))
 have HM:=((HM0.other (n:=w.heap.size+1+1+1) (by omega) (by omega) 0 (.int .u64 ws[k])).setW k (addV ws[k] v)).drew.drew
 have HC:=(((((((Chg.refl b g w).alloc (.cells #[.pointer (some ⟨b,0,none⟩)] 86)).alloc (.cells #[.int .i64 k] 3)).alloc (.cells #[.int .u64 v] 69)).alloc (.cells #[.int .u64 0] 69)).setB 1 (.bool false)).setB 2 (.int .i64 (up c))).setN (n:=w.heap.size+1+1+1) (by omega) 0 (.int .u64 ws[k]) |>.setG k (.int .u64 (addV ws[k] v)) |>.drew.drew
 rw [hv]
 refine (addAct_any _ w.heap.size (w.heap.size+1) (w.heap.size+1+1+1) (w.heap.size+1+1) b g k ws.length ws[k] v (.int .u64 0) ?_ ?_ HM0.cell0 (HM0.word hk) (by omega) ?_ ?_ ?_ (HM0.freeG k) (by omega) (by omega) (by omega) (by omega) (by omega)).mono ?_
 ·simp [go_sem]
 ·simp [go_sem]
 ·simp [go_sem]
 ·simp [go_sem]
 ·simp [go_sem]
 ·rintro e w' ⟨he,rfl⟩
  refine ⟨he,?_,HM,HC⟩
  rw [World.cell?_drew,World.cell?_drew,World.cell?_setCell_other (h:=fun e=>by have:=congrArg Addr.block e;simp at this;omega)]
  simp [go_sem]
theorem load_any (h:MemAt 145 w b g ws o c) (i:Int):Calls Tryz.prog 207 #[.pointer (some ⟨b,0,none⟩),.int .i64 i] w fun e w'=>e=.returned (.tuple #[.int .u64 (toldW ws o i),.int .i64 (errA ws o i)])∧MemAt 145 w' b g ws (spentO ws o i) (spentC ws o i c)∧Chg b g w w':=by
 have HM:Hid (MemAt 145 w b g ws o c):=h
 clear h
 unfold errA spentO spentC toldW
 cases hh:hasB ws i
 ·go_enter Tryz.func207,Tryz.ntmps207
  go_wp2_with (go_at_call 203;refine (access_none (((HM.out.alloc _).alloc _).alloc _) _ hh _ _ _).mono ?_;rintro e w' ⟨rfl,hw⟩;subst w')
  go_ret2
  exact ⟨rfl,((HM.out.alloc _).alloc _).alloc _,(((Chg.refl _ _ _).alloc _).alloc _).alloc _⟩
 ·obtain ⟨k,rfl,hk⟩:=hasB_pos hh
  cases o
  ·go_enter Tryz.func207,Tryz.ntmps207
   go_wp2_with (go_at_call 203;refine (access_spent (((HM.out.alloc _).alloc _).alloc _) _ hh _ _ _).mono ?_;rintro e w' ⟨rfl,hw⟩;subst w')
   go_ret2
   exact ⟨rfl,((HM.out.alloc _).alloc _).alloc _,(((Chg.refl _ _ _).alloc _).alloc _).alloc _⟩
  ·have HA:=Lib.hid (loadAct_at HM.out hk)
   go_enter Tryz.func207,Tryz.ntmps207
   go_wp2_with (go_at_call 203;refine (access_let (((HM.out.alloc _).alloc _).alloc _) _ hh _ _ _ (enter_run Tryz.func213 (by kernel_rfl) (by kernel_rfl)) HA.out).mono ?_;rintro e w' ⟨rfl,hc,hm,hz⟩;replace hm:=Lib.hid hm)
   go_ret2
   exact ⟨rfl,hm.out,hz⟩
theorem store_any (h:MemAt 145 w b g ws o c) (i v:Int):Calls Tryz.prog 262 #[.pointer (some ⟨b,0,none⟩),.int .i64 i,.int .u64 v] w fun e w'=>e=.returned (.int .i64 (errA ws o i))∧MemAt 145 w' b g (stored ws o i v) (spentO ws o i) (spentC ws o i c)∧Chg b g w w':=by
 have HM:Hid (MemAt 145 w b g ws o c):=h
 clear h
 unfold errA spentO spentC stored
 cases hh:hasB ws i
 ·go_enter Tryz.func262,Tryz.ntmps262
  go_wp2_with (go_at_call 203;refine (access_none (((HM.out.alloc _).alloc _).alloc _) _ hh _ _ _).mono ?_;rintro e w' ⟨rfl,hw⟩;subst w')
  go_ret
  exact ⟨rfl,((HM.out.alloc _).alloc _).alloc _,(((Chg.refl _ _ _).alloc _).alloc _).alloc _⟩
 ·obtain ⟨k,rfl,hk⟩:=hasB_pos hh
  cases o
  ·go_enter Tryz.func262,Tryz.ntmps262
   go_wp2_with (go_at_call 203;refine (access_spent (((HM.out.alloc _).alloc _).alloc _) _ hh _ _ _).mono ?_;rintro e w' ⟨rfl,hw⟩;subst w')
   go_ret
   exact ⟨rfl,((HM.out.alloc _).alloc _).alloc _,(((Chg.refl _ _ _).alloc _).alloc _).alloc _⟩
  ·have HA:=Lib.hid (storeAct_at HM.out v hk)
   go_enter Tryz.func262,Tryz.ntmps262
   go_wp2_with (go_at_call 203;refine (access_let (((HM.out.alloc _).alloc _).alloc _) _ hh _ _ _ (enter_run Tryz.func276 (by kernel_rfl) (by kernel_rfl)) HA.out).mono ?_;rintro e w' ⟨rfl,hm,hz⟩;replace hm:=Lib.hid hm)
   go_ret
   exact ⟨rfl,hm.out,hz⟩
theorem add_any (h:MemAt 145 w b g ws o c) (i v:Int):Calls Tryz.prog 187 #[.pointer (some ⟨b,0,none⟩),.int .i64 i,.int .u64 v] w fun e w'=>e=.returned (.tuple #[.int .u64 (toldW ws o i),.int .i64 (errA ws o i)])∧MemAt 145 w' b g (stored ws o i (addV (wordAt ws i) v)) (spentO ws o i) (spentC ws o i c)∧Chg b g w w':=by
 have HM:Hid (MemAt 145 w b g ws o c):=h
 clear h
 unfold errA spentO spentC toldW stored
 cases hh:hasB ws i
 ·go_enter Tryz.func187,Tryz.ntmps187
  go_wp2_with (go_at_call 203;refine (access_none ((((HM.out.alloc _).alloc _).alloc _).alloc _) _ hh _ _ _).mono ?_;rintro e w' ⟨rfl,hw⟩;subst w')
  go_ret2
  exact ⟨rfl,(((HM.out.alloc _).alloc _).alloc _).alloc _,((((Chg.refl _ _ _).alloc _).alloc _).alloc _).alloc _⟩
 ·obtain ⟨k,rfl,hk⟩:=hasB_pos hh
  cases o
  ·go_enter Tryz.func187,Tryz.ntmps187
   go_wp2_with (go_at_call 203;refine (access_spent ((((HM.out.alloc _).alloc _).alloc _).alloc _) _ hh _ _ _).mono ?_;rintro e w' ⟨rfl,hw⟩;subst w')
   go_ret2
   exact ⟨rfl,(((HM.out.alloc _).alloc _).alloc _).alloc _,((((Chg.refl _ _ _).alloc _).alloc _).alloc _).alloc _⟩
  ·have HA:=Lib.hid (addAct_at HM.out v hk)
   go_enter Tryz.func187,Tryz.ntmps187
   go_wp2_with (go_at_call 203;refine (access_let ((((HM.out.alloc _).alloc _).alloc _).alloc _) _ hh _ _ _ (enter_run Tryz.func204 (by kernel_rfl) (by kernel_rfl)) HA.out).mono ?_;rintro e w' ⟨rfl,hc,hm,hz⟩;replace hm:=Lib.hid hm)
   go_ret2
   exact ⟨rfl,hm.out,hz⟩
end
end Go.Proofs.YtlkldgopliablaaGreatDoor.Md
namespace Go.Proofs.YtlkldgopliablaaGreatDoor.Md
open Go.ChangeShapes Go.WideShapes Go.ChangeAt Go.RowKit
theorem wordInfo:(Tryz.prog.info? 69).map (fun i=>(i.zero,i.size,i.bytes))=some (some (.int .u64 0),1,8):=by kernel_rfl
def RowAt (w:World) (g:Nat) (ws:List Int):Prop:=w.heap[g]?=some (.cells (u64s ws).toArray 69 (0,0))
theorem RowAt.lt {w:World} {g:Nat} {ws:List Int} (h:RowAt w g ws):g<w.heap.size:=lt_of_block h
theorem RowAt.word {w:World} {g:Nat} {ws:List Int} (h:RowAt w g ws) {i:Nat} (hi:i<ws.length):w.cell? ⟨g,i,none⟩=some (.int .u64 ws[i]):=by
 rw [cell_of_row w g i _ _ _ h]
 simp [u64s,hi]
theorem u64s_len (ws:List Int):(u64s ws).length=ws.length:=by unfold u64s;rw [List.length_map]
theorem make_words (n:Nat) (hn:n≤4096) (w:World):(Instr.makeSlice 66 (.int .i64 (n:Int)) (.int .i64 (n:Int))).run Tryz.prog w=.ok (.slice (some ⟨w.heap.size,0,none⟩) n n) (w.alloc (.cells (u64s (List.replicate n 0)).toArray 69)):=by
 obtain ⟨i,hi,hz0,hz1,hz2⟩:=info_parts wordInfo
 rw [run_make w 66 69 i (.int .u64 0) Tryz.underlying66 hi hz0 .i64 .i64 n n (by omega) (Int.le_refl _) (by rw [hz2];omega) (by omega)]
 have e:(madeCells (Value.int .u64 0).cells (((n:Int)).toNat*i.size))=(u64s (List.replicate n 0)).toArray:=by
  rw [hz1,Nat.mul_one,Int.toNat_natCast]
  apply Array.toList_inj.1
  rw [show (Value.int .u64 0).cells=#[.int .u64 0] from rfl,toList_madeCells_one]
  simp [u64s]
 rw [e,Int.toNat_natCast]
theorem copy_words (w:World) (g:Nat) (ws:List Int) (h:RowAt w g ws) (ty:TypeId):(Builtin.copy_ #[66,66] ty #[.slice (some ⟨w.heap.size,0,none⟩) ws.length ws.length,.slice (some ⟨g,0,none⟩) ws.length ws.length]).run Tryz.prog (w.alloc (.cells (u64s (List.replicate ws.length 0)).toArray 69)) =
  .ok (goInt ws.length) ((w.alloc (.cells (u64s (List.replicate ws.length 0)).toArray 69)).setRow w.heap.size (u64s ws).toArray):=by
 have hr:=run_copy_row (P:=Tryz.prog) (w.alloc (.cells (u64s (List.replicate ws.length 0)).toArray 69)) 66 66 ty 69 w.heap.size 0 ws.length ws.length ⟨g,0,none⟩ ws.length ws.length (u64s (List.replicate ws.length 0)).toArray 69 (u64s ws) Tryz.underlying66 (by kernel_rfl) (heap_alloc_new _ _) (by rw [u64s_len];exact (Nat.min_self _).symm) (fun j v hj=>by
   have hj':j<ws.length:=by
    have:=(List.getElem?_eq_some_iff.1 hj).1
    rwa [u64s_len] at this
   have e:(⟨g,0,none⟩:Addr).add j=⟨g,j,none⟩:=by unfold Addr.add;split <;> simp_all
   rw [e,World.cell?_alloc_past _ _ _ h.lt,h.word hj']
   rw [← hj]
   simp [u64s,hj']) (by simp [u64s_len]) (fun v hv=>by
   unfold u64s at hv
   obtain ⟨x,_,rfl⟩:=List.mem_map.1 hv
   rfl)
 rw [hr]
 have e:(List.take 0 (u64s (List.replicate ws.length 0)).toArray.toList ++ u64s ws ++ List.drop (0+(u64s ws).length) (u64s (List.replicate ws.length 0)).toArray.toList)=u64s ws:=by
  rw [List.drop_of_length_le (by simp [u64s_len])]
  simp
 rw [e,u64s_len]
section
variable {w:World} {b g:Nat} {ws:List Int} {o:Bool} {c:Int}
theorem all_any (h:MemAt 145 w b g ws o c):Calls Tryz.prog 59 #[.pointer (some ⟨b,0,none⟩)] w fun e w'=>e=.returned (.slice (some ⟨w.heap.size,0,none⟩) ws.length ws.length)∧RowAt w' w.heap.size ws∧Below w.heap.size w w':=by
 have h0:=h.cell0
 have hb:=h.ltB
 have hmk:=make_words ws.length h.many
 have hcp:=copy_words w g ws h.row
 have HF:Hid (RowAt ((w.alloc (.cells (u64s (List.replicate ws.length 0)).toArray 69)).setRow w.heap.size (u64s ws).toArray) w.heap.size ws):=setRow_heap _ _ _ _ _ _ (heap_alloc_new _ _)
 have HB:Hid (Below w.heap.size w ((w.alloc (.cells (u64s (List.replicate ws.length 0)).toArray 69)).setRow w.heap.size (u64s ws).toArray)) :=
  ((Below.refl _ _).alloc (Nat.le_refl _) _).trans ⟨rfl,rfl,rfl,by simp,fun k hk=>setRow_other _ _ _ _ (Nat.ne_of_lt hk)⟩
 clear h
 go_enter Tryz.func59,Tryz.ntmps59
 go_wp2
 go_ret
 exact ⟨rfl,HF.out,HB.out⟩
end
theorem new_some (n:Nat) (h1:1≤n) (h2:n≤4096) (w:World):Calls Tryz.prog 65 #[.int .i64 n] w fun e w'=>e=.returned (.tuple #[.pointer (some ⟨w.heap.size+1,0,none⟩),.int .i64 0])∧MemAt 145 w' (w.heap.size+1) w.heap.size (List.replicate n 0) false 0∧Below w.heap.size w w':=by
 have hh:(decide (1≤(n:Int)) && decide ((n:Int)≤4096))=true:=by simp;omega
 have hmk:=make_words n h2
 have HN:=Lib.hid (And.intro h1 h2)
 clear h1 h2
 go_enter Tryz.func65,Tryz.ntmps65
 go_wp2_with (go_at_call 104;refine (within_any _ _ _).mono ?_;rw [hh];rintro e w' ⟨rfl,hw⟩;subst w')
 go_ret2
 refine ⟨rfl,⟨?_,?_,by omega,by rw [List.length_replicate];exact HN.out.1,by rw [List.length_replicate];exact HN.out.2⟩,((Below.refl _ _).alloc (Nat.le_refl _) _).alloc (by simp) _⟩
 ·rw [List.length_replicate]
  have:=heap_alloc_new (w.alloc (.cells (u64s (List.replicate n 0)).toArray 69)) (.cells #[.slice (some ⟨w.heap.size,0,none⟩) n n,.bool false,.int .i64 0] 145)
  simpa using this
 ·rw [Below.heap_alloc _ _ _ (by simp)]
  exact heap_alloc_new _ _
end Go.Proofs.YtlkldgopliablaaGreatDoor.Md
namespace Go.Proofs.YtlkldgopliablaaGreatDoor.Md
open Go.ChangeShapes Go.WideShapes Go.ChangeAt Go.RowKit
end Go.Proofs.YtlkldgopliablaaGreatDoor.Md
namespace Go.Proofs.YtlkldgopliablaaGreatDoor.Md
open Go.ChangeShapes Go.WideShapes Go.ChangeAt Go.RowKit
end Go.Proofs.YtlkldgopliablaaGreatDoor.Md
namespace Go.Proofs.YtlkldgopliablaaGreatDoor.Md.Ce
open Go.ChangeShapes Go.WideShapes Go.ChangeAt Go.RowKit Num
attribute [local go_sem] frombits_run bits_run
theorem run_store_float (a:Addr) (m:Mode) (k:FloatKind) (b:Nat) (w:World):(store a (.float k b) m).run Tryz.prog w=_root_.Go.stored Tryz.prog w a (.float k b) m:=run_store Tryz.prog w a _ m rfl
theorem run_store_func (a:Addr) (m:Mode) (f:Fn) (x y:Array Value) (w:World):(store a (.func f x y) m).run Tryz.prog w=_root_.Go.stored Tryz.prog w a (.func f x y) m:=run_store Tryz.prog w a _ m rfl
theorem run_store_nilFunc (a:Addr) (m:Mode) (w:World):(store a .nilFunc m).run Tryz.prog w=_root_.Go.stored Tryz.prog w a .nilFunc m:=run_store Tryz.prog w a _ m rfl
theorem of_int (n:Int) (w:World):Calls Tryz.prog 100 #[.int .u64 n] w fun e w'=>e=.returned (.float .f64 (fixB n.toNat))∧w'=w:=by
 go_enter Tryz.func100,Tryz.ntmps100
 go_wp2_with (first | (go_at_call 128;refine (fix_any _ _).mono ?_;rintro e w' ⟨rfl,rfl⟩) | go_in)
 go_ret
 exact ⟨rfl,rfl⟩
structure Ch (L:List Nat) (w w':World):Prop where
 os:w'.os=w.os
 tape:w'.tape=w.tape
 output:w'.output=w.output
 size:w.heap.size≤w'.heap.size
 block:∀ k,k<w.heap.size→k∉L→w'.heap[k]?=w.heap[k]?
theorem Ch.refl (L:List Nat) (w:World):Ch L w w:=⟨rfl,rfl,rfl,Nat.le_refl _,fun _ _ _=>rfl⟩
theorem Ch.trans {L:List Nat} {a w c:World} (h:Ch L a w) (k:Ch L w c):Ch L a c :=
 ⟨k.os.trans h.os,k.tape.trans h.tape,k.output.trans h.output,Nat.le_trans h.size k.size,fun i hi h1=>(k.block i (Nat.lt_of_lt_of_le hi h.size) h1).trans (h.block i hi h1)⟩
theorem Ch.mono {L M:List Nat} {a w:World} (h:Ch L a w) (s:∀ k,k∈L→k∈M):Ch M a w:=⟨h.os,h.tape,h.output,h.size,fun k hk hn=>h.block k hk (fun q=>hn (s k q))⟩
theorem Ch.alloc {L:List Nat} {a w:World} (h:Ch L a w) (o:Obj):Ch L a (w.alloc o):=h.trans ⟨rfl,rfl,rfl,by simp,fun k hk _=>Below.heap_alloc _ _ _ hk⟩
theorem Ch.set {L:List Nat} {a w:World} (h:Ch L a w) {b:Nat} (hb:b∈L) (j:Nat) (u:Value):Ch L a (w.setCell ⟨b,j,none⟩ u) :=
 h.trans ⟨rfl,rfl,rfl,by simp,fun k _ h1=>heap_setCell_other _ _ _ _ (fun (e:k=b)=>h1 (e ▸ hb))⟩
theorem _root_.Go.Proofs.YtlkldgopliablaaGreatDoor.Chg.ch {b g:Nat} {L:List Nat} {w w':World} (h:Chg b g w w') (hb:b∈L) (hg:g∈L):Ch L w w' :=
 ⟨h.os,h.tape,h.output,h.size,fun k hk hn=>h.block k hk (fun e=>hn (e ▸ hb)) (fun e=>hn (e ▸ hg))⟩
theorem ch_of {w w':World} (h:Below w.heap.size w w') (L:List Nat):Ch L w w':=⟨h.os,h.tape,h.output,h.size,fun k hk _=>h.block k hk⟩
theorem _root_.Go.Proofs.YtlkldgopliablaaGreatDoor.MemAt.ch {T:TypeId} {w w':World} {b g:Nat} {ws:List Int} {o:Bool} {c:Int} {L:List Nat} (h:MemAt T w b g ws o c) (k:Ch L w w') (h1:b∉L) (h2:g∉L):MemAt T w' b g ws o c :=
 h.keep (k.block b h.ltB h1) (k.block g h.ltG h2)
def mayC (c:Int):Bool:=decide (0≤c∧c<256)
def placeI (p c j:Int):Int:=if 0≤p∧p≤4096 then p+3*c+j else -1
def errC (ws:List Int) (o:Bool) (p c j:Int):Int:=if mayC c then errA ws o (placeI p c j) else 60
def wordC (ws:List Int) (p c j:Int):Int:=wordAt ws (placeI p c j)
theorem mayC_pos {c:Int} (h:mayC c=true):0≤c∧c<256:=of_decide_eq_true h
theorem smay_any (p c:Int) (w:World):Calls Tryz.prog 98 #[.agg #[.int .i64 p,.int .i64 c]] w fun e w'=>e=.returned (.bool (mayC c))∧Below w.heap.size w w':=by
 unfold mayC
 by_cases h1:0≤c
 ·by_cases h2:c<256
  ·have h1':¬ c<0:=by omega
   go_enter Tryz.func98,Tryz.ntmps98
   go_wp2
   go_ret
   exact ⟨by first | (simp;done) | (simp;omega),(Below.refl _ _).alloc (Nat.le_refl _) _⟩
  ·go_enter Tryz.func98,Tryz.ntmps98
   go_wp2
   go_ret
   exact ⟨by first | (simp;done) | (simp;omega),(Below.refl _ _).alloc (Nat.le_refl _) _⟩
 ·go_enter Tryz.func98,Tryz.ntmps98
  go_wp2
  go_ret
  exact ⟨by first | (simp;done) | (simp;omega),(Below.refl _ _).alloc (Nat.le_refl _) _⟩
theorem splace_any (p c j:Int) (hc:mayC c=true) (hj:0≤j∧j<3) (w:World):Calls Tryz.prog 99 #[.agg #[.int .i64 p,.int .i64 c],.int .i64 j] w fun e w'=>e=.returned (.int .i64 (placeI p c j))∧Below w.heap.size w w':=by
 obtain ⟨hc0,hc1⟩:=mayC_pos hc
 obtain ⟨hj0,hj1⟩:=hj
 clear hc
 by_cases h1:0≤p
 ·by_cases h2:p≤4096
  ·have e:placeI p c j=p+3*c+j:=by simp [placeI,h1,h2]
   have e1:wrap64 (3*c)=3*c:=Go.IntWalk.wrap64_in _ ⟨by omega,by omega⟩
   have e2:wrap64 (p+3*c)=p+3*c:=Go.IntWalk.wrap64_in _ ⟨by omega,by omega⟩
   have e3:wrap64 (p+3*c+j)=p+3*c+j:=Go.IntWalk.wrap64_in _ ⟨by omega,by omega⟩
   have h1':¬ p<0:=by omega
   have h2':¬ 4096<p:=by omega
   rw [e]
   clear e hc0 hc1 hj0 hj1
   go_enter Tryz.func99,Tryz.ntmps99
   go_wp2
   go_ret
   exact ⟨rfl,(Below.refl _ _).alloc (Nat.le_refl _) _⟩
  ·have e:placeI p c j=-1:=by simp [placeI,h2]
   rw [e]
   clear e hc0 hc1 hj0 hj1
   have h1':¬ p<0:=by omega
   have h2':4096<p:=by omega
   go_enter Tryz.func99,Tryz.ntmps99
   go_wp2
   go_ret
   exact ⟨rfl,(Below.refl _ _).alloc (Nat.le_refl _) _⟩
 ·have e:placeI p c j=-1:=by simp [placeI,h1]
  rw [e]
  clear e hc0 hc1 hj0 hj1
  have h1':p<0:=by omega
  go_enter Tryz.func99,Tryz.ntmps99
  go_wp2
  go_ret
  exact ⟨rfl,(Below.refl _ _).alloc (Nat.le_refl _) _⟩
theorem _root_.Go.Proofs.YtlkldgopliablaaGreatDoor.MemAt.hop {T:TypeId} {w w':World} {b g:Nat} {ws:List Int} {o:Bool} {c:Int} (h:MemAt T w b g ws o c) (k:Below w.heap.size w w'):MemAt T w' b g ws o c:=h.on k
theorem below_step {a w w':World} (h:Below a.heap.size a w) (k:Below w.heap.size w w'):Below a.heap.size a w':=h.trans (k.mono h.size)
theorem below_alloc_step {a w':World} {x:Obj} (k:Below (a.alloc x).heap.size (a.alloc x) w'):Below a.heap.size a w':=below_step ((Below.refl _ _).alloc (Nat.le_refl _) x) k
theorem spot_cells {a w':World} {x y:Value} {T:TypeId} (k:Below (a.alloc (.cells #[x,y] T)).heap.size (a.alloc (.cells #[x,y] T)) w'):w'.cell? ⟨a.heap.size,0,none⟩=some x∧w'.cell? ⟨a.heap.size,1,none⟩=some y∧a.heap.size<w'.heap.size :=
 ⟨(k.cell (p:=⟨a.heap.size,0,none⟩) (by simp)).trans (by simp),(k.cell (p:=⟨a.heap.size,1,none⟩) (by simp)).trans (by simp),by have:=k.size;simp at this;omega⟩
theorem chg_from {a w w':World} {b g:Nat} (h:Below a.heap.size a w) (k:Chg b g w w'):Chg b g a w':=(Chg.trans ⟨h.os,h.tape,h.output,h.size,fun i hi _ _=>h.block i hi⟩ k)
section
variable {w:World} {b g:Nat} {ws:List Int} {o:Bool} {n:Int}
theorem cload_ok (h:MemAt 145 w b g ws o n) {p c j:Int} (hj:0≤j∧j<3) (hok:errC ws o p c j=0):Calls Tryz.prog 241 #[.agg #[.int .i64 p,.int .i64 c],.pointer (some ⟨b,0,none⟩),.int .i64 j] w fun e w'=>e=.returned (.tuple #[.int .u64 (wordC ws p c j),.int .i64 0])∧MemAt 145 w' b g ws false (up n)∧Chg b g w w':=by
 cases hm:mayC c
 ·simp [errC,hm] at hok
 ·have hA:errA ws o (placeI p c j)=0:=by simpa [errC,hm] using hok
  have hk:hasB ws (placeI p c j)=true∧o=true:=by
   unfold errA at hA
   cases q:hasB ws (placeI p c j) <;> cases o <;> simp [q] at hA ⊢
  have H1:=Lib.hid (smay_any p c)
  simp only [hm] at H1
  have H2:=Lib.hid (splace_any p c j hm hj)
  have H3:=Lib.hid (fun (w1:World) (h1:Below w.heap.size w w1)=>load_any (h.hop h1) (placeI p c j))
  have e1:toldW ws o (placeI p c j)=wordC ws p c j:=by simp [toldW,wordC,hk.1,hk.2]
  have e2:spentO ws o (placeI p c j)=false:=by simp [spentO,hk.1]
  have e3:spentC ws o (placeI p c j) n=up n:=by simp [spentC,hk.1,hk.2]
  simp only [hA,e1,e2,e3] at H3
  generalize wordC ws p c j=x at H3 ⊢
  generalize placeI p c j=i at H2 H3
  clear hA hk e1 e2 e3 hok hm h
  go_enter Tryz.func241,Tryz.ntmps241
  go_wp2_with (first
   | (go_at_call 98;refine (H1.out _).mono ?_;rintro e w1 ⟨rfl,hw⟩;have HB1:=Lib.hid (below_alloc_step hw);obtain ⟨q0,q1,q2⟩:=spot_cells hw;clear hw)
   | (go_at_call 99;refine (H2.out _).mono ?_;rintro e w2 ⟨rfl,hw⟩;have HB2:=Lib.hid (below_step HB1.out hw);clear hw)
   | (go_at_call 207;refine (H3.out _ HB2.out).mono ?_;rintro e w3 ⟨rfl,hm1,hc1⟩;have HM:=Lib.hid (And.intro hm1 (chg_from HB2.out hc1));clear hm1 hc1))
  go_ret2
  exact ⟨rfl,HM.out.1,HM.out.2⟩
theorem errA_told {i:Int} (h:¬ errA ws o i=0):toldW ws o i=0∧spentO ws o i=o∧spentC ws o i n=n:=by
 unfold errA at h
 cases q:hasB ws i <;> cases o <;> simp [q] at h <;> simp [toldW,spentO,spentC,q]
theorem cload_no (h:MemAt 145 w b g ws o n) {p c j:Int} (hj:0≤j∧j<3) (hok:¬ errC ws o p c j=0):Calls Tryz.prog 241 #[.agg #[.int .i64 p,.int .i64 c],.pointer (some ⟨b,0,none⟩),.int .i64 j] w fun e w'=>e=.returned (.tuple #[.int .u64 0,.int .i64 (errC ws o p c j)])∧MemAt 145 w' b g ws o n∧Chg b g w w':=by
 have H1:=Lib.hid (smay_any p c)
 cases hm:mayC c
 ·have e:errC ws o p c j=60:=by simp [errC,hm]
  rw [e]
  simp only [hm] at H1
  have HM:=Lib.hid h
  clear e hok h hm
  go_enter Tryz.func241,Tryz.ntmps241
  go_wp2_with (go_at_call 98;refine (H1.out _).mono ?_;rintro e w1 ⟨rfl,hw⟩;have HB:=Lib.hid (below_alloc_step hw);clear hw)
  go_ret2
  exact ⟨rfl,HM.out.hop HB.out,chg_from HB.out (Chg.refl _ _ _)⟩
 ·have e0:errC ws o p c j=errA ws o (placeI p c j):=by simp [errC,hm]
  rw [e0] at hok ⊢
  simp only [hm] at H1
  obtain ⟨e1,e2,e3⟩:=errA_told (n:=n) hok
  have H2:=Lib.hid (splace_any p c j hm hj)
  have H3:=Lib.hid (fun (w1:World) (h1:Below w.heap.size w w1)=>load_any (h.hop h1) (placeI p c j))
  simp only [e1,e2,e3] at H3
  generalize errA ws o (placeI p c j)=x at H3 ⊢
  generalize placeI p c j=i at H2 H3
  clear e0 e1 e2 e3 hok hm h
  go_enter Tryz.func241,Tryz.ntmps241
  go_wp2_with (first
   | (go_at_call 98;refine (H1.out _).mono ?_;rintro e w1 ⟨rfl,hw⟩;have HB1:=Lib.hid (below_alloc_step hw);obtain ⟨q0,q1,q2⟩:=spot_cells hw;clear hw)
   | (go_at_call 99;refine (H2.out _).mono ?_;rintro e w2 ⟨rfl,hw⟩;have HB2:=Lib.hid (below_step HB1.out hw);clear hw)
   | (go_at_call 207;refine (H3.out _ HB2.out).mono ?_;rintro e w3 ⟨rfl,hm1,hc1⟩;have HM:=Lib.hid (And.intro hm1 (chg_from HB2.out hc1));clear hm1 hc1))
  go_ret2
  exact ⟨rfl,HM.out.1,HM.out.2⟩
def storeC (ws:List Int) (p c j v:Int):List Int:=ws.set (placeI p c j).toNat v
theorem cstore_ok (h:MemAt 145 w b g ws o n) {p c j:Int} (v:Int) (hj:0≤j∧j<3) (hok:errC ws o p c j=0):Calls Tryz.prog 302 #[.agg #[.int .i64 p,.int .i64 c],.pointer (some ⟨b,0,none⟩),.int .i64 j,.int .u64 v] w fun e w'=>e=.returned (.int .i64 0)∧MemAt 145 w' b g (storeC ws p c j v) false (up n)∧Chg b g w w':=by
 cases hm:mayC c
 ·simp [errC,hm] at hok
 ·have hA:errA ws o (placeI p c j)=0:=by simpa [errC,hm] using hok
  have hk:hasB ws (placeI p c j)=true∧o=true:=by
   unfold errA at hA
   cases q:hasB ws (placeI p c j) <;> cases o <;> simp [q] at hA ⊢
  have H1:=Lib.hid (smay_any p c)
  simp only [hm] at H1
  have H2:=Lib.hid (splace_any p c j hm hj)
  have H3:=Lib.hid (fun (w1:World) (h1:Below w.heap.size w w1)=>store_any (h.hop h1) (placeI p c j) v)
  have e1:Go.Proofs.YtlkldgopliablaaGreatDoor.Md.stored ws o (placeI p c j) v=storeC ws p c j v:=by simp [Go.Proofs.YtlkldgopliablaaGreatDoor.Md.stored,storeC,hk.1,hk.2]
  have e2:spentO ws o (placeI p c j)=false:=by simp [spentO,hk.1]
  have e3:spentC ws o (placeI p c j) n=up n:=by simp [spentC,hk.1,hk.2]
  simp only [hA,e1,e2,e3] at H3
  generalize storeC ws p c j v=x at H3 ⊢
  generalize placeI p c j=i at H2 H3
  clear hA hk e1 e2 e3 hok hm h
  go_enter Tryz.func302,Tryz.ntmps302
  go_wp2_with (first
   | (go_at_call 98;refine (H1.out _).mono ?_;rintro e w1 ⟨rfl,hw⟩;have HB1:=Lib.hid (below_alloc_step hw);obtain ⟨q0,q1,q2⟩:=spot_cells hw;clear hw)
   | (go_at_call 99;refine (H2.out _).mono ?_;rintro e w2 ⟨rfl,hw⟩;have HB2:=Lib.hid (below_step HB1.out hw);clear hw)
   | (go_at_call 262;refine (H3.out _ HB2.out).mono ?_;rintro e w3 ⟨rfl,hm1,hc1⟩;have HM:=Lib.hid (And.intro hm1 (chg_from HB2.out hc1));clear hm1 hc1))
  go_ret
  exact ⟨rfl,HM.out.1,HM.out.2⟩
theorem errA_stored {i v:Int} (h:¬ errA ws o i=0):Go.Proofs.YtlkldgopliablaaGreatDoor.Md.stored ws o i v=ws:=by
 unfold errA at h
 cases q:hasB ws i <;> cases o <;> simp [q] at h <;> simp [Go.Proofs.YtlkldgopliablaaGreatDoor.Md.stored,q]
theorem cstore_no (h:MemAt 145 w b g ws o n) {p c j:Int} (v:Int) (hj:0≤j∧j<3) (hok:¬ errC ws o p c j=0):Calls Tryz.prog 302 #[.agg #[.int .i64 p,.int .i64 c],.pointer (some ⟨b,0,none⟩),.int .i64 j,.int .u64 v] w fun e w'=>e=.returned (.int .i64 (errC ws o p c j))∧MemAt 145 w' b g ws o n∧Chg b g w w':=by
 have H1:=Lib.hid (smay_any p c)
 cases hm:mayC c
 ·have e:errC ws o p c j=60:=by simp [errC,hm]
  rw [e]
  simp only [hm] at H1
  have HM:=Lib.hid h
  clear e hok h hm
  go_enter Tryz.func302,Tryz.ntmps302
  go_wp2_with (go_at_call 98;refine (H1.out _).mono ?_;rintro e w1 ⟨rfl,hw⟩;have HB:=Lib.hid (below_alloc_step hw);clear hw)
  go_ret
  exact ⟨rfl,HM.out.hop HB.out,chg_from HB.out (Chg.refl _ _ _)⟩
 ·have e0:errC ws o p c j=errA ws o (placeI p c j):=by simp [errC,hm]
  rw [e0] at hok ⊢
  simp only [hm] at H1
  obtain ⟨_,e2,e3⟩:=errA_told (n:=n) hok
  have e1:=errA_stored (v:=v) hok
  have H2:=Lib.hid (splace_any p c j hm hj)
  have H3:=Lib.hid (fun (w1:World) (h1:Below w.heap.size w w1)=>store_any (h.hop h1) (placeI p c j) v)
  simp only [e1,e2,e3] at H3
  generalize errA ws o (placeI p c j)=x at H3 ⊢
  generalize placeI p c j=i at H2 H3
  clear e0 e1 e2 e3 hok hm h
  go_enter Tryz.func302,Tryz.ntmps302
  go_wp2_with (first
   | (go_at_call 98;refine (H1.out _).mono ?_;rintro e w1 ⟨rfl,hw⟩;have HB1:=Lib.hid (below_alloc_step hw);obtain ⟨q0,q1,q2⟩:=spot_cells hw;clear hw)
   | (go_at_call 99;refine (H2.out _).mono ?_;rintro e w2 ⟨rfl,hw⟩;have HB2:=Lib.hid (below_step HB1.out hw);clear hw)
   | (go_at_call 262;refine (H3.out _ HB2.out).mono ?_;rintro e w3 ⟨rfl,hm1,hc1⟩;have HM:=Lib.hid (And.intro hm1 (chg_from HB2.out hc1));clear hm1 hc1))
  go_ret
  exact ⟨rfl,HM.out.1,HM.out.2⟩
end
end Go.Proofs.YtlkldgopliablaaGreatDoor.Md.Ce
namespace Go.Proofs.YtlkldgopliablaaGreatDoor.Md.Ce
open Go.ChangeShapes Go.WideShapes Go.ChangeAt Go.RowKit Num
attribute [local go_sem] run_store_float run_store_func run_store_nilFunc
theorem funcT:∃ ps rs v,Tryz.prog.underlying 271=some (.func ps rs v):=⟨#[217,86],#[37],false,by kernel_rfl⟩
theorem run_equalIn_func {P:Program} (d:Nat) (t:TypeId) (f:Fn) (x y:Array Value) (w:World) {ps rs:Array TypeId} {v:Bool} (h:P.underlying t=some (.func ps rs v)):(Op.equalIn (d+1) t (.func f x y) .nilFunc).run P w=.ok false w:=by
 simp [Op.equalIn,run_underlying h]
theorem run_equalIn_nil {P:Program} (d:Nat) (t:TypeId) (w:World) {ps rs:Array TypeId} {v:Bool} (h:P.underlying t=some (.func ps rs v)):(Op.equalIn (d+1) t .nilFunc .nilFunc).run P w=.ok true w:=by
 simp [Op.equalIn,run_underlying h]
theorem run_equal_func {P:Program} (t:TypeId) (f:Fn) (x y:Array Value) (w:World) {ps rs:Array TypeId} {v:Bool} (h:P.underlying t=some (.func ps rs v)):(Op.equal t (.func f x y) .nilFunc).run P w=.ok false w:=run_equalIn_func 9999 t f x y w h
theorem run_equal_nil {P:Program} (t:TypeId) (w:World) {ps rs:Array TypeId} {v:Bool} (h:P.underlying t=some (.func ps rs v)):(Op.equal t .nilFunc .nilFunc).run P w=.ok true w:=run_equalIn_nil 9999 t w h
theorem run_eql_func (f:Fn) (x y:Array Value) (w:World):(binOp .eql 271 (.func f x y) .nilFunc).run Tryz.prog w=.ok (.bool false) w:=by
 obtain ⟨ps,rs,v,h⟩:=funcT
 simp only [binOp]
 simp [run_equal_func _ f x y w h]
theorem run_eql_nilFunc (w:World):(binOp .eql 271 .nilFunc .nilFunc).run Tryz.prog w=.ok (.bool true) w:=by
 obtain ⟨ps,rs,v,h⟩:=funcT
 simp only [binOp]
 simp [run_equal_nil _ w h]
attribute [local go_sem] run_eql_func run_eql_nilFunc
structure Rd where
 p:Int
 c:Int
 s:Int
 k:Nat
 v:Int
 x:Nat
 y:Nat
 n:Int
 t:Bool
def viewF (k:Nat):FuncId:=if k=0 then 348 else if k=1 then 351 else if k=2 then 353 else 352
def recvV (r:Rd):Value:=.agg #[.int .i64 r.p,.int .i64 r.c,.int .u64 r.s]
def nextV (r:Rd):Value:=if r.k<4 then .func (.func (viewF r.k)) #[recvV r] #[] else .nilFunc
def rboxV (r:Rd) (f:Value):Array Value:=#[f,.int .u64 r.v,.float .f64 r.x,.float .f64 r.y,.int .i64 r.n,.bool r.t]
def RbAt (w:World) (q:Nat) (r:Rd) (f:Value):Prop:=w.heap[q]?=some (.cells (rboxV r f) 273 (0,0))
def RdAt (w:World) (q:Nat) (r:Rd):Prop:=RbAt w q r (nextV r)
section
variable {w:World} {q:Nat} {r:Rd} {f:Value}
theorem RbAt.lt (h:RbAt w q r f):q<w.heap.size:=lt_of_block h
theorem RbAt.free (h:RbAt w q r f) (j:Nat):w.frozen? ⟨q,j,none⟩=false:=frozen_of_row w q j _ _ h
theorem RbAt.cell0 (h:RbAt w q r f):w.cell? ⟨q,0,none⟩=some f:=by rw [cell_of_row w q 0 _ _ _ h];rfl
theorem RbAt.cell1 (h:RbAt w q r f):w.cell? ⟨q,1,none⟩=some (.int .u64 r.v):=by rw [cell_of_row w q 1 _ _ _ h];rfl
theorem RbAt.cell2 (h:RbAt w q r f):w.cell? ⟨q,2,none⟩=some (.float .f64 r.x):=by rw [cell_of_row w q 2 _ _ _ h];rfl
theorem RbAt.cell3 (h:RbAt w q r f):w.cell? ⟨q,3,none⟩=some (.float .f64 r.y):=by rw [cell_of_row w q 3 _ _ _ h];rfl
theorem RbAt.cell4 (h:RbAt w q r f):w.cell? ⟨q,4,none⟩=some (.int .i64 r.n):=by rw [cell_of_row w q 4 _ _ _ h];rfl
theorem RbAt.cell5 (h:RbAt w q r f):w.cell? ⟨q,5,none⟩=some (.bool r.t):=by rw [cell_of_row w q 5 _ _ _ h];rfl
theorem RbAt.keep {w':World} (h:RbAt w q r f) (k:w'.heap[q]?=w.heap[q]?):RbAt w' q r f:=k.trans h
theorem RbAt.setF (h:RbAt w q r f) (f':Value):RbAt (w.setCell ⟨q,0,none⟩ f') q r f':=(heap_setCell_same w q 0 _ _ _ h).trans rfl
theorem RbAt.setV (h:RbAt w q r f) (v:Int):RbAt (w.setCell ⟨q,1,none⟩ (.int .u64 v)) q { r with v:=v } f:=(heap_setCell_same w q 1 _ _ _ h).trans rfl
theorem RbAt.setX (h:RbAt w q r f) (x:Nat):RbAt (w.setCell ⟨q,2,none⟩ (.float .f64 x)) q { r with x:=x } f:=(heap_setCell_same w q 2 _ _ _ h).trans rfl
theorem RbAt.setY (h:RbAt w q r f) (y:Nat):RbAt (w.setCell ⟨q,3,none⟩ (.float .f64 y)) q { r with y:=y } f:=(heap_setCell_same w q 3 _ _ _ h).trans rfl
theorem RbAt.setN (h:RbAt w q r f) (n:Int):RbAt (w.setCell ⟨q,4,none⟩ (.int .i64 n)) q { r with n:=n } f:=(heap_setCell_same w q 4 _ _ _ h).trans rfl
theorem RbAt.setT (h:RbAt w q r f) (t:Bool):RbAt (w.setCell ⟨q,5,none⟩ (.bool t)) q { r with t:=t } f:=(heap_setCell_same w q 5 _ _ _ h).trans rfl
theorem RdAt.lt (h:RdAt w q r):q<w.heap.size:=RbAt.lt h
end
def wrd (k:Nat):Int:=if k=1 then 1 else if k=3 then 2 else 0
theorem wrd_in (k:Nat):0≤wrd k∧wrd k<3:=by unfold wrd;split <;> (try split) <;> omega
def nx0 (r:Rd) (u:Int):Rd :=
 if r.k=0 then { r with v:=u,k:=if r.s<u then 3 else 1 }
 else if r.k=1 then { r with x:=fixB u.toNat,k:=2 }
 else if r.k=2 then (if u=r.v then { r with y:=r.x,k:=4 } else { r with t:=true,k:=3 })
 else { r with y:=fixB u.toNat,k:=4 }
def errR (r:Rd) (ws:List Int) (o:Bool):Int:=if r.k<4 then errC ws o r.p r.c (wrd r.k) else 3
def nxt (r:Rd) (u:Int):Rd:={ nx0 r u with n:=up r.n }
def stepR (r:Rd) (ws:List Int) (o:Bool):Rd:=if errR r ws o=0 then nxt r (wordC ws r.p r.c (wrd r.k)) else r
section
variable {w:World} {b g q:Nat} {ws:List Int} {o:Bool} {n:Int} {r:Rd}
theorem over_any (h:RdAt w q r):Calls Tryz.prog 350 #[.pointer (some ⟨q,0,none⟩)] w fun e w'=>e=.returned (.bool (decide (4≤r.k)))∧w'=w:=by
 have h0:=RbAt.cell0 h
 have hq:=RbAt.lt h
 unfold nextV at h0
 by_cases hk:r.k<4
 ·rw [if_pos hk] at h0
  generalize viewF r.k=ff at h0
  generalize recvV r=fr at h0
  have hk':decide (4≤r.k)=false:=decide_eq_false (by omega)
  rw [hk']
  clear h hk hk'
  go_enter Tryz.func350,Tryz.ntmps350
  go_wp2
  go_ret
  exact ⟨rfl,rfl⟩
 ·rw [if_neg hk] at h0
  have hk':decide (4≤r.k)=true:=decide_eq_true (by omega)
  rw [hk']
  clear h hk hk'
  go_enter Tryz.func350,Tryz.ntmps350
  go_wp2
  go_ret
  exact ⟨rfl,rfl⟩
theorem end_any {f:Value} (h:RbAt w q r f) (x:Nat):Calls Tryz.prog 354 #[.pointer (some ⟨q,0,none⟩),.float .f64 x] w fun e w'=>e=.returned (.tuple #[])∧RbAt w' q { r with y:=x } .nilFunc∧Ch [q] w w':=by
 have h0:=h.cell0
 have h3:=h.cell3
 have hq:=h.lt
 have hf0:=h.free 0
 have hf3:=h.free 3
 have HM:=Lib.hid h
 clear h
 go_enter Tryz.func354,Tryz.ntmps354
 go_wp2
 go_end0
 exact ⟨rfl,(HM.out.setY x).setF _,((Ch.refl _ _).set (by simp) _ _).set (by simp) _ _⟩
end
end Go.Proofs.YtlkldgopliablaaGreatDoor.Md.Ce
namespace Go.Proofs.YtlkldgopliablaaGreatDoor.Md.Ce
open Go.ChangeShapes Go.WideShapes Go.ChangeAt Go.RowKit Num
attribute [local go_sem] run_store_float run_store_func run_store_nilFunc
section
variable {w:World} {b g q:Nat} {ws:List Int} {o:Bool} {n:Int} {r:Rd} {f:Value}
theorem view_aft {w1:World} {x y z:Value} {T:TypeId} (h:RbAt w q r f) (h1:q≠b) (h2:q≠g) (hb:b<w.heap.size) (hg:g<w.heap.size) (hc:Chg b g (w.alloc (.cells #[x,y,z] T)) w1) :
  w1.cell? ⟨w.heap.size,0,none⟩=some x∧w1.cell? ⟨w.heap.size,1,none⟩=some y∧w1.cell? ⟨w.heap.size,2,none⟩=some z∧w.heap.size<w1.heap.size∧RbAt w1 q r f∧Ch [b,g,q] w w1:=by
 have hq:=h.lt
 have hs:=hc.size
 simp at hs
 have hx:w1.heap[w.heap.size]?=some (.cells #[x,y,z] T (0,0)):=(hc.block w.heap.size (by simp) (by omega) (by omega)).trans (heap_alloc_new _ _)
 refine ⟨?_,?_,?_,by omega,h.keep ((hc.block q (by simp;omega) h1 h2).trans (Below.heap_alloc _ _ _ hq)),?_⟩
 ·rw [cell_of_row _ _ _ _ _ _ hx];rfl
 ·rw [cell_of_row _ _ _ _ _ _ hx];rfl
 ·rw [cell_of_row _ _ _ _ _ _ hx];rfl
 ·exact ((Ch.refl _ _).alloc _).trans (hc.ch (by simp) (by simp))
theorem lv_ok (h:MemAt 145 w b g ws o n) (hr:RbAt w q r f) (h1:q≠b) (h2:q≠g) (hk:r.k=0) (hok:errC ws o r.p r.c 0=0):Calls Tryz.prog 348 #[recvV r,.pointer (some ⟨q,0,none⟩),.pointer (some ⟨b,0,none⟩)] w fun e w'=>e=.returned (.int .i64 0)∧MemAt 145 w' b g ws false (up n)∧RbAt w' q (nx0 r (wordC ws r.p r.c 0)) (nextV (nx0 r (wordC ws r.p r.c 0)))∧Ch [b,g,q] w w':=by
 have hb:=h.ltB
 have hg:=h.ltG
 have hq:=hr.lt
 have HL:=Lib.hid (cload_ok (h.alloc (.cells #[.int .i64 r.p,.int .i64 r.c,.int .u64 r.s] 353)) (p:=r.p) (c:=r.c) (j:=0) (by omega) hok)
 have HR:=Lib.hid hr
 have HN:=Lib.hid (And.intro h1 h2)
 unfold recvV
 generalize wordC ws r.p r.c 0=u at HL ⊢
 clear h hok
 obtain ⟨p,c,s,k,v,x,y,m,t⟩:=r
 simp only at hk HL
 subst hk
 clear hr
 by_cases hu:s<u
 ·have hn:nx0 ⟨p,c,s,0,v,x,y,m,t⟩ u=⟨p,c,s,3,u,x,y,m,t⟩:=by simp [nx0,hu]
  rw [hn]
  clear hn
  go_enter Tryz.func348,Tryz.ntmps348
  go_wp2_with (go_at_call 241;refine HL.out.mono ?_;rintro e w1 ⟨rfl,hm,hc⟩;obtain ⟨c0,c1,c2,c3,hrr,hch⟩:=view_aft HR.out HN.out.1 HN.out.2 hb hg hc;have d0:=hrr.cell0;have d1:=hrr.cell1;have d2:=hrr.cell2;have d3:=hrr.cell3;have d5:=hrr.cell5;have dq:=hrr.lt;have f0:=hrr.free 0;have f1:=hrr.free 1;have f2:=hrr.free 2;have f5:=hrr.free 5;have HX:=Lib.hid (And.intro hm (And.intro hrr hch));clear hm hc hrr hch)
  go_ret
  exact ⟨rfl,(((HX.out.1.other (Ne.symm HN.out.1) (Ne.symm HN.out.2) _ _).other (Ne.symm HN.out.1) (Ne.symm HN.out.2) _ _).other (Ne.symm HN.out.1) (Ne.symm HN.out.2) _ _),((HX.out.2.1.setV u).setF _).setF _,((HX.out.2.2.set (by simp) _ _).set (by simp) _ _).set (by simp) _ _⟩
 ·have hn:nx0 ⟨p,c,s,0,v,x,y,m,t⟩ u=⟨p,c,s,1,u,x,y,m,t⟩:=by simp [nx0,hu]
  rw [hn]
  clear hn
  go_enter Tryz.func348,Tryz.ntmps348
  go_wp2_with (go_at_call 241;refine HL.out.mono ?_;rintro e w1 ⟨rfl,hm,hc⟩;obtain ⟨c0,c1,c2,c3,hrr,hch⟩:=view_aft HR.out HN.out.1 HN.out.2 hb hg hc;have d0:=hrr.cell0;have d1:=hrr.cell1;have d2:=hrr.cell2;have d3:=hrr.cell3;have d5:=hrr.cell5;have dq:=hrr.lt;have f0:=hrr.free 0;have f1:=hrr.free 1;have f2:=hrr.free 2;have f5:=hrr.free 5;have HX:=Lib.hid (And.intro hm (And.intro hrr hch));clear hm hc hrr hch)
  go_ret
  exact ⟨rfl,((HX.out.1.other (Ne.symm HN.out.1) (Ne.symm HN.out.2) _ _).other (Ne.symm HN.out.1) (Ne.symm HN.out.2) _ _),(HX.out.2.1.setV u).setF _,(HX.out.2.2.set (by simp) _ _).set (by simp) _ _⟩
theorem ln_ok (h:MemAt 145 w b g ws o n) (hr:RbAt w q r f) (h1:q≠b) (h2:q≠g) (hk:r.k=1) (hok:errC ws o r.p r.c 1=0):Calls Tryz.prog 351 #[recvV r,.pointer (some ⟨q,0,none⟩),.pointer (some ⟨b,0,none⟩)] w fun e w'=>e=.returned (.int .i64 0)∧MemAt 145 w' b g ws false (up n)∧RbAt w' q (nx0 r (wordC ws r.p r.c 1)) (nextV (nx0 r (wordC ws r.p r.c 1)))∧Ch [b,g,q] w w':=by
 have hb:=h.ltB
 have hg:=h.ltG
 have hq:=hr.lt
 have HL:=Lib.hid (cload_ok (h.alloc (.cells #[.int .i64 r.p,.int .i64 r.c,.int .u64 r.s] 353)) (p:=r.p) (c:=r.c) (j:=1) (by omega) hok)
 have HR:=Lib.hid hr
 have HN:=Lib.hid (And.intro h1 h2)
 unfold recvV
 generalize wordC ws r.p r.c 1=u at HL ⊢
 clear h hok
 obtain ⟨p,c,s,k,v,x,y,m,t⟩:=r
 simp only at hk HL
 subst hk
 clear hr
 have hn:nx0 ⟨p,c,s,1,v,x,y,m,t⟩ u=⟨p,c,s,2,v,fixB u.toNat,y,m,t⟩:=by simp [nx0]
 rw [hn]
 clear hn
 go_enter Tryz.func351,Tryz.ntmps351
 go_wp2_with (first
  | (go_at_call 241;refine HL.out.mono ?_;rintro e w1 ⟨rfl,hm,hc⟩;obtain ⟨c0,c1,c2,c3,hrr,hch⟩:=view_aft HR.out HN.out.1 HN.out.2 hb hg hc;have d0:=hrr.cell0;have d1:=hrr.cell1;have d2:=hrr.cell2;have d3:=hrr.cell3;have d5:=hrr.cell5;have dq:=hrr.lt;have f0:=hrr.free 0;have f1:=hrr.free 1;have f2:=hrr.free 2;have f5:=hrr.free 5;have HX:=Lib.hid (And.intro hm (And.intro hrr hch));clear hm hc hrr hch)
  | (go_at_call 100;refine (of_int _ _).mono ?_;rintro e w2 ⟨rfl,hw⟩;subst w2))
 go_ret
 exact ⟨rfl,((HX.out.1.other (Ne.symm HN.out.1) (Ne.symm HN.out.2) _ _).other (Ne.symm HN.out.1) (Ne.symm HN.out.2) _ _),(HX.out.2.1.setX _).setF _,(HX.out.2.2.set (by simp) _ _).set (by simp) _ _⟩
theorem la_ok (h:MemAt 145 w b g ws o n) (hr:RbAt w q r f) (h1:q≠b) (h2:q≠g) (hk:r.k=2) (hok:errC ws o r.p r.c 0=0):Calls Tryz.prog 353 #[recvV r,.pointer (some ⟨q,0,none⟩),.pointer (some ⟨b,0,none⟩)] w fun e w'=>e=.returned (.int .i64 0)∧MemAt 145 w' b g ws false (up n)∧RbAt w' q (nx0 r (wordC ws r.p r.c 0)) (nextV (nx0 r (wordC ws r.p r.c 0)))∧Ch [b,g,q] w w':=by
 have hb:=h.ltB
 have hg:=h.ltG
 have hq:=hr.lt
 have HL:=Lib.hid (cload_ok (h.alloc (.cells #[.int .i64 r.p,.int .i64 r.c,.int .u64 r.s] 353)) (p:=r.p) (c:=r.c) (j:=0) (by omega) hok)
 have HR:=Lib.hid hr
 have HN:=Lib.hid (And.intro h1 h2)
 unfold recvV
 generalize wordC ws r.p r.c 0=u at HL ⊢
 clear h hok
 obtain ⟨p,c,s,k,v,x,y,m,t⟩:=r
 simp only at hk HL
 subst hk
 clear hr
 by_cases hu:u=v
 ·have hn:nx0 ⟨p,c,s,2,v,x,y,m,t⟩ u=⟨p,c,s,4,v,x,x,m,t⟩:=by simp [nx0,hu]
  rw [hn]
  subst hu
  clear hn
  go_enter Tryz.func353,Tryz.ntmps353
  go_wp2_with (first
   | (go_at_call 241;refine HL.out.mono ?_;rintro e w1 ⟨rfl,hm,hc⟩;obtain ⟨c0,c1,c2,c3,hrr,hch⟩:=view_aft HR.out HN.out.1 HN.out.2 hb hg hc;have d0:=hrr.cell0;have d1:=hrr.cell1;have d2:=hrr.cell2;have d3:=hrr.cell3;have d5:=hrr.cell5;have dq:=hrr.lt;have f0:=hrr.free 0;have f1:=hrr.free 1;have f2:=hrr.free 2;have f5:=hrr.free 5;have HX:=Lib.hid (And.intro hm (And.intro hrr hch));clear hm hc hrr hch)
   | (go_at_call 354;refine (end_any HX.out.2.1 _).mono ?_;rintro e w2 ⟨rfl,hr2,hc2⟩;have HY:=Lib.hid (And.intro (HX.out.1.ch hc2 (by simp;exact Ne.symm HN.out.1) (by simp;exact Ne.symm HN.out.2)) (And.intro hr2 (HX.out.2.2.trans (hc2.mono (by simp)))));clear hr2 hc2 HX))
  go_ret
  exact ⟨rfl,HY.out⟩
 ·have hn:nx0 ⟨p,c,s,2,v,x,y,m,t⟩ u=⟨p,c,s,3,v,x,y,m,true⟩:=by simp [nx0,hu]
  rw [hn]
  clear hn
  go_enter Tryz.func353,Tryz.ntmps353
  go_wp2_with (go_at_call 241;refine HL.out.mono ?_;rintro e w1 ⟨rfl,hm,hc⟩;obtain ⟨c0,c1,c2,c3,hrr,hch⟩:=view_aft HR.out HN.out.1 HN.out.2 hb hg hc;have d0:=hrr.cell0;have d1:=hrr.cell1;have d2:=hrr.cell2;have d3:=hrr.cell3;have d5:=hrr.cell5;have dq:=hrr.lt;have f0:=hrr.free 0;have f1:=hrr.free 1;have f2:=hrr.free 2;have f5:=hrr.free 5;have HX:=Lib.hid (And.intro hm (And.intro hrr hch));clear hm hc hrr hch)
  go_ret
  exact ⟨rfl,((HX.out.1.other (Ne.symm HN.out.1) (Ne.symm HN.out.2) _ _).other (Ne.symm HN.out.1) (Ne.symm HN.out.2) _ _),(HX.out.2.1.setT _).setF _,(HX.out.2.2.set (by simp) _ _).set (by simp) _ _⟩
theorem lw_ok (h:MemAt 145 w b g ws o n) (hr:RbAt w q r f) (h1:q≠b) (h2:q≠g) (hk:r.k=3) (hok:errC ws o r.p r.c 2=0):Calls Tryz.prog 352 #[recvV r,.pointer (some ⟨q,0,none⟩),.pointer (some ⟨b,0,none⟩)] w fun e w'=>e=.returned (.int .i64 0)∧MemAt 145 w' b g ws false (up n)∧RbAt w' q (nx0 r (wordC ws r.p r.c 2)) (nextV (nx0 r (wordC ws r.p r.c 2)))∧Ch [b,g,q] w w':=by
 have hb:=h.ltB
 have hg:=h.ltG
 have hq:=hr.lt
 have HL:=Lib.hid (cload_ok (h.alloc (.cells #[.int .i64 r.p,.int .i64 r.c,.int .u64 r.s] 353)) (p:=r.p) (c:=r.c) (j:=2) (by omega) hok)
 have HR:=Lib.hid hr
 have HN:=Lib.hid (And.intro h1 h2)
 unfold recvV
 generalize wordC ws r.p r.c 2=u at HL ⊢
 clear h hok
 obtain ⟨p,c,s,k,v,x,y,m,t⟩:=r
 simp only at hk HL
 subst hk
 clear hr
 have hn:nx0 ⟨p,c,s,3,v,x,y,m,t⟩ u=⟨p,c,s,4,v,x,fixB u.toNat,m,t⟩:=by simp [nx0]
 rw [hn]
 clear hn
 go_enter Tryz.func352,Tryz.ntmps352
 go_wp2_with (first
  | (go_at_call 241;refine HL.out.mono ?_;rintro e w1 ⟨rfl,hm,hc⟩;obtain ⟨c0,c1,c2,c3,hrr,hch⟩:=view_aft HR.out HN.out.1 HN.out.2 hb hg hc;have d0:=hrr.cell0;have d1:=hrr.cell1;have d2:=hrr.cell2;have d3:=hrr.cell3;have d5:=hrr.cell5;have dq:=hrr.lt;have f0:=hrr.free 0;have f1:=hrr.free 1;have f2:=hrr.free 2;have f5:=hrr.free 5;have HX:=Lib.hid (And.intro hm (And.intro hrr hch));clear hm hc hrr hch)
  | (go_at_call 100;refine (of_int _ _).mono ?_;rintro e w2 ⟨rfl,hw⟩;subst w2)
  | (go_at_call 354;refine (end_any HX.out.2.1 _).mono ?_;rintro e w2 ⟨rfl,hr2,hc2⟩;have HY:=Lib.hid (And.intro (HX.out.1.ch hc2 (by simp;exact Ne.symm HN.out.1) (by simp;exact Ne.symm HN.out.2)) (And.intro hr2 (HX.out.2.2.trans (hc2.mono (by simp)))));clear hr2 hc2 HX))
 go_ret
 exact ⟨rfl,HY.out⟩
theorem lv_no (h:MemAt 145 w b g ws o n) (hr:RbAt w q r f) (h1:q≠b) (h2:q≠g) (hok:¬ errC ws o r.p r.c 0=0):Calls Tryz.prog 348 #[recvV r,.pointer (some ⟨q,0,none⟩),.pointer (some ⟨b,0,none⟩)] w fun e w'=>e=.returned (.int .i64 (errC ws o r.p r.c 0))∧MemAt 145 w' b g ws o n∧RbAt w' q r f∧Ch [b,g,q] w w':=by
 have hb:=h.ltB
 have hg:=h.ltG
 have HL:=Lib.hid (cload_no (h.alloc (.cells #[.int .i64 r.p,.int .i64 r.c,.int .u64 r.s] 353)) (p:=r.p) (c:=r.c) (j:=0) (by omega) hok)
 have HR:=Lib.hid hr
 have HN:=Lib.hid (And.intro h1 h2)
 unfold recvV
 generalize errC ws o r.p r.c 0=x at HL hok ⊢
 clear h hr
 go_enter Tryz.func348,Tryz.ntmps348
 go_wp2_with (go_at_call 241;refine HL.out.mono ?_;rintro e w1 ⟨rfl,hm,hc⟩;obtain ⟨_,_,_,_,hrr,hch⟩:=view_aft HR.out HN.out.1 HN.out.2 hb hg hc;have HX:=Lib.hid (And.intro hm (And.intro hrr hch));clear hm hc hrr hch)
 go_ret
 exact ⟨rfl,HX.out⟩
theorem ln_no (h:MemAt 145 w b g ws o n) (hr:RbAt w q r f) (h1:q≠b) (h2:q≠g) (hok:¬ errC ws o r.p r.c 1=0):Calls Tryz.prog 351 #[recvV r,.pointer (some ⟨q,0,none⟩),.pointer (some ⟨b,0,none⟩)] w fun e w'=>e=.returned (.int .i64 (errC ws o r.p r.c 1))∧MemAt 145 w' b g ws o n∧RbAt w' q r f∧Ch [b,g,q] w w':=by
 have hb:=h.ltB
 have hg:=h.ltG
 have HL:=Lib.hid (cload_no (h.alloc (.cells #[.int .i64 r.p,.int .i64 r.c,.int .u64 r.s] 353)) (p:=r.p) (c:=r.c) (j:=1) (by omega) hok)
 have HR:=Lib.hid hr
 have HN:=Lib.hid (And.intro h1 h2)
 unfold recvV
 generalize errC ws o r.p r.c 1=x at HL hok ⊢
 clear h hr
 go_enter Tryz.func351,Tryz.ntmps351
 go_wp2_with (go_at_call 241;refine HL.out.mono ?_;rintro e w1 ⟨rfl,hm,hc⟩;obtain ⟨_,_,_,_,hrr,hch⟩:=view_aft HR.out HN.out.1 HN.out.2 hb hg hc;have HX:=Lib.hid (And.intro hm (And.intro hrr hch));clear hm hc hrr hch)
 go_ret
 exact ⟨rfl,HX.out⟩
theorem la_no (h:MemAt 145 w b g ws o n) (hr:RbAt w q r f) (h1:q≠b) (h2:q≠g) (hok:¬ errC ws o r.p r.c 0=0):Calls Tryz.prog 353 #[recvV r,.pointer (some ⟨q,0,none⟩),.pointer (some ⟨b,0,none⟩)] w fun e w'=>e=.returned (.int .i64 (errC ws o r.p r.c 0))∧MemAt 145 w' b g ws o n∧RbAt w' q r f∧Ch [b,g,q] w w':=by
 have hb:=h.ltB
 have hg:=h.ltG
 have HL:=Lib.hid (cload_no (h.alloc (.cells #[.int .i64 r.p,.int .i64 r.c,.int .u64 r.s] 353)) (p:=r.p) (c:=r.c) (j:=0) (by omega) hok)
 have HR:=Lib.hid hr
 have HN:=Lib.hid (And.intro h1 h2)
 unfold recvV
 generalize errC ws o r.p r.c 0=x at HL hok ⊢
 clear h hr
 go_enter Tryz.func353,Tryz.ntmps353
 go_wp2_with (go_at_call 241;refine HL.out.mono ?_;rintro e w1 ⟨rfl,hm,hc⟩;obtain ⟨_,_,_,_,hrr,hch⟩:=view_aft HR.out HN.out.1 HN.out.2 hb hg hc;have HX:=Lib.hid (And.intro hm (And.intro hrr hch));clear hm hc hrr hch)
 go_ret
 exact ⟨rfl,HX.out⟩
theorem lw_no (h:MemAt 145 w b g ws o n) (hr:RbAt w q r f) (h1:q≠b) (h2:q≠g) (hok:¬ errC ws o r.p r.c 2=0):Calls Tryz.prog 352 #[recvV r,.pointer (some ⟨q,0,none⟩),.pointer (some ⟨b,0,none⟩)] w fun e w'=>e=.returned (.int .i64 (errC ws o r.p r.c 2))∧MemAt 145 w' b g ws o n∧RbAt w' q r f∧Ch [b,g,q] w w':=by
 have hb:=h.ltB
 have hg:=h.ltG
 have HL:=Lib.hid (cload_no (h.alloc (.cells #[.int .i64 r.p,.int .i64 r.c,.int .u64 r.s] 353)) (p:=r.p) (c:=r.c) (j:=2) (by omega) hok)
 have HR:=Lib.hid hr
 have HN:=Lib.hid (And.intro h1 h2)
 unfold recvV
 generalize errC ws o r.p r.c 2=x at HL hok ⊢
 clear h hr
 go_enter Tryz.func352,Tryz.ntmps352
 go_wp2_with (go_at_call 241;refine HL.out.mono ?_;rintro e w1 ⟨rfl,hm,hc⟩;obtain ⟨_,_,_,_,hrr,hch⟩:=view_aft HR.out HN.out.1 HN.out.2 hb hg hc;have HX:=Lib.hid (And.intro hm (And.intro hrr hch));clear hm hc hrr hch)
 go_ret
 exact ⟨rfl,HX.out⟩
end
end Go.Proofs.YtlkldgopliablaaGreatDoor.Md.Ce
namespace Go.Proofs.YtlkldgopliablaaGreatDoor.Md.Ce
open Go.ChangeShapes Go.WideShapes Go.ChangeAt Go.RowKit Num
attribute [local go_sem] run_store_float run_store_func run_store_nilFunc
section
variable {w:World} {b g q:Nat} {ws:List Int} {o:Bool} {n:Int} {r:Rd}
theorem view_enter (k:Nat) (args:Array Value) (w:World):(callFunc (viewF k) args).run Tryz.prog w=.ok (.enter (viewF k) args) w:=by
 unfold viewF
 split
 ·exact enter_run Tryz.func348 (by kernel_rfl) (by kernel_rfl) args w
 split
 ·exact enter_run Tryz.func351 (by kernel_rfl) (by kernel_rfl) args w
 split
 ·exact enter_run Tryz.func353 (by kernel_rfl) (by kernel_rfl) args w
 ·exact enter_run Tryz.func352 (by kernel_rfl) (by kernel_rfl) args w
theorem rstep_over (h:RdAt w q r) (hk:¬ r.k<4):Calls Tryz.prog 346 #[.pointer (some ⟨q,0,none⟩),.pointer (some ⟨b,0,none⟩)] w fun e w'=>e=.returned (.tuple #[.bool false,.int .i64 3])∧w'=w:=by
 have H1:=Lib.hid (over_any h)
 rw [decide_eq_true (show 4≤r.k by omega)] at H1
 clear h hk
 go_enter Tryz.func346,Tryz.ntmps346
 go_wp2_with (go_at_call 350;refine H1.out.mono ?_;rintro e w1 ⟨rfl,hw⟩;subst w1)
 go_ret2
 exact ⟨rfl,rfl⟩
theorem rstep_err (h:RdAt w q r) (hk:r.k<4) {E:Int} (hE:¬ E=0) {Q:World→Prop} (hf:Calls Tryz.prog (viewF r.k) #[recvV r,.pointer (some ⟨q,0,none⟩),.pointer (some ⟨b,0,none⟩)] w fun e w'=>e=.returned (.int .i64 E)∧Q w') :
  Calls Tryz.prog 346 #[.pointer (some ⟨q,0,none⟩),.pointer (some ⟨b,0,none⟩)] w fun e w'=>e=.returned (.tuple #[.bool false,.int .i64 E])∧Q w':=by
 have H1:=Lib.hid (over_any h)
 rw [decide_eq_false (show ¬ 4≤r.k by omega)] at H1
 have h0:=RbAt.cell0 h
 have hq:=RbAt.lt h
 have hcall:=view_enter r.k
 unfold nextV at h0
 rw [if_pos hk] at h0
 generalize viewF r.k=ff at h0 hf hcall
 generalize recvV r=fr at h0 hf
 have HF:=Lib.hid hf
 clear h hk hf
 go_enter Tryz.func346,Tryz.ntmps346
 go_wp2_with (first
  | (go_at_call 350;refine H1.out.mono ?_;rintro e w1 ⟨rfl,hw⟩;subst w1)
  | (refine HF.out.mono ?_;rintro e w' ⟨rfl,hqq⟩;have HQ:=Lib.hid hqq;clear hqq))
 go_ret2
 exact ⟨rfl,HQ.out⟩
theorem rstep_let (h:RdAt w q r) (hk:r.k<4) {r':Rd} {Q:World→Prop} (hf:Calls Tryz.prog (viewF r.k) #[recvV r,.pointer (some ⟨q,0,none⟩),.pointer (some ⟨b,0,none⟩)] w fun e w'=>e=.returned (.int .i64 0)∧Q w'∧RdAt w' q r') :
  Calls Tryz.prog 346 #[.pointer (some ⟨q,0,none⟩),.pointer (some ⟨b,0,none⟩)] w fun e w'=>e=.returned (.tuple #[.bool (decide (4≤r'.k)),.int .i64 0])∧∃ w1,Q w1∧RdAt w1 q r'∧w'=w1.setCell ⟨q,4,none⟩ (.int .i64 (up r'.n)):=by
 have H1:=Lib.hid (over_any h)
 rw [decide_eq_false (show ¬ 4≤r.k by omega)] at H1
 have h0:=RbAt.cell0 h
 have hq:=RbAt.lt h
 have hcall:=view_enter r.k
 unfold nextV at h0
 rw [if_pos hk] at h0
 generalize viewF r.k=ff at h0 hf hcall
 generalize recvV r=fr at h0 hf
 have HF:=Lib.hid hf
 have HO:=Lib.hid (fun (w1:World) (h1:RdAt w1 q r')=>over_any (show RdAt (w1.setCell ⟨q,4,none⟩ (.int .i64 (up r'.n))) q { r' with n:=up r'.n } from RbAt.setN h1 _))
 simp only at HO
 generalize hdd:decide (4≤r'.k)=dd at HO ⊢
 clear h hk hf hdd
 unfold up at HO ⊢
 go_enter Tryz.func346,Tryz.ntmps346
 go_wp2_with (first
  | (go_at_call 350;refine H1.out.mono ?_;rintro e w1 ⟨rfl,hw⟩;subst w1;clear H1)
  | (go_at_call 350;refine (HO.out _ HQ.out.2).mono ?_;rintro e w1 ⟨rfl,hw⟩;subst w1;clear HO)
  | (refine HF.out.mono ?_;rintro e w2 ⟨rfl,hqq,hr2⟩;have d4:=RbAt.cell4 hr2;have f4:=RbAt.free hr2 4;have l4:=RbAt.lt hr2;have HQ:=Lib.hid (And.intro hqq hr2);clear hqq hr2 HF))
 go_ret2
 exact ⟨rfl,w2,HQ.out.1,HQ.out.2,rfl⟩
theorem view_let (h:MemAt 145 w b g ws o n) (hr:RdAt w q r) (h1:q≠b) (h2:q≠g) (hk:r.k<4) (hok:errC ws o r.p r.c (wrd r.k)=0):Calls Tryz.prog (viewF r.k) #[recvV r,.pointer (some ⟨q,0,none⟩),.pointer (some ⟨b,0,none⟩)] w fun e w'=>e=.returned (.int .i64 0)∧(MemAt 145 w' b g ws false (up n)∧Ch [b,g,q] w w')∧RdAt w' q (nx0 r (wordC ws r.p r.c (wrd r.k))):=by
 have hc:r.k=0∨r.k=1∨r.k=2∨r.k=3:=by omega
 rcases hc with hc | hc | hc | hc
 ·rw [show viewF r.k=348 by simp [viewF,hc],show wrd r.k=0 by simp [wrd,hc]]
  refine (lv_ok h hr h1 h2 hc (by rw [hc] at hok;exact hok)).mono fun e w' ⟨k1,k2,k3,k4⟩=>⟨k1,⟨k2,k4⟩,k3⟩
 ·rw [show viewF r.k=351 by simp [viewF,hc],show wrd r.k=1 by simp [wrd,hc]]
  refine (ln_ok h hr h1 h2 hc (by rw [hc] at hok;exact hok)).mono fun e w' ⟨k1,k2,k3,k4⟩=>⟨k1,⟨k2,k4⟩,k3⟩
 ·rw [show viewF r.k=353 by simp [viewF,hc],show wrd r.k=0 by simp [wrd,hc]]
  refine (la_ok h hr h1 h2 hc (by rw [hc] at hok;exact hok)).mono fun e w' ⟨k1,k2,k3,k4⟩=>⟨k1,⟨k2,k4⟩,k3⟩
 ·rw [show viewF r.k=352 by simp [viewF,hc],show wrd r.k=2 by simp [wrd,hc]]
  refine (lw_ok h hr h1 h2 hc (by rw [hc] at hok;exact hok)).mono fun e w' ⟨k1,k2,k3,k4⟩=>⟨k1,⟨k2,k4⟩,k3⟩
theorem view_no (h:MemAt 145 w b g ws o n) (hr:RdAt w q r) (h1:q≠b) (h2:q≠g) (hk:r.k<4) (hok:¬ errC ws o r.p r.c (wrd r.k)=0):Calls Tryz.prog (viewF r.k) #[recvV r,.pointer (some ⟨q,0,none⟩),.pointer (some ⟨b,0,none⟩)] w fun e w'=>e=.returned (.int .i64 (errC ws o r.p r.c (wrd r.k)))∧MemAt 145 w' b g ws o n∧RdAt w' q r∧Ch [b,g,q] w w':=by
 have hc:r.k=0∨r.k=1∨r.k=2∨r.k=3:=by omega
 rcases hc with hc | hc | hc | hc
 ·rw [show viewF r.k=348 by simp [viewF,hc],show wrd r.k=0 by simp [wrd,hc]]
  exact lv_no h hr h1 h2 (by rw [hc] at hok;exact hok)
 ·rw [show viewF r.k=351 by simp [viewF,hc],show wrd r.k=1 by simp [wrd,hc]]
  exact ln_no h hr h1 h2 (by rw [hc] at hok;exact hok)
 ·rw [show viewF r.k=353 by simp [viewF,hc],show wrd r.k=0 by simp [wrd,hc]]
  exact la_no h hr h1 h2 (by rw [hc] at hok;exact hok)
 ·rw [show viewF r.k=352 by simp [viewF,hc],show wrd r.k=2 by simp [wrd,hc]]
  exact lw_no h hr h1 h2 (by rw [hc] at hok;exact hok)
def endR (r:Rd) (ws:List Int) (o:Bool):Bool:=decide (errR r ws o=0) && decide (4≤(stepR r ws o).k)
def aftO (e:Int) (o:Bool):Bool:=if e=0 then false else o
def aftN (e n:Int):Int:=if e=0 then up n else n
theorem nx0_n (r:Rd) (u:Int):(nx0 r u).n=r.n:=by unfold nx0;split <;> (try split) <;> (try split) <;> (try split) <;> rfl
theorem rstep_any (h:MemAt 145 w b g ws o n) (hr:RdAt w q r) (h1:q≠b) (h2:q≠g):Calls Tryz.prog 346 #[.pointer (some ⟨q,0,none⟩),.pointer (some ⟨b,0,none⟩)] w fun e w'=>e=.returned (.tuple #[.bool (endR r ws o),.int .i64 (errR r ws o)])∧MemAt 145 w' b g ws (aftO (errR r ws o) o) (aftN (errR r ws o) n)∧RdAt w' q (stepR r ws o)∧Ch [b,g,q] w w':=by
 by_cases hk:r.k<4
 ·have eE:errR r ws o=errC ws o r.p r.c (wrd r.k):=by simp [errR,hk]
  by_cases hok:errC ws o r.p r.c (wrd r.k)=0
  ·refine (rstep_let hr hk (view_let h hr h1 h2 hk hok)).mono fun e w' ⟨he,w1,⟨hm,hch⟩,hr1,hw⟩=>?_
   have e1:errR r ws o=0:=by rw [eE];exact hok
   have e2:stepR r ws o=nxt r (wordC ws r.p r.c (wrd r.k)):=by simp [stepR,e1]
   have e3:endR r ws o=decide (4≤(nx0 r (wordC ws r.p r.c (wrd r.k))).k):=by simp [endR,e1,e2,nxt]
   rw [e3,e2,e1]
   subst hw
   refine ⟨he,?_,?_,hch.set (by simp) _ _⟩
   ·exact hm.other (Ne.symm h1) (Ne.symm h2) _ _
   ·have:=RbAt.setN hr1 (up r.n)
    rw [nx0_n]
    exact this
  ·refine (rstep_err hr hk hok (view_no h hr h1 h2 hk hok)).mono fun e w' ⟨he,hm,hr1,hch⟩=>?_
   have e1:¬ errR r ws o=0:=by rw [eE];exact hok
   have e2:stepR r ws o=r:=by simp [stepR,e1]
   have e3:endR r ws o=false:=by simp [endR,e1]
   rw [e3,e2,aftO,aftN,if_neg e1,if_neg e1,eE]
   exact ⟨he,hm,hr1,hch⟩
 ·refine (rstep_over hr hk).mono fun e w' ⟨he,hw⟩=>?_
  subst hw
  have e1:errR r ws o=3:=by simp [errR,hk]
  have e2:stepR r ws o=r:=by simp [stepR,e1]
  have e3:endR r ws o=false:=by simp [endR,e1]
  rw [e3,e2,e1]
  exact ⟨he,h,hr,Ch.refl _ _⟩
theorem value_any (h:RdAt w q r):Calls Tryz.prog 347 #[.pointer (some ⟨q,0,none⟩)] w fun e w'=>e=.returned (.float .f64 r.y)∧w'=w:=by
 have h0:=RbAt.cell3 h
 have hb:=RbAt.lt h
 clear h
 go_enter Tryz.func347,Tryz.ntmps347
 go_wp2
 go_ret
 exact ⟨rfl,rfl⟩
end
theorem alloc_at {w:World} {x:Obj} {k:Nat} (hk:w.heap.size=k):(w.alloc x).heap[k]?=some x:=by subst hk;exact heap_alloc_new _ _
def planV (a b c d p f:Int):Value:=.agg #[.int .i64 a,.int .i64 b,.int .i64 c,.int .i64 d,.int .i64 p,.int .i64 f]
def newR (p c s:Int):Rd:=⟨p,c,s,0,0,0,0,0,false⟩
theorem read_any (w:World) (a1 a2 a3 a4 p a6 c s:Int):Calls Tryz.prog 341 #[planV a1 a2 a3 a4 p a6,.int .i64 c,.int .u64 s] w fun e w'=>∃ q,e=.returned (.pointer (some ⟨q,0,none⟩))∧w.heap.size≤q∧RdAt w' q (newR p c s)∧Below w.heap.size w w':=by
 unfold planV
 go_enter Tryz.func341,Tryz.ntmps341
 go_wp2
 go_ret
 refine ⟨_,rfl,by omega,?_,(((Below.refl _ _).alloc (Nat.le_refl _) _).alloc (by simp) _).alloc (by simp;omega) _⟩
 exact alloc_at (by simp)
end Go.Proofs.YtlkldgopliablaaGreatDoor.Md.Ce
namespace Go.Proofs.YtlkldgopliablaaGreatDoor.Md.Ce
open Go.ChangeShapes Go.WideShapes Go.ChangeAt Go.RowKit Num
attribute [local go_sem] run_store_float run_store_func run_store_nilFunc
structure Wt where
 p:Int
 c:Int
 a:Int
 v:Int
 z:Int
 d:Nat
theorem bl_alloc {a w:World} (h:Below a.heap.size a w) (x:Obj):Below a.heap.size a (w.alloc x):=h.alloc h.size x
theorem bl_drew {a w:World} (h:Below a.heap.size a w):Below a.heap.size a w.drew:=⟨h.os,h.tape,h.output,h.size,h.block⟩
theorem bl_setCell {a w:World} {k:Nat} (h:Below a.heap.size a w) (hk:a.heap.size≤k) (j:Nat) (u:Value):Below a.heap.size a (w.setCell ⟨k,j,none⟩ u) :=
 ⟨h.os,h.tape,h.output,by simpa using h.size,fun i hi=>(heap_setCell_other w ⟨k,j,none⟩ i u (by show i≠k;omega)).trans (h.block i hi)⟩
theorem bl_setRow {a w:World} {k:Nat} (h:Below a.heap.size a w) (hk:a.heap.size≤k) (x:Array Value):Below a.heap.size a (w.setRow k x) :=
 ⟨h.os,h.tape,h.output,by simpa using h.size,fun i hi=>(setRow_other _ _ _ _ (by omega)).trans (h.block i hi)⟩
theorem chg_cell {b g k:Nat} {u w1:World} (hc:Chg b g u w1) (hk:k<u.heap.size) (h1:k≠b) (h2:k≠g) (j:Nat):w1.cell? ⟨k,j,none⟩=u.cell? ⟨k,j,none⟩:=World.cell?_of_block (a:=⟨k,j,none⟩) (hc.block k hk h1 h2)
def wboxV (t:Wt):Array Value:=#[.int .i64 t.p,.int .i64 t.c,.int .i64 2,.int .u64 t.a,.int .i64 0,.int .u64 t.v,.int .i64 1,.int .u64 t.z,.int .i64 t.d]
def WtAt (w:World) (q:Nat) (t:Wt):Prop:=w.heap[q]?=some (.cells (wboxV t) 283 (0,0))∧t.d≤3
section
variable {w:World} {q:Nat} {t:Wt}
theorem WtAt.lt (h:WtAt w q t):q<w.heap.size:=lt_of_block h.1
theorem WtAt.free (h:WtAt w q t) (j:Nat):w.frozen? ⟨q,j,none⟩=false:=frozen_of_row w q j _ _ h.1
theorem WtAt.cell (h:WtAt w q t) (j:Nat) (v:Value) (hj:(wboxV t)[j]?=some v):w.cell? ⟨q,j,none⟩=some v:=by rw [cell_of_row w q j _ _ _ h.1];exact hj
theorem WtAt.keep {w':World} (h:WtAt w q t) (k:w'.heap[q]?=w.heap[q]?):WtAt w' q t:=⟨k.trans h.1,h.2⟩
theorem WtAt.setD (h:WtAt w q t) (hd:t.d<3):WtAt (w.setCell ⟨q,8,none⟩ (.int .i64 ((t.d+1:Nat):Int))) q { t with d:=t.d+1 }:=⟨(heap_setCell_same w q 8 _ _ _ h.1).trans rfl,hd⟩
end
def wordW (d:Nat):Int:=if d=0 then 2 else if d=1 then 0 else 1
def bitsW (t:Wt):Int:=if t.d=0 then t.a else if t.d=1 then t.v else t.z
theorem wordW_in (d:Nat):0≤wordW d∧wordW d<3:=by unfold wordW;split <;> (try split) <;> omega
def errW (t:Wt) (ws:List Int) (o:Bool):Int:=if t.d<3 then errC ws o t.p t.c (wordW t.d) else 3
def stepW (t:Wt) (ws:List Int) (o:Bool):Wt:=if errW t ws o=0 then { t with d:=t.d+1 } else t
def laidW (t:Wt) (ws:List Int) (o:Bool):List Int:=if errW t ws o=0 then storeC ws t.p t.c (wordW t.d) (bitsW t) else ws
def endW (t:Wt) (ws:List Int) (o:Bool):Bool:=decide (errW t ws o=0) && decide (t.d=2)
section
variable {w:World} {b g q:Nat} {ws:List Int} {o:Bool} {n:Int} {t:Wt}
theorem wover_any (h:WtAt w q t):Calls Tryz.prog 301 #[.pointer (some ⟨q,0,none⟩)] w fun e w'=>e=.returned (.bool (decide (t.d=3)))∧w'=w:=by
 have h8:=h.cell 8 (.int .i64 t.d) rfl
 have hb:=h.lt
 have e:decide ((t.d:Int)=3)=decide (t.d=3):=by rw [decide_eq_decide];omega
 rw [← e]
 clear e h
 go_enter Tryz.func301,Tryz.ntmps301
 go_wp2
 go_ret
 exact ⟨by first | rfl | (congr 1),rfl⟩
theorem wstep_over (h:WtAt w q t) (hk:¬ t.d<3):Calls Tryz.prog 280 #[.pointer (some ⟨q,0,none⟩),.pointer (some ⟨b,0,none⟩)] w fun e w'=>e=.returned (.tuple #[.bool false,.int .i64 3])∧w'=w:=by
 have H1:=Lib.hid (wover_any h)
 rw [decide_eq_true (show t.d=3 by have:=h.2;omega)] at H1
 clear h hk
 go_enter Tryz.func280,Tryz.ntmps280
 go_wp2_with (go_at_call 301;refine H1.out.mono ?_;rintro e w1 ⟨rfl,hw⟩;subst w1)
 go_ret2
 exact ⟨rfl,rfl⟩
theorem wstep_ok (h:MemAt 145 w b g ws o n) (hr:WtAt w q t) (h1:q≠b) (h2:q≠g) (hd:t.d<3) (hok:errC ws o t.p t.c (wordW t.d)=0):Calls Tryz.prog 280 #[.pointer (some ⟨q,0,none⟩),.pointer (some ⟨b,0,none⟩)] w fun e w'=>e=.returned (.tuple #[.bool (decide (t.d=2)),.int .i64 0])∧MemAt 145 w' b g (storeC ws t.p t.c (wordW t.d) (bitsW t)) false (up n)∧WtAt w' q { t with d:=t.d+1 }∧Ch [b,g,q] w w':=by
 have H1:=Lib.hid (wover_any hr)
 rw [decide_eq_false (show ¬ t.d=3 by omega)] at H1
 have HS:=Lib.hid (fun (u:World) (k:Below w.heap.size w u)=>cstore_ok (h.on k) (p:=t.p) (c:=t.c) (j:=wordW t.d) (bitsW t) (wordW_in _) hok)
 have HR:=Lib.hid hr
 have HD:=Lib.hid hd
 have HN:=Lib.hid (And.intro h1 h2)
 have hb:=h.ltB
 have hg:=h.ltG
 have hq:=hr.lt
 have c0:w.cell? ⟨q,0,none⟩=some (.int .i64 t.p):=hr.cell 0 _ rfl
 have c1:w.cell? ⟨q,1,none⟩=some (.int .i64 t.c):=hr.cell 1 _ rfl
 have c2:w.cell? ⟨q,2,none⟩=some (.int .i64 2):=hr.cell 2 _ rfl
 have c3:w.cell? ⟨q,3,none⟩=some (.int .u64 t.a):=hr.cell 3 _ rfl
 have c4:w.cell? ⟨q,4,none⟩=some (.int .i64 0):=hr.cell 4 _ rfl
 have c5:w.cell? ⟨q,5,none⟩=some (.int .u64 t.v):=hr.cell 5 _ rfl
 have c6:w.cell? ⟨q,6,none⟩=some (.int .i64 1):=hr.cell 6 _ rfl
 have c7:w.cell? ⟨q,7,none⟩=some (.int .u64 t.z):=hr.cell 7 _ rfl
 have c8:w.cell? ⟨q,8,none⟩=some (.int .i64 t.d):=hr.cell 8 _ rfl
 have HO:=Lib.hid (fun (w1:World) (k1:WtAt w1 q { t with d:=t.d+1 })=>wover_any k1)
 have e2:decide (t.d+1=3)=decide (t.d=2):=by rw [decide_eq_decide];omega
 simp only [e2] at HO
 have HA:Hid (∀ (u w1:World),Below w.heap.size w u→w.heap.size<u.heap.size→Chg b g u w1→MemAt 145 w1 b g (storeC ws t.p t.c (wordW t.d) (bitsW t)) false (up n)→(w1.cell? ⟨q,0,none⟩=some (.int .i64 t.p)∧w1.cell? ⟨q,1,none⟩=some (.int .i64 t.c)∧w1.cell? ⟨w.heap.size,0,none⟩=u.cell? ⟨w.heap.size,0,none⟩∧w1.cell? ⟨w.heap.size,1,none⟩=u.cell? ⟨w.heap.size,1,none⟩∧w1.cell? ⟨q,8,none⟩=some (.int .i64 t.d)∧w1.frozen? ⟨q,8,none⟩=false∧q<w1.heap.size)∧Hid (WtAt (w1.setCell ⟨q,8,none⟩ (.int .i64 ((t.d+1:Nat):Int))) q { t with d:=t.d+1 }∧MemAt 145 (w1.setCell ⟨q,8,none⟩ (.int .i64 ((t.d+1:Nat):Int))) b g (storeC ws t.p t.c (wordW t.d) (bitsW t)) false (up n)∧Ch [b,g,q] w (w1.setCell ⟨q,8,none⟩ (.int .i64 ((t.d+1:Nat):Int))))):=fun u w1 k hs hc hm=>by
  have k1:WtAt w1 q t:=hr.keep ((hc.block q (Nat.lt_of_lt_of_le hq k.size) h1 h2).trans (k.block q hq))
  exact ⟨⟨k1.cell 0 _ rfl,k1.cell 1 _ rfl,chg_cell hc hs (by omega) (by omega) 0,chg_cell hc hs (by omega) (by omega) 1,k1.cell 8 _ rfl,k1.free 8,k1.lt⟩,k1.setD hd,hm.other (Ne.symm h1) (Ne.symm h2) _ _,((ch_of k _).trans (hc.ch (by simp) (by simp))).set (by simp) _ _⟩
 clear h hr hok hd e2
 generalize hyy:storeC ws t.p t.c (wordW t.d) (bitsW t)=yy at HS HA ⊢
 clear hyy
 obtain ⟨p,c,a,v,z,d⟩:=t
 simp only [wordW,bitsW] at *
 have hd:d=0∨d=1∨d=2:=by have:d<3:=HD.out;omega
 rcases hd with rfl | rfl | rfl
 ·simp at HS HA HO c8
  go_enter Tryz.func280,Tryz.ntmps280
  go_wp2_with (go_at_call 301;refine H1.out.mono ?_;rintro e w1 ⟨rfl,hw⟩;subst w1;clear H1)
  go_region_held (fun u=>u.cell? ⟨q,0,none⟩=some (.int .i64 p)∧u.cell? ⟨q,1,none⟩=some (.int .i64 c)∧u.cell? ⟨q,2,none⟩=some (.int .i64 2)∧u.cell? ⟨q,3,none⟩=some (.int .u64 a)∧u.cell? ⟨q,4,none⟩=some (.int .i64 0)∧u.cell? ⟨q,5,none⟩=some (.int .u64 v)∧u.cell? ⟨q,6,none⟩=some (.int .i64 1)∧u.cell? ⟨q,7,none⟩=some (.int .u64 z)∧u.cell? ⟨q,8,none⟩=some (.int .i64 0)) (go_keep) (fail)
  go_wp2
  go_region_held (fun u=>u.cell? ⟨q,0,none⟩=some (.int .i64 p)∧u.cell? ⟨q,1,none⟩=some (.int .i64 c)∧u.cell? ⟨w.heap.size,0,none⟩=some (.int .i64 2)∧u.cell? ⟨w.heap.size,1,none⟩=some (.int .u64 a)) (go_keep) (first | (go_at_call 302;refine (HS.out _ (by repeat (first | exact Below.refl _ _ | refine bl_drew ?_ | refine bl_drewN _ ?_ | refine bl_alloc ?_ _ | refine bl_setCell ?_ (by simp) _ _ | refine bl_setRow ?_ (by simp) _))).mono ?_;rintro e w2 ⟨rfl,hm,hc⟩;obtain ⟨⟨d0,d1,d2,d3,d4,d5,d6⟩,hx⟩:=HA.out _ _ (by repeat (first | exact Below.refl _ _ | refine bl_drew ?_ | refine bl_drewN _ ?_ | refine bl_alloc ?_ _ | refine bl_setCell ?_ (by simp) _ _ | refine bl_setRow ?_ (by simp) _)) (by simp) hc hm;clear hm hc))
  go_wp2_with (go_at_call 301;refine (HO.out _ hx.out.1).mono ?_;rintro e w1 ⟨rfl,hw⟩;subst w1;clear HO)
  go_ret2
  exact ⟨by first | rfl | simp,hx.out.2.1,hx.out.1,hx.out.2.2⟩
 ·simp at HS HA HO c8
  go_enter Tryz.func280,Tryz.ntmps280
  go_wp2_with (go_at_call 301;refine H1.out.mono ?_;rintro e w1 ⟨rfl,hw⟩;subst w1;clear H1)
  go_region_held (fun u=>u.cell? ⟨q,0,none⟩=some (.int .i64 p)∧u.cell? ⟨q,1,none⟩=some (.int .i64 c)∧u.cell? ⟨q,2,none⟩=some (.int .i64 2)∧u.cell? ⟨q,3,none⟩=some (.int .u64 a)∧u.cell? ⟨q,4,none⟩=some (.int .i64 0)∧u.cell? ⟨q,5,none⟩=some (.int .u64 v)∧u.cell? ⟨q,6,none⟩=some (.int .i64 1)∧u.cell? ⟨q,7,none⟩=some (.int .u64 z)∧u.cell? ⟨q,8,none⟩=some (.int .i64 1)) (go_keep) (fail)
  go_wp2
  go_region_held (fun u=>u.cell? ⟨q,0,none⟩=some (.int .i64 p)∧u.cell? ⟨q,1,none⟩=some (.int .i64 c)∧u.cell? ⟨w.heap.size,0,none⟩=some (.int .i64 0)∧u.cell? ⟨w.heap.size,1,none⟩=some (.int .u64 v)) (go_keep) (first | (go_at_call 302;refine (HS.out _ (by repeat (first | exact Below.refl _ _ | refine bl_drew ?_ | refine bl_drewN _ ?_ | refine bl_alloc ?_ _ | refine bl_setCell ?_ (by simp) _ _ | refine bl_setRow ?_ (by simp) _))).mono ?_;rintro e w2 ⟨rfl,hm,hc⟩;obtain ⟨⟨d0,d1,d2,d3,d4,d5,d6⟩,hx⟩:=HA.out _ _ (by repeat (first | exact Below.refl _ _ | refine bl_drew ?_ | refine bl_drewN _ ?_ | refine bl_alloc ?_ _ | refine bl_setCell ?_ (by simp) _ _ | refine bl_setRow ?_ (by simp) _)) (by simp) hc hm;clear hm hc))
  go_wp2_with (go_at_call 301;refine (HO.out _ hx.out.1).mono ?_;rintro e w1 ⟨rfl,hw⟩;subst w1;clear HO)
  go_ret2
  exact ⟨by first | rfl | simp,hx.out.2.1,hx.out.1,hx.out.2.2⟩
 ·simp at HS HA HO c8
  go_enter Tryz.func280,Tryz.ntmps280
  go_wp2_with (go_at_call 301;refine H1.out.mono ?_;rintro e w1 ⟨rfl,hw⟩;subst w1;clear H1)
  go_region_held (fun u=>u.cell? ⟨q,0,none⟩=some (.int .i64 p)∧u.cell? ⟨q,1,none⟩=some (.int .i64 c)∧u.cell? ⟨q,2,none⟩=some (.int .i64 2)∧u.cell? ⟨q,3,none⟩=some (.int .u64 a)∧u.cell? ⟨q,4,none⟩=some (.int .i64 0)∧u.cell? ⟨q,5,none⟩=some (.int .u64 v)∧u.cell? ⟨q,6,none⟩=some (.int .i64 1)∧u.cell? ⟨q,7,none⟩=some (.int .u64 z)∧u.cell? ⟨q,8,none⟩=some (.int .i64 2)) (go_keep) (fail)
  go_wp2
  go_region_held (fun u=>u.cell? ⟨q,0,none⟩=some (.int .i64 p)∧u.cell? ⟨q,1,none⟩=some (.int .i64 c)∧u.cell? ⟨w.heap.size,0,none⟩=some (.int .i64 1)∧u.cell? ⟨w.heap.size,1,none⟩=some (.int .u64 z)) (go_keep) (first | (go_at_call 302;refine (HS.out _ (by repeat (first | exact Below.refl _ _ | refine bl_drew ?_ | refine bl_drewN _ ?_ | refine bl_alloc ?_ _ | refine bl_setCell ?_ (by simp) _ _ | refine bl_setRow ?_ (by simp) _))).mono ?_;rintro e w2 ⟨rfl,hm,hc⟩;obtain ⟨⟨d0,d1,d2,d3,d4,d5,d6⟩,hx⟩:=HA.out _ _ (by repeat (first | exact Below.refl _ _ | refine bl_drew ?_ | refine bl_drewN _ ?_ | refine bl_alloc ?_ _ | refine bl_setCell ?_ (by simp) _ _ | refine bl_setRow ?_ (by simp) _)) (by simp) hc hm;clear hm hc))
  go_wp2_with (go_at_call 301;refine (HO.out _ hx.out.1).mono ?_;rintro e w1 ⟨rfl,hw⟩;subst w1;clear HO)
  go_ret2
  exact ⟨by first | rfl | simp,hx.out.2.1,hx.out.1,hx.out.2.2⟩
theorem wstep_no (h:MemAt 145 w b g ws o n) (hr:WtAt w q t) (h1:q≠b) (h2:q≠g) (hd:t.d<3) (hok:¬ errC ws o t.p t.c (wordW t.d)=0):Calls Tryz.prog 280 #[.pointer (some ⟨q,0,none⟩),.pointer (some ⟨b,0,none⟩)] w fun e w'=>e=.returned (.tuple #[.bool false,.int .i64 (errC ws o t.p t.c (wordW t.d))])∧MemAt 145 w' b g ws o n∧WtAt w' q t∧Ch [b,g,q] w w':=by
 have H1:=Lib.hid (wover_any hr)
 rw [decide_eq_false (show ¬ t.d=3 by omega)] at H1
 have HS:=Lib.hid (fun (u:World) (k:Below w.heap.size w u)=>cstore_no (h.on k) (p:=t.p) (c:=t.c) (j:=wordW t.d) (bitsW t) (wordW_in _) hok)
 have HD:=Lib.hid hd
 have hb:=h.ltB
 have hg:=h.ltG
 have hq:=hr.lt
 have c0:w.cell? ⟨q,0,none⟩=some (.int .i64 t.p):=hr.cell 0 _ rfl
 have c1:w.cell? ⟨q,1,none⟩=some (.int .i64 t.c):=hr.cell 1 _ rfl
 have c2:w.cell? ⟨q,2,none⟩=some (.int .i64 2):=hr.cell 2 _ rfl
 have c3:w.cell? ⟨q,3,none⟩=some (.int .u64 t.a):=hr.cell 3 _ rfl
 have c4:w.cell? ⟨q,4,none⟩=some (.int .i64 0):=hr.cell 4 _ rfl
 have c5:w.cell? ⟨q,5,none⟩=some (.int .u64 t.v):=hr.cell 5 _ rfl
 have c6:w.cell? ⟨q,6,none⟩=some (.int .i64 1):=hr.cell 6 _ rfl
 have c7:w.cell? ⟨q,7,none⟩=some (.int .u64 t.z):=hr.cell 7 _ rfl
 have c8:w.cell? ⟨q,8,none⟩=some (.int .i64 t.d):=hr.cell 8 _ rfl
 have HA:Hid (∀ (u w1:World),Below w.heap.size w u→w.heap.size<u.heap.size→Chg b g u w1→MemAt 145 w1 b g ws o n→(w1.cell? ⟨q,0,none⟩=some (.int .i64 t.p)∧w1.cell? ⟨q,1,none⟩=some (.int .i64 t.c)∧w1.cell? ⟨w.heap.size,0,none⟩=u.cell? ⟨w.heap.size,0,none⟩∧w1.cell? ⟨w.heap.size,1,none⟩=u.cell? ⟨w.heap.size,1,none⟩)∧Hid (MemAt 145 w1 b g ws o n∧WtAt w1 q t∧Ch [b,g,q] w w1)):=fun u w1 k hs hc hm=>by
  have k1:WtAt w1 q t:=hr.keep ((hc.block q (Nat.lt_of_lt_of_le hq k.size) h1 h2).trans (k.block q hq))
  exact ⟨⟨k1.cell 0 _ rfl,k1.cell 1 _ rfl,chg_cell hc hs (by omega) (by omega) 0,chg_cell hc hs (by omega) (by omega) 1⟩,hm,hr.keep ((hc.block q (Nat.lt_of_lt_of_le hq k.size) h1 h2).trans (k.block q hq)),((ch_of k _).trans (hc.ch (by simp) (by simp)))⟩
 clear h hr hd
 generalize errC ws o t.p t.c (wordW t.d)=x at HS hok ⊢
 obtain ⟨p,c,a,v,z,d⟩:=t
 simp only [wordW,bitsW] at *
 have hd:d=0∨d=1∨d=2:=by have:d<3:=HD.out;omega
 rcases hd with rfl | rfl | rfl
 ·simp at HS HA c8
  go_enter Tryz.func280,Tryz.ntmps280
  go_wp2_with (go_at_call 301;refine H1.out.mono ?_;rintro e w1 ⟨rfl,hw⟩;subst w1;clear H1)
  go_region_held (fun u=>u.cell? ⟨q,0,none⟩=some (.int .i64 p)∧u.cell? ⟨q,1,none⟩=some (.int .i64 c)∧u.cell? ⟨q,2,none⟩=some (.int .i64 2)∧u.cell? ⟨q,3,none⟩=some (.int .u64 a)∧u.cell? ⟨q,4,none⟩=some (.int .i64 0)∧u.cell? ⟨q,5,none⟩=some (.int .u64 v)∧u.cell? ⟨q,6,none⟩=some (.int .i64 1)∧u.cell? ⟨q,7,none⟩=some (.int .u64 z)∧u.cell? ⟨q,8,none⟩=some (.int .i64 0)) (go_keep) (fail)
  go_wp2
  go_region_held (fun u=>u.cell? ⟨q,0,none⟩=some (.int .i64 p)∧u.cell? ⟨q,1,none⟩=some (.int .i64 c)∧u.cell? ⟨w.heap.size,0,none⟩=some (.int .i64 2)∧u.cell? ⟨w.heap.size,1,none⟩=some (.int .u64 a)) (go_keep) (first | (go_at_call 302;refine (HS.out _ (by repeat (first | exact Below.refl _ _ | refine bl_drew ?_ | refine bl_drewN _ ?_ | refine bl_alloc ?_ _ | refine bl_setCell ?_ (by simp) _ _ | refine bl_setRow ?_ (by simp) _))).mono ?_;rintro e w2 ⟨rfl,hm,hc⟩;obtain ⟨⟨d0,d1,d2,d3⟩,hx⟩:=HA.out _ _ (by repeat (first | exact Below.refl _ _ | refine bl_drew ?_ | refine bl_drewN _ ?_ | refine bl_alloc ?_ _ | refine bl_setCell ?_ (by simp) _ _ | refine bl_setRow ?_ (by simp) _)) (by simp) hc hm;clear hm hc))
  go_wp2
  go_ret2
  exact ⟨rfl,hx.out⟩
 ·simp at HS HA c8
  go_enter Tryz.func280,Tryz.ntmps280
  go_wp2_with (go_at_call 301;refine H1.out.mono ?_;rintro e w1 ⟨rfl,hw⟩;subst w1;clear H1)
  go_region_held (fun u=>u.cell? ⟨q,0,none⟩=some (.int .i64 p)∧u.cell? ⟨q,1,none⟩=some (.int .i64 c)∧u.cell? ⟨q,2,none⟩=some (.int .i64 2)∧u.cell? ⟨q,3,none⟩=some (.int .u64 a)∧u.cell? ⟨q,4,none⟩=some (.int .i64 0)∧u.cell? ⟨q,5,none⟩=some (.int .u64 v)∧u.cell? ⟨q,6,none⟩=some (.int .i64 1)∧u.cell? ⟨q,7,none⟩=some (.int .u64 z)∧u.cell? ⟨q,8,none⟩=some (.int .i64 1)) (go_keep) (fail)
  go_wp2
  go_region_held (fun u=>u.cell? ⟨q,0,none⟩=some (.int .i64 p)∧u.cell? ⟨q,1,none⟩=some (.int .i64 c)∧u.cell? ⟨w.heap.size,0,none⟩=some (.int .i64 0)∧u.cell? ⟨w.heap.size,1,none⟩=some (.int .u64 v)) (go_keep) (first | (go_at_call 302;refine (HS.out _ (by repeat (first | exact Below.refl _ _ | refine bl_drew ?_ | refine bl_drewN _ ?_ | refine bl_alloc ?_ _ | refine bl_setCell ?_ (by simp) _ _ | refine bl_setRow ?_ (by simp) _))).mono ?_;rintro e w2 ⟨rfl,hm,hc⟩;obtain ⟨⟨d0,d1,d2,d3⟩,hx⟩:=HA.out _ _ (by repeat (first | exact Below.refl _ _ | refine bl_drew ?_ | refine bl_drewN _ ?_ | refine bl_alloc ?_ _ | refine bl_setCell ?_ (by simp) _ _ | refine bl_setRow ?_ (by simp) _)) (by simp) hc hm;clear hm hc))
  go_wp2
  go_ret2
  exact ⟨rfl,hx.out⟩
 ·simp at HS HA c8
  go_enter Tryz.func280,Tryz.ntmps280
  go_wp2_with (go_at_call 301;refine H1.out.mono ?_;rintro e w1 ⟨rfl,hw⟩;subst w1;clear H1)
  go_region_held (fun u=>u.cell? ⟨q,0,none⟩=some (.int .i64 p)∧u.cell? ⟨q,1,none⟩=some (.int .i64 c)∧u.cell? ⟨q,2,none⟩=some (.int .i64 2)∧u.cell? ⟨q,3,none⟩=some (.int .u64 a)∧u.cell? ⟨q,4,none⟩=some (.int .i64 0)∧u.cell? ⟨q,5,none⟩=some (.int .u64 v)∧u.cell? ⟨q,6,none⟩=some (.int .i64 1)∧u.cell? ⟨q,7,none⟩=some (.int .u64 z)∧u.cell? ⟨q,8,none⟩=some (.int .i64 2)) (go_keep) (fail)
  go_wp2
  go_region_held (fun u=>u.cell? ⟨q,0,none⟩=some (.int .i64 p)∧u.cell? ⟨q,1,none⟩=some (.int .i64 c)∧u.cell? ⟨w.heap.size,0,none⟩=some (.int .i64 1)∧u.cell? ⟨w.heap.size,1,none⟩=some (.int .u64 z)) (go_keep) (first | (go_at_call 302;refine (HS.out _ (by repeat (first | exact Below.refl _ _ | refine bl_drew ?_ | refine bl_drewN _ ?_ | refine bl_alloc ?_ _ | refine bl_setCell ?_ (by simp) _ _ | refine bl_setRow ?_ (by simp) _))).mono ?_;rintro e w2 ⟨rfl,hm,hc⟩;obtain ⟨⟨d0,d1,d2,d3⟩,hx⟩:=HA.out _ _ (by repeat (first | exact Below.refl _ _ | refine bl_drew ?_ | refine bl_drewN _ ?_ | refine bl_alloc ?_ _ | refine bl_setCell ?_ (by simp) _ _ | refine bl_setRow ?_ (by simp) _)) (by simp) hc hm;clear hm hc))
  go_wp2
  go_ret2
  exact ⟨rfl,hx.out⟩
theorem wstep_any (h:MemAt 145 w b g ws o n) (hr:WtAt w q t) (h1:q≠b) (h2:q≠g):Calls Tryz.prog 280 #[.pointer (some ⟨q,0,none⟩),.pointer (some ⟨b,0,none⟩)] w fun e w'=>e=.returned (.tuple #[.bool (endW t ws o),.int .i64 (errW t ws o)])∧MemAt 145 w' b g (laidW t ws o) (aftO (errW t ws o) o) (aftN (errW t ws o) n)∧WtAt w' q (stepW t ws o)∧Ch [b,g,q] w w':=by
 by_cases hd:t.d<3
 ·have eE:errW t ws o=errC ws o t.p t.c (wordW t.d):=by simp [errW,hd]
  by_cases hok:errC ws o t.p t.c (wordW t.d)=0
  ·have e1:errW t ws o=0:=by rw [eE];exact hok
   have e2:endW t ws o=decide (t.d=2):=by simp [endW,e1]
   rw [e2,laidW,stepW,if_pos e1,if_pos e1,e1]
   exact wstep_ok h hr h1 h2 hd hok
  ·have e1:¬ errW t ws o=0:=by rw [eE];exact hok
   have e2:endW t ws o=false:=by simp [endW,e1]
   rw [e2,laidW,stepW,aftO,aftN,if_neg e1,if_neg e1,if_neg e1,if_neg e1,eE]
   exact wstep_no h hr h1 h2 hd hok
 ·have e1:errW t ws o=3:=by simp [errW,hd]
  have e3:¬ errW t ws o=0:=by rw [e1];decide
  have e2:endW t ws o=false:=by simp [endW,e1]
  rw [e2,laidW,stepW,aftO,aftN,if_neg e3,if_neg e3,if_neg e3,if_neg e3,e1]
  refine (wstep_over hr hd).mono fun e w' ⟨he,hw⟩=>?_
  subst hw
  exact ⟨he,h,hr,Ch.refl _ _⟩
end
def newW (p c v:Int) (x y:Nat):Wt:=⟨p,c,fixB x,v,fixB y,0⟩
theorem write_any (w:World) (a1 a2 a3 a4 p a6 c v:Int) (x y:Nat):Calls Tryz.prog 267 #[planV a1 a2 a3 a4 p a6,.int .i64 c,.int .u64 v,.float .f64 x,.float .f64 y] w fun e w'=>∃ q,e=.returned (.pointer (some ⟨q,0,none⟩))∧w.heap.size≤q∧WtAt w' q (newW p c v x y)∧Below w.heap.size w w':=by
 unfold planV
 go_enter Tryz.func267,Tryz.ntmps267
 go_wp2
 go_region_held (fun u=>u.cell? ⟨w.heap.size,4,none⟩=some (.int .i64 p)) (go_keep) (first | (go_at_call 106;refine (bits_any _ _).mono ?_;rintro e w1 ⟨rfl,hw⟩;subst w1))
 go_wp2
 go_ret
 refine ⟨_,rfl,by omega,⟨alloc_at (by simp),Nat.zero_le _⟩,(by repeat (first | exact Below.refl _ _ | refine bl_drew ?_ | refine bl_drewN _ ?_ | refine bl_alloc ?_ _ | refine bl_setCell ?_ (by simp) _ _ | refine bl_setRow ?_ (by simp) _))⟩
end Go.Proofs.YtlkldgopliablaaGreatDoor.Md.Ce
namespace Go.Proofs.YtlkldgopliablaaGreatDoor.Md.Ce
open Go.ChangeShapes Go.WideShapes Go.ChangeAt Go.RowKit Num
attribute [local go_sem] run_store_float run_store_func run_store_nilFunc
theorem box2 {w:World} {x:Nat} {v0 v1:Value} {T:TypeId} (h:w.heap[x]?=some (.cells #[v0,v1] T (0,0))):(w.cell? ⟨x,0,none⟩=some v0∧w.cell? ⟨x,1,none⟩=some v1∧x<w.heap.size) :=
 ⟨by rw [cell_of_row w x 0 _ _ _ h];rfl,by rw [cell_of_row w x 1 _ _ _ h];rfl,lt_of_block h⟩
theorem box3 {w:World} {x:Nat} {v0 v1 v2:Value} {T:TypeId} (h:w.heap[x]?=some (.cells #[v0,v1,v2] T (0,0))):(w.cell? ⟨x,0,none⟩=some v0∧w.cell? ⟨x,1,none⟩=some v1∧w.cell? ⟨x,2,none⟩=some v2∧x<w.heap.size)∧w.frozen? ⟨x,0,none⟩=false∧w.frozen? ⟨x,1,none⟩=false∧w.frozen? ⟨x,2,none⟩=false :=
 ⟨⟨by rw [cell_of_row w x 0 _ _ _ h];rfl,by rw [cell_of_row w x 1 _ _ _ h];rfl,by rw [cell_of_row w x 2 _ _ _ h];rfl,lt_of_block h⟩,frozen_of_row w x 0 _ _ h,frozen_of_row w x 1 _ _ h,frozen_of_row w x 2 _ _ h⟩
def tripV (v x y:Int):Value:=.agg #[.int .u64 v,.int .u64 x,.int .u64 y]
def tripC (v x y:Int):Array Value:=#[.int .u64 v,.int .u64 x,.int .u64 y]
theorem trip_back2 {fn:Func} {p u:Tmp} (h:fn.results=#[.cell p 118,.tmp u]) {Q:Ending→World→Prop} {a:Act} {w:World} (g:Nat) (v x y:Int) (e:Int) (hp:a.tmps.getD p undef=.pointer (some ⟨g,0,none⟩)) (hu:a.tmps.getD u undef=.int .i64 e)
  (hg:w.heap[g]?=some (.cells (tripC v x y) 118 (0,0))) (hd:a.defers=[]) (hR:Q (.returned (.tuple #[tripV v x y,.int .i64 e])) w):bodyPost Tryz.prog fn Q .ret a w:=by
 refine bodyPost_ret (v:=.tuple #[tripV v x y,.int .i64 e]) ?_ hd hR
 rw [results_cell_tmp h,hp,hu]
 have hl:=run_loadVar_row (P:=Tryz.prog) w g 118 118 (tripC v x y) (0,0) _ hg Tryz.underlying118 rfl (by kernel_rfl)
 simp [asAddr,hl,Result.andThen]
 rfl
theorem trip_set {w:World} {x:Nat} {v0 v1 v2 u0 u1 u2:Value} {T:TypeId} (h:w.heap[x]?=some (.cells #[v0,v1,v2] T (0,0))):(((w.setCell ⟨x,0,none⟩ u0).setCell ⟨x,1,none⟩ u1).setCell ⟨x,2,none⟩ u2).heap[x]?=some (.cells #[u0,u1,u2] T (0,0)):=by
 have k0:=heap_setCell_same w x 0 _ _ u0 h
 have k1:=heap_setCell_same _ x 1 _ _ u1 k0
 exact (heap_setCell_same _ x 2 _ _ u2 k1).trans rfl
structure Pk (w wr:World) (p c:Int):Prop where
 below:Below w.heap.size w wr
 ans:wr.heap[w.heap.size+1]?=some (.cells #[.int .u64 0,.int .u64 0,.int .u64 0] 118 (0,0))
 spot:wr.heap[w.heap.size+1+1]?=some (.cells #[.int .i64 p,.int .i64 c] 175 (0,0))
theorem Pk.on {w wr u:World} {p c:Int} (h:Pk w wr p c) (k:Below wr.heap.size wr u):Pk w u p c :=
 ⟨below_step h.below k,(k.block _ (lt_of_block h.ans)).trans h.ans,(k.block _ (lt_of_block h.spot)).trans h.spot⟩
theorem pk_new {w w1:World} {A:Obj} {p c:Int} (k:Below (((w.alloc A).alloc (.cells #[.int .u64 0,.int .u64 0,.int .u64 0] 118)).alloc (.cells #[.int .i64 p,.int .i64 c] 175)).heap.size (((w.alloc A).alloc (.cells #[.int .u64 0,.int .u64 0,.int .u64 0] 118)).alloc (.cells #[.int .i64 p,.int .i64 c] 175)) w1):Pk w w1 p c :=
 ⟨below_step (bl_alloc (bl_alloc (bl_alloc (Below.refl _ _) _) _) _) k,(k.block _ (by simp)).trans ((Below.heap_alloc _ _ _ (by simp)).trans (alloc_at (by simp))),(k.block _ (by simp)).trans (alloc_at (by simp))⟩
def PkL (ws:List Int) (p c:Int) (k:Nat):List Int:=[if 0<k then wordC ws p c 0 else 0,if 1<k then wordC ws p c 1 else 0,if 2<k then wordC ws p c 2 else 0]
theorem PkL_set (ws:List Int) (p c:Int) {k:Nat} (hk:k<3):(PkL ws p c k).set k (wordC ws p c k)=PkL ws p c (k+1):=by
 have:k=0∨k=1∨k=2:=by omega
 rcases this with rfl | rfl | rfl <;> simp [PkL]
theorem pk_store {w u:World} {ws:List Int} {p c:Int} {gl k:Nat} (h:Pk w u p c∧u.heap[gl]?=some (.cells (u64s (PkL ws p c k)).toArray 176 (0,0))) (hg:w.heap.size+1+1<gl) (hk:k<3) :
  ((∃ y,u.cell? ⟨gl,k,none⟩=some (.int .u64 y))∧u.frozen? ⟨gl,k,none⟩=false∧gl<u.heap.size)∧Hid (Pk w (u.setCell ⟨gl,k,none⟩ (.int .u64 (wordAt ws (placeI p c k)))) p c∧(u.setCell ⟨gl,k,none⟩ (.int .u64 (wordAt ws (placeI p c k)))).heap[gl]?=some (.cells (u64s (PkL ws p c (k+1))).toArray 176 (0,0))):=by
 refine ⟨⟨⟨(PkL ws p c k).getD k 0,?_⟩,frozen_of_row _ _ _ _ _ h.2,lt_of_block h.2⟩,⟨⟨bl_setCell h.1.below (by omega) _ _,?_,?_⟩,?_⟩⟩
 ·rw [cell_of_row _ _ _ _ _ _ h.2]
  have hl:k<(PkL ws p c k).length:=by simpa [PkL] using hk
  simp [u64s,hl]
 ·exact (heap_setCell_other _ _ _ _ (by show w.heap.size+1≠gl;omega)).trans h.1.ans
 ·exact (heap_setCell_other _ _ _ _ (by show w.heap.size+1+1≠gl;omega)).trans h.1.spot
 ·rw [heap_setCell_same _ _ _ _ _ _ h.2,← PkL_set ws p c hk,← u64s_set,List.setIfInBounds_toArray]
  rfl
section
variable {w:World} {b g:Nat} {ws:List Int} {o:Bool} {n:Int}
theorem cpeek_no (a1 a2 a3 a4 p a6 c:Int) (hc:mayC c=false) (w:World):Calls Tryz.prog 61 #[.pointer (some ⟨b,0,none⟩),planV a1 a2 a3 a4 p a6,.int .i64 c] w fun e w'=>e=.returned (.tuple #[tripV 0 0 0,.int .i64 60])∧Below w.heap.size w w':=by
 have H1:=Lib.hid (smay_any p c)
 simp only [hc] at H1
 unfold planV
 clear hc
 go_enter Tryz.func61,Tryz.ntmps61
 go_wp2_with (go_at_call 98;refine (H1.out _).mono ?_;rintro e w1 ⟨rfl,hw⟩;have HP:=Lib.hid (pk_new hw);obtain ⟨⟨q0,q1,q2,q3⟩,q4,q5,q6⟩:=box3 HP.out.ans;clear hw)
 refine trip_back2 rfl (w.heap.size+1) 0 0 0 60 rfl rfl (trip_set HP.out.ans) rfl ⟨rfl,?_⟩
 refine bl_setCell (bl_setCell (bl_setCell HP.out.below (by omega) _ _) (by omega) _ _) (by omega) _ _
theorem cpeek_may (h:MemAt 145 w b g ws o n) (a1 a2 a3 a4 p a6 c:Int) (hc:mayC c=true):Calls Tryz.prog 61 #[.pointer (some ⟨b,0,none⟩),planV a1 a2 a3 a4 p a6,.int .i64 c] w fun e w'=>(e=.returned (.tuple #[tripV (wordC ws p c 0) (wordC ws p c 1) (wordC ws p c 2),.int .i64 0])∧(∀ j:Nat,j<3→hasB ws (placeI p c j)=true)∨e=.returned (.tuple #[tripV 0 0 0,.int .i64 30])∧∃ j:Nat,j<3∧hasB ws (placeI p c j)=false)∧Below w.heap.size w w':=by
 have H1:=Lib.hid (smay_any p c)
 simp only [hc] at H1
 unfold planV
 have HPL:=Lib.hid (fun (j:Int) (hj:0≤j∧j<3)=>splace_any p c j hc hj)
 have HPK:=Lib.hid (fun (u:World) (k:Below w.heap.size w u) (j:Int)=>peek_any (h.on k) j)
 clear h hc
 go_enter Tryz.func61,Tryz.ntmps61
 go_wp2_with (go_at_call 98;refine (H1.out _).mono ?_;rintro e w1 ⟨rfl,hw⟩;have HP:=Lib.hid (pk_new hw);clear hw)
 obtain ⟨gl,hgl⟩:∃ gl,w1.heap.size=gl:=⟨_,rfl⟩
 have HG:Hid (w.heap.size+1+1<gl):=by show _<_;rw [← hgl];exact lt_of_block HP.out.spot
 have HL0:Hid (Pk w (w1.alloc (.cells #[.int .u64 0,.int .u64 0,.int .u64 0] 176)) p c∧(w1.alloc (.cells #[.int .u64 0,.int .u64 0,.int .u64 0] 176)).heap[gl]?=some (.cells (u64s (PkL ws p c 0)).toArray 176 (0,0))):=⟨HP.out.on (bl_alloc (Below.refl _ _) _),alloc_at hgl⟩
 rw [hgl]
 clear HP hgl
 go_loopw [21] (fun vi wr=>∃ k:Nat,vi=.int .i64 k∧k≤3∧Hid ((Pk w wr p c∧wr.heap[gl]?=some (.cells (u64s (PkL ws p c k)).toArray 176 (0,0)))∧∀ j:Nat,j<k→hasB ws (placeI p c j)=true)) (fun vi _=>3 - (intOf vi).toNat)
 case atStart=>exact ⟨0,rfl,by omega,HL0.out,fun j hj=>absurd hj (Nat.not_lt_zero j)⟩
 case round =>
  clear HL0
  obtain ⟨k,rfl,hk,HR⟩:=hrel
  by_cases hlt:k<3
  ·have hlt':(k:Int)<3:=by omega
   obtain ⟨q0,q1,q2⟩:=box2 HR.out.1.1.spot
   have hsz:=HR.out.1.1.below.size
   have HPLK:=Lib.hid (HPL.out k ⟨by omega,by omega⟩)
   have HAR:Hid (∀ u,Below wr.heap.size wr u→(Pk w u p c∧u.heap[gl]?=some (.cells (u64s (PkL ws p c k)).toArray 176 (0,0)))):=fun u hu=>⟨HR.out.1.1.on hu,(hu.block gl (lt_of_block HR.out.1.2)).trans HR.out.1.2⟩
   cases hh:hasB ws (placeI p c k)
   ·have HEX:Hid (∃ j:Nat,j<3∧hasB ws (placeI p c j)=false):=⟨k,hlt,hh⟩
    have HPKK:=Lib.hid (fun (u:World) (z:Below w.heap.size w u)=>HPK.out u z (placeI p c k))
    simp only [errP,hh] at HPKK
    generalize placeI p c k=ii at HPLK HPKK hh
    clear hh hk HR
    go_wp2_with (first
     | (go_at_call 99;refine (HPLK.out _).mono ?_;rintro e w2 ⟨rfl,hw⟩;have HP2:=Lib.hid (HAR.out _ hw);obtain ⟨⟨q0,q1,q2,q3⟩,q4,q5,q6⟩:=box3 HP2.out.1.ans;clear hw)
     | (go_at_call 60;refine (HPKK.out _ HP2.out.1.below).mono ?_;rintro e w3 ⟨rfl,hw⟩;subst w3))
    refine trip_back2 rfl (w.heap.size+1) 0 0 0 30 rfl rfl (trip_set HP2.out.1.ans) rfl ⟨.inr ⟨rfl,HEX.out⟩,?_⟩
    exact bl_setCell (bl_setCell (bl_setCell HP2.out.1.below (by omega) _ _) (by omega) _ _) (by omega) _ _
   ·have HALL:Hid (∀ j:Nat,j<k+1→hasB ws (placeI p c j)=true):=fun j hj=>by
     by_cases e:j=k
     ·subst e;exact hh
     ·exact HR.out.2 j (by omega)
    have HPKK:=Lib.hid (fun (u:World) (z:Below w.heap.size w u)=>HPK.out u z (placeI p c k))
    simp only [errP,hh] at HPKK
    have HST:Hid (∀ u:World,(Pk w u p c∧u.heap[gl]?=some (.cells (u64s (PkL ws p c k)).toArray 176 (0,0)))→((∃ y,u.cell? ⟨gl,k,none⟩=some (.int .u64 y))∧u.frozen? ⟨gl,k,none⟩=false∧gl<u.heap.size)∧Hid (Pk w (u.setCell ⟨gl,k,none⟩ (.int .u64 (wordAt ws (placeI p c k)))) p c∧(u.setCell ⟨gl,k,none⟩ (.int .u64 (wordAt ws (placeI p c k)))).heap[gl]?=some (.cells (u64s (PkL ws p c (k+1))).toArray 176 (0,0)))):=fun u hu=>pk_store hu HG.out hlt
    generalize placeI p c k=ii at HPLK HPKK hh HST
    generalize wordAt ws ii=yy at HPKK HST
    clear hh hk HR
    go_wp2_with (first
     | (go_at_call 99;refine (HPLK.out _).mono ?_;rintro e w2 ⟨rfl,hw⟩;have HP2:=Lib.hid (HAR.out _ hw);obtain ⟨⟨⟨y0,q0⟩,q1,q2⟩,HX⟩:=HST.out _ HP2.out;clear hw)
     | (go_at_call 60;refine (HPKK.out _ HP2.out.1.below).mono ?_;rintro e w3 ⟨rfl,hw⟩;subst w3))
    exact ⟨⟨k+1,by first | rfl | (congr 1),by omega,HX.out,HALL.out⟩,by simp [intOf];omega⟩
  ·have hlt':¬ (k:Int)<3:=by omega
   obtain rfl:k=3:=by omega
   have HALL:=Lib.hid HR.out.2
   have HP2:=Lib.hid HR.out.1
   obtain ⟨⟨q0,q1,q2,q3⟩,q4,q5,q6⟩:=box3 HP2.out.1.ans
   obtain ⟨⟨r0,r1,r2,r3⟩,_⟩:=box3 (v0:=.int .u64 (wordC ws p c 0)) (v1:=.int .u64 (wordC ws p c 1)) (v2:=.int .u64 (wordC ws p c 2)) HP2.out.2
   clear HR HPL HPK hlt hk
   go_wp2
   refine trip_back2 rfl (w.heap.size+1) (wordC ws p c 0) (wordC ws p c 1) (wordC ws p c 2) 0 rfl rfl (trip_set HP2.out.1.ans) rfl ⟨.inl ⟨rfl,HALL.out⟩,?_⟩
   exact bl_setCell (bl_setCell (bl_setCell HP2.out.1.below (by omega) _ _) (by omega) _ _) (by omega) _ _
def okP (ws:List Int) (p c:Int):Bool:=hasB ws (placeI p c 0) && hasB ws (placeI p c 1) && hasB ws (placeI p c 2)
def peekE (ws:List Int) (p c:Int):Int:=if mayC c then (if okP ws p c then 0 else 30) else 60
def peekW (ws:List Int) (p c j:Int):Int:=if peekE ws p c=0 then wordC ws p c j else 0
theorem cpeek_any (h:MemAt 145 w b g ws o n) (a1 a2 a3 a4 p a6 c:Int):Calls Tryz.prog 61 #[.pointer (some ⟨b,0,none⟩),planV a1 a2 a3 a4 p a6,.int .i64 c] w fun e w'=>e=.returned (.tuple #[tripV (peekW ws p c 0) (peekW ws p c 1) (peekW ws p c 2),.int .i64 (peekE ws p c)])∧Below w.heap.size w w':=by
 cases hc:mayC c
 ·have e1:peekE ws p c=60:=by simp [peekE,hc]
  have e2:∀ j,peekW ws p c j=0:=fun j=>by simp [peekW,e1]
  rw [e2,e2,e2,e1]
  exact cpeek_no a1 a2 a3 a4 p a6 c hc w
 ·refine (cpeek_may h a1 a2 a3 a4 p a6 c hc).mono fun e w' ⟨he,hb⟩=>⟨?_,hb⟩
  rcases he with ⟨he,ha⟩ | ⟨he,j,hj,hn⟩
  ·have e1:peekE ws p c=0:=by
    have h0:=ha 0 (by omega)
    have h1:=ha 1 (by omega)
    have h2:=ha 2 (by omega)
    simp at h0 h1 h2
    simp [peekE,hc,okP,h0,h1,h2]
   have e2:∀ j,peekW ws p c j=wordC ws p c j:=fun j=>by simp [peekW,e1]
   rw [e2,e2,e2,e1]
   exact he
  ·have e0:okP ws p c=false:=by
    have:j=0∨j=1∨j=2:=by omega
    rcases this with rfl | rfl | rfl <;> simp at hn <;> simp [okP,hn]
   have e1:peekE ws p c=30:=by simp [peekE,hc,e0]
   have e2:∀ j,peekW ws p c j=0:=fun j=>by simp [peekW,e1]
   rw [e2,e2,e2,e1]
   exact he
def nowV (ws:List Int) (o:Bool) (p c:Int):Nat:=if errC ws o p c 1=0 then fixB (wordC ws p c 1).toNat else 0
theorem cnow_any (h:MemAt 145 w b g ws o n) (a1 a2 a3 a4 p a6 c:Int):Calls Tryz.prog 227 #[.pointer (some ⟨b,0,none⟩),planV a1 a2 a3 a4 p a6,.int .i64 c] w fun e w'=>e=.returned (.tuple #[.float .f64 (nowV ws o p c),.int .i64 (errC ws o p c 1)])∧MemAt 145 w' b g ws (aftO (errC ws o p c 1) o) (aftN (errC ws o p c 1) n)∧Chg b g w w':=by
 unfold planV
 by_cases hok:errC ws o p c 1=0
 ·have HL:=Lib.hid (fun (u:World) (k:Below w.heap.size w u)=>cload_ok (h.on k) (p:=p) (c:=c) (j:=1) (by omega) hok)
  rw [nowV,if_pos hok,hok]
  generalize wordC ws p c 1=x at HL ⊢
  clear h hok
  go_enter Tryz.func227,Tryz.ntmps227
  go_wp2_with (first
   | (go_at_call 241;refine (HL.out _ (by repeat (first | exact Below.refl _ _ | refine bl_drew ?_ | refine bl_drewN _ ?_ | refine bl_alloc ?_ _ | refine bl_setCell ?_ (by simp) _ _ | refine bl_setRow ?_ (by simp) _))).mono ?_;rintro e w1 ⟨rfl,hm,hc⟩;have HX:=Lib.hid (And.intro hm (chg_from (a:=w) (by repeat (first | exact Below.refl _ _ | refine bl_drew ?_ | refine bl_drewN _ ?_ | refine bl_alloc ?_ _ | refine bl_setCell ?_ (by simp) _ _ | refine bl_setRow ?_ (by simp) _)) hc));clear hm hc)
   | (go_at_call 100;refine (of_int _ _).mono ?_;rintro e w2 ⟨rfl,hw⟩;subst w2))
  go_ret2
  exact ⟨rfl,HX.out⟩
 ·have HL:=Lib.hid (fun (u:World) (k:Below w.heap.size w u)=>cload_no (h.on k) (p:=p) (c:=c) (j:=1) (by omega) hok)
  rw [nowV,aftO,aftN,if_neg hok,if_neg hok,if_neg hok]
  generalize errC ws o p c 1=x at HL hok ⊢
  clear h
  go_enter Tryz.func227,Tryz.ntmps227
  go_wp2_with (go_at_call 241;refine (HL.out _ (by repeat (first | exact Below.refl _ _ | refine bl_drew ?_ | refine bl_drewN _ ?_ | refine bl_alloc ?_ _ | refine bl_setCell ?_ (by simp) _ _ | refine bl_setRow ?_ (by simp) _))).mono ?_;rintro e w1 ⟨rfl,hm,hc⟩;have HX:=Lib.hid (And.intro hm (chg_from (a:=w) (by repeat (first | exact Below.refl _ _ | refine bl_drew ?_ | refine bl_drewN _ ?_ | refine bl_alloc ?_ _ | refine bl_setCell ?_ (by simp) _ _ | refine bl_setRow ?_ (by simp) _)) hc));clear hm hc)
  go_ret2
  exact ⟨rfl,HX.out⟩
end
def atV (v x y s:Int):Nat:=if s<v then fixB y.toNat else fixB x.toNat
theorem cat_any (v x y s:Int) (w:World):Calls Tryz.prog 62 #[tripV v x y,.int .u64 s] w fun e w'=>e=.returned (.float .f64 (atV v x y s))∧Below w.heap.size w w':=by
 unfold tripV atV
 by_cases h:s<v
 ·rw [if_pos h]
  go_enter Tryz.func62,Tryz.ntmps62
  go_wp2_with (go_at_call 100;refine (of_int _ _).mono ?_;rintro e w2 ⟨rfl,hw⟩;subst w2)
  go_ret
  exact ⟨rfl,(by repeat (first | exact Below.refl _ _ | refine bl_drew ?_ | refine bl_drewN _ ?_ | refine bl_alloc ?_ _ | refine bl_setCell ?_ (by simp) _ _ | refine bl_setRow ?_ (by simp) _))⟩
 ·rw [if_neg h]
  go_enter Tryz.func62,Tryz.ntmps62
  go_wp2_with (go_at_call 100;refine (of_int _ _).mono ?_;rintro e w2 ⟨rfl,hw⟩;subst w2)
  go_ret
  exact ⟨rfl,(by repeat (first | exact Below.refl _ _ | refine bl_drew ?_ | refine bl_drewN _ ?_ | refine bl_alloc ?_ _ | refine bl_setCell ?_ (by simp) _ _ | refine bl_setRow ?_ (by simp) _))⟩
end Go.Proofs.YtlkldgopliablaaGreatDoor.Md.Ce
namespace Go.Proofs.YtlkldgopliablaaGreatDoor.Md.Cv
open Go.ChangeShapes Go.WideShapes Go.ChangeAt Go.RowKit
theorem follows13:Tryz.prog.follows .mixedOrders=true:=by kernel_rfl
def plnV (a b c d e f:Int):Value:=.agg #[.int .i64 a,.int .i64 b,.int .i64 c,.int .i64 d,.int .i64 e,.int .i64 f]
def passV (t:Int):Int:=IntKind.u64.wrap (t+1)
theorem cell_kept {w w':World} {b:Nat} (e:w'.heap[b]?=w.heap[b]?) (o:Nat):w'.cell? ⟨b,o,none⟩=w.cell? ⟨b,o,none⟩:=by simp [World.cell?,e]
theorem tb_drew {B:Nat} {a w:World} (h:Below B a w):Below B a w.drew:=⟨h.os,h.tape,h.output,h.size,h.block⟩
theorem tb_alloc {a w:World} (h:Below a.heap.size a w) (x:Obj):Below a.heap.size a (w.alloc x):=h.alloc h.size x
theorem alloc_at {w:World} {x:Obj} {k:Nat} (hk:w.heap.size=k):(w.alloc x).heap[k]?=some x:=by subst hk;exact heap_alloc_new _ _
theorem ne_ty {w:World} {a b:Nat} {c d:Array Value} {S T:TypeId} {x y:Nat × Nat} (h:w.heap[a]?=some (.cells c S x)) (k:w.heap[b]?=some (.cells d T y)) (hne:(S == T)=false):a≠b:=by
 rintro rfl
 rw [h] at k
 cases k
 simp at hne
structure Ch3 (b g l:Nat) (w w':World):Prop where
 os:w'.os=w.os
 tape:w'.tape=w.tape
 output:w'.output=w.output
 size:w.heap.size≤w'.heap.size
 block:∀ k,k<w.heap.size→k≠b→k≠g→k≠l→w'.heap[k]?=w.heap[k]?
section
variable {b g l:Nat} {a w c:World}
theorem Ch3.refl (b g l:Nat) (w:World):Ch3 b g l w w:=⟨rfl,rfl,rfl,Nat.le_refl _,fun _ _ _ _ _=>rfl⟩
theorem Ch3.trans (h:Ch3 b g l a w) (k:Ch3 b g l w c):Ch3 b g l a c :=
 ⟨k.os.trans h.os,k.tape.trans h.tape,k.output.trans h.output,Nat.le_trans h.size k.size,fun i hi h1 h2 h3=>(k.block i (Nat.lt_of_lt_of_le hi h.size) h1 h2 h3).trans (h.block i hi h1 h2 h3)⟩
theorem Ch3.chg (h:Ch3 b g l a w) (k:Chg b g w c):Ch3 b g l a c:=h.trans ⟨k.os,k.tape,k.output,k.size,fun i hi h1 h2 _=>k.block i hi h1 h2⟩
theorem Ch3.on (h:Ch3 b g l a w) (k:Below w.heap.size w c):Ch3 b g l a c:=h.trans ⟨k.os,k.tape,k.output,k.size,fun i hi _ _ _=>k.block i hi⟩
theorem Ch3.set (h:Ch3 b g l a w) (j:Nat) (u:Value):Ch3 b g l a (w.setCell ⟨l,j,none⟩ u):=h.trans ⟨rfl,rfl,rfl,by simp,fun k _ _ _ h3=>heap_setCell_other _ _ _ _ h3⟩
end
theorem chg_from {a w w':World} {b g:Nat} (h:Below a.heap.size a w) (k:Chg b g w w'):Chg b g a w':=(Chg.trans ⟨h.os,h.tape,h.output,h.size,fun i hi _ _=>h.block i hi⟩ k)
theorem below_step {a w w':World} (h:Below a.heap.size a w) (k:Below w.heap.size w w'):Below a.heap.size a w':=h.trans (k.mono h.size)
def may8 (t:Int):Bool:=decide (0≤t∧t<8)
def plc (p t:Int):Int:=if 0≤p∧p≤4096 then p+t else -1
theorem may8_pos {t:Int} (h:may8 t=true):0≤t∧t<8:=of_decide_eq_true h
theorem smay_any (p t:Int) (w:World):Calls Tryz.prog 344 #[.agg #[.int .i64 p,.int .i64 t]] w fun e w'=>e=.returned (.bool (may8 t))∧Below w.heap.size w w':=by
 unfold may8
 by_cases h1:0≤t
 ·by_cases h2:t<8
  ·go_enter Tryz.func344,Tryz.ntmps344
   go_wp2
   go_ret
   exact ⟨by first | (simp;done) | (simp;omega),(Below.refl _ _).alloc (Nat.le_refl _) _⟩
  ·go_enter Tryz.func344,Tryz.ntmps344
   go_wp2
   go_ret
   exact ⟨by first | (simp;done) | (simp;omega),(Below.refl _ _).alloc (Nat.le_refl _) _⟩
 ·go_enter Tryz.func344,Tryz.ntmps344
  go_wp2
  go_ret
  exact ⟨by first | (simp;done) | (simp;omega),(Below.refl _ _).alloc (Nat.le_refl _) _⟩
theorem splace_any (p t:Int) (ht:may8 t=true) (w:World):Calls Tryz.prog 277 #[.agg #[.int .i64 p,.int .i64 t]] w fun e w'=>e=.returned (.int .i64 (plc p t))∧Below w.heap.size w w':=by
 obtain ⟨ht0,ht1⟩:=may8_pos ht
 clear ht
 by_cases h1:0≤p
 ·by_cases h2:p≤4096
  ·have e:plc p t=p+t:=by simp [plc,h1,h2]
   have e1:wrap64 (p+t)=p+t:=Go.IntWalk.wrap64_in _ ⟨by omega,by omega⟩
   have h1':¬ p<0:=by omega
   have h2':¬ 4096<p:=by omega
   rw [e]
   clear e ht0 ht1
   go_enter Tryz.func277,Tryz.ntmps277
   go_wp2
   go_ret
   exact ⟨rfl,(Below.refl _ _).alloc (Nat.le_refl _) _⟩
  ·have e:plc p t=-1:=by simp [plc,h2]
   rw [e]
   clear e ht0 ht1
   have h1':¬ p<0:=by omega
   have h2':4096<p:=by omega
   go_enter Tryz.func277,Tryz.ntmps277
   go_wp2
   go_ret
   exact ⟨rfl,(Below.refl _ _).alloc (Nat.le_refl _) _⟩
 ·have e:plc p t=-1:=by simp [plc,h1]
  rw [e]
  clear e ht0 ht1
  have h1':p<0:=by omega
  go_enter Tryz.func277,Tryz.ntmps277
  go_wp2
  go_ret
  exact ⟨rfl,(Below.refl _ _).alloc (Nat.le_refl _) _⟩
theorem wordOf_any (k:Int) (w:World):Calls Tryz.prog 349 #[.int .u64 k] w fun e w'=>e=.returned (.int .u64 (passV k))∧w'=w:=by
 unfold passV
 go_enter Tryz.func349,Tryz.ntmps349
 go_wp2
 go_ret
 exact ⟨rfl,rfl⟩
structure Cs where
 A:Int
 B:Int
 T:Int
 N:Int
 K:Int
 S:Int
def CmAt (w:World) (x:Nat) (c:Cs):Prop:=w.heap[x]?=some (.cells #[.int .i64 c.A,.int .i64 c.B,.int .i64 c.T,.int .i64 c.N,.int .u64 c.K,.int .u64 c.S] 255 (0,0))
section
variable {w w':World} {x:Nat} {c:Cs}
theorem CmAt.lt (h:CmAt w x c):x<w.heap.size:=lt_of_block h
theorem CmAt.keep (h:CmAt w x c) (e:w'.heap[x]?=w.heap[x]?):CmAt w' x c:=e.trans h
theorem CmAt.on (h:CmAt w x c) (k:Below w.heap.size w w'):CmAt w' x c:=h.keep (k.block x h.lt)
theorem CmAt.cells (h:CmAt w x c):w.cell? ⟨x,0,none⟩=some (.int .i64 c.A)∧w.cell? ⟨x,1,none⟩=some (.int .i64 c.B)∧w.cell? ⟨x,2,none⟩=some (.int .i64 c.T)∧w.cell? ⟨x,3,none⟩=some (.int .i64 c.N)∧w.cell? ⟨x,4,none⟩=some (.int .u64 c.K)∧w.cell? ⟨x,5,none⟩=some (.int .u64 c.S)∧x<w.heap.size∧w.frozen? ⟨x,3,none⟩=false∧w.frozen? ⟨x,4,none⟩=false∧w.frozen? ⟨x,5,none⟩=false :=
 ⟨by rw [cell_of_row w x 0 _ _ _ h];rfl,by rw [cell_of_row w x 1 _ _ _ h];rfl,by rw [cell_of_row w x 2 _ _ _ h];rfl,by rw [cell_of_row w x 3 _ _ _ h];rfl,by rw [cell_of_row w x 4 _ _ _ h];rfl,by rw [cell_of_row w x 5 _ _ _ h];rfl,lt_of_block h,frozen_of_row w x 3 _ _ h,frozen_of_row w x 4 _ _ h,frozen_of_row w x 5 _ _ h⟩
theorem CmAt.setN (h:CmAt w x c) (v:Int):CmAt (w.setCell ⟨x,3,none⟩ (.int .i64 v)) x { c with N:=v }:=(heap_setCell_same w x 3 _ _ _ h).trans rfl
theorem CmAt.setK (h:CmAt w x c) (v:Int):CmAt (w.setCell ⟨x,4,none⟩ (.int .u64 v)) x { c with K:=v }:=(heap_setCell_same w x 4 _ _ _ h).trans rfl
theorem CmAt.setS (h:CmAt w x c) (v:Int):CmAt (w.setCell ⟨x,5,none⟩ (.int .u64 v)) x { c with S:=v }:=(heap_setCell_same w x 5 _ _ _ h).trans rfl
theorem stampC_any (h:CmAt w x c):Calls Tryz.prog 338 #[.pointer (some ⟨x,0,none⟩)] w fun e w'=>e=.returned (.int .u64 c.S)∧w'=w:=by
 obtain ⟨h0,h1,h2,h3,h4,h5,h6,_⟩:=h.cells
 clear h
 go_enter Tryz.func338,Tryz.ntmps338
 go_wp2
 go_ret
 exact ⟨rfl,rfl⟩
theorem overC_any (h:CmAt w x c):Calls Tryz.prog 343 #[.pointer (some ⟨x,0,none⟩)] w fun e w'=>e=.returned (.bool (decide (c.N=3)))∧w'=w:=by
 obtain ⟨h0,h1,h2,h3,h4,h5,h6,_⟩:=h.cells
 clear h
 go_enter Tryz.func343,Tryz.ntmps343
 go_wp2
 go_ret
 exact ⟨rfl,rfl⟩
theorem come_any (a0 a1 a2 a3 a4 a5 t:Int) (w:World):Calls Tryz.prog 134 #[plnV a0 a1 a2 a3 a4 a5,.int .i64 t] w fun e w'=>∃ x,e=.returned (.pointer (some ⟨x,0,none⟩))∧w.heap.size≤x∧CmAt w' x ⟨a2,a3,t,0,0,0⟩∧Below w.heap.size w w':=by
 unfold plnV
 go_enter Tryz.func134,Tryz.ntmps134
 go_wp2
 go_ret
 exact ⟨_,rfl,by simp,alloc_at (by simp),tb_alloc (tb_alloc (Below.refl _ _) _) _⟩
end
end Go.Proofs.YtlkldgopliablaaGreatDoor.Md.Cv
namespace Go.Proofs.YtlkldgopliablaaGreatDoor.Md.Cv
open Go.ChangeShapes Go.WideShapes Go.ChangeAt Go.RowKit
theorem ok_facts {ws:List Int} {o:Bool} {i:Int} (h:errA ws o i=0):(∀ v,stored ws o i v=ws.set i.toNat v)∧spentO ws o i=false∧(∀ n,spentC ws o i n=up n)∧toldW ws o i=wordAt ws i∧hasB ws i=true∧o=true:=by
 have hk:hasB ws i=true∧o=true:=by
  unfold errA at h
  cases q:hasB ws i <;> cases o <;> simp [q] at h ⊢
 obtain ⟨h1,rfl⟩:=hk
 exact ⟨fun v=>by simp [stored,h1],by simp [spentO,h1],fun n=>by simp [spentC,h1],by simp [toldW,h1],h1,rfl⟩
theorem no_facts {ws:List Int} {o:Bool} {i:Int} (h:¬ errA ws o i=0):(∀ v,stored ws o i v=ws)∧spentO ws o i=o∧(∀ n,spentC ws o i n=n)∧toldW ws o i=0:=by
 have hk:(hasB ws i && o)=false:=by
  unfold errA at h
  cases q:hasB ws i <;> cases o <;> simp [q] at h ⊢
 refine ⟨fun v=>by simp [stored,hk],?_,fun n=>by simp [spentC,hk],by simp [toldW,hk]⟩
 unfold spentO
 cases q:hasB ws i <;> cases o <;> simp_all
def cI (c:Cs):Int:=if c.N=1 then plc c.B c.T else c.A
def aW (c:Cs) (ws:List Int) (o:Bool):List Int:=if c.N=1 then stored ws o (plc c.B c.T) (passV c.K) else ws
def aC (c:Cs) (ws:List Int) (o:Bool):Cs:=⟨c.A,c.B,c.T,c.N,if c.N=0 then toldW ws o c.A else c.K,if c.N=2 then toldW ws o c.A else c.S⟩
section
variable {w:World} {b g x:Nat} {ws:List Int} {o:Bool} {n:Int} {c:Cs}
theorem CmAt.ne (h:CmAt w x c) (m:MemAt 145 w b g ws o n):x≠b∧x≠g:=⟨ne_ty h m.box rfl,ne_ty h m.row rfl⟩
theorem acc0_any (h:MemAt 145 w b g ws o n) {A B T K S:Int} (hx:CmAt w x ⟨A,B,T,0,K,S⟩):Calls Tryz.prog 345 #[.pointer (some ⟨x,0,none⟩),.pointer (some ⟨b,0,none⟩)] w fun e w'=>e=.returned (.int .i64 (errA ws o A))∧MemAt 145 w' b g ws (spentO ws o A) (spentC ws o A n)∧CmAt w' x ⟨A,B,T,0,toldW ws o A,S⟩∧Ch3 b g x w w':=by
 have HN:=Lib.hid (hx.ne h)
 have HM:=Lib.hid h
 have HX:=Lib.hid hx
 obtain ⟨h0,h1,h2,h3,h4,h5,h6,h7,h8,h9⟩:=hx.cells
 clear h hx
 dsimp only at h0 h1 h2 h3 h4 h5
 go_enter Tryz.func345,Tryz.ntmps345
 go_wp2_with (go_at_call 207;refine (load_any HM.out _).mono ?_;rintro e w1 ⟨rfl,hm,hc⟩;have HM1:=Lib.hid hm;have HC1:=Lib.hid hc;have HX1:=Lib.hid (HX.out.keep (hc.block x h6 HN.out.1 HN.out.2));obtain ⟨k0,k1,k2,k3,k4,k5,k6,k7,k8,k9⟩:=HX1.out.cells;clear hm hc)
 go_ret
 exact ⟨rfl,HM1.out.other HN.out.1.symm HN.out.2.symm _ _,HX1.out.setK _,((Ch3.refl _ _ _ _).chg HC1.out).set _ _⟩
theorem acc2_any (h:MemAt 145 w b g ws o n) {A B T K S:Int} (hx:CmAt w x ⟨A,B,T,2,K,S⟩):Calls Tryz.prog 345 #[.pointer (some ⟨x,0,none⟩),.pointer (some ⟨b,0,none⟩)] w fun e w'=>e=.returned (.int .i64 (errA ws o A))∧MemAt 145 w' b g ws (spentO ws o A) (spentC ws o A n)∧CmAt w' x ⟨A,B,T,2,K,toldW ws o A⟩∧Ch3 b g x w w':=by
 have HN:=Lib.hid (hx.ne h)
 have HM:=Lib.hid h
 have HX:=Lib.hid hx
 obtain ⟨h0,h1,h2,h3,h4,h5,h6,h7,h8,h9⟩:=hx.cells
 clear h hx
 dsimp only at h0 h1 h2 h3 h4 h5
 go_enter Tryz.func345,Tryz.ntmps345
 go_wp2_with (go_at_call 207;refine (load_any HM.out _).mono ?_;rintro e w1 ⟨rfl,hm,hc⟩;have HM1:=Lib.hid hm;have HC1:=Lib.hid hc;have HX1:=Lib.hid (HX.out.keep (hc.block x h6 HN.out.1 HN.out.2));obtain ⟨k0,k1,k2,k3,k4,k5,k6,k7,k8,k9⟩:=HX1.out.cells;clear hm hc)
 go_ret
 exact ⟨rfl,HM1.out.other HN.out.1.symm HN.out.2.symm _ _,HX1.out.setS _,((Ch3.refl _ _ _ _).chg HC1.out).set _ _⟩
theorem acc1_any (h:MemAt 145 w b g ws o n) {A B T K S:Int} (hx:CmAt w x ⟨A,B,T,1,K,S⟩) (hmay:may8 T=true):Calls Tryz.prog 345 #[.pointer (some ⟨x,0,none⟩),.pointer (some ⟨b,0,none⟩)] w fun e w'=>e=.returned (.int .i64 (errA ws o (plc B T)))∧MemAt 145 w' b g (stored ws o (plc B T) (passV K)) (spentO ws o (plc B T)) (spentC ws o (plc B T) n)∧CmAt w' x ⟨A,B,T,1,K,S⟩∧Ch3 b g x w w':=by
 have HN:=Lib.hid (hx.ne h)
 have HM:=Lib.hid h
 have HX:=Lib.hid hx
 have HY:=Lib.hid hmay
 obtain ⟨h0,h1,h2,h3,h4,h5,h6,h7,h8,h9⟩:=hx.cells
 clear h hx hmay
 dsimp only at h0 h1 h2 h3 h4 h5
 go_enter Tryz.func345,Tryz.ntmps345
 go_wp2
 refine wp_region_seq (fun w'=>w'.cell? ⟨x,1,none⟩=some (.int .i64 B)∧w'.cell? ⟨x,2,none⟩=some (.int .i64 T)∧w'.cell? ⟨x,4,none⟩=some (.int .u64 K)) ((0,true)::(1,true)::(2,true)::(3,true)::(4,true)::(6,true)::(7,true)::(8,true)::(9,true)::(5,false)::(10,false)::(11,false)::(12,true)::[]) follows13 (by kernel_rfl) (fun _ _ _ _ _ h=>h) ⟨h1,h2,h4⟩ ?_
 repeat (refine wpSeq_take (v:=?_) rfl (by rfl) (fun wq hSq=>?_) ?_;rotate_left;(focus ((try dsimp only at hSq);go_simp;try with_reducible rfl));simp only [Act.put,List.setIfInBounds_toArray,List.set_cons_zero,List.set_cons_succ])
 refine wpSeq_do rfl (by rfl) (fun KK hK=>?_)
 go_simp
 refine (splace_any B T HY.out _).mono ?_
 rintro e w1 ⟨rfl,hb⟩
 have HB1:Hid (Below w.heap.size w w1):=below_step (tb_drew (Below.refl _ _)) hb
 have HX1:=Lib.hid (HX.out.on HB1.out)
 obtain ⟨k0,k1,k2,k3,k4,k5,k6,_⟩:=HX1.out.cells
 refine hK.out _ _ ⟨k1,k2,k4⟩ ?_
 clear hK KK hb
 try simp only [Act.put,List.setIfInBounds_toArray,List.set_cons_zero,List.set_cons_succ]
 refine wpSeq_do rfl (by rfl) (fun KK hK=>?_)
 go_simp
 refine (wordOf_any K _).mono ?_
 rintro e w2 ⟨rfl,hw⟩
 subst w2
 refine hK.out _ _ ⟨k1,k2,k4⟩ ?_
 clear hK KK
 try simp only [Act.put,List.setIfInBounds_toArray,List.set_cons_zero,List.set_cons_succ]
 refine wpSeq_do rfl (by rfl) (fun KK hK=>?_)
 go_simp
 refine (store_any (HM.out.on HB1.out) _ _).mono ?_
 rintro e w2 ⟨rfl,hm,hc⟩
 have HM2:=Lib.hid hm
 have HC2:=Lib.hid hc
 have HX2:=Lib.hid (HX1.out.keep (hc.block x k6 HN.out.1 HN.out.2))
 clear hm hc
 obtain ⟨j0,j1,j2,j3,j4,j5,j6,_⟩:=HX2.out.cells
 refine hK.out _ _ ⟨j1,j2,j4⟩ ?_
 clear hK KK
 try simp only [Act.put,List.setIfInBounds_toArray,List.set_cons_zero,List.set_cons_succ]
 repeat (refine wpSeq_take (v:=?_) rfl (by rfl) (fun wq hSq=>?_) ?_;rotate_left;(focus ((try dsimp only at hSq);go_simp;try with_reducible rfl));simp only [Act.put,List.setIfInBounds_toArray,List.set_cons_zero,List.set_cons_succ])
 refine wpSeq_nil ?_
 go_wp2
 go_ret
 exact ⟨rfl,HM2.out,HX2.out,((Ch3.refl _ _ _ _).on HB1.out).chg HC2.out⟩
theorem access_any (h:MemAt 145 w b g ws o n) (hx:CmAt w x c) (hN:c.N=0∨c.N=1∨c.N=2) (hmay:may8 c.T=true):Calls Tryz.prog 345 #[.pointer (some ⟨x,0,none⟩),.pointer (some ⟨b,0,none⟩)] w fun e w'=>e=.returned (.int .i64 (errA ws o (cI c)))∧MemAt 145 w' b g (aW c ws o) (spentO ws o (cI c)) (spentC ws o (cI c) n)∧CmAt w' x (aC c ws o)∧Ch3 b g x w w':=by
 obtain ⟨A,B,T,N,K,S⟩:=c
 dsimp only at hN hmay
 rcases hN with rfl | rfl | rfl
 ·exact acc0_any h hx
 ·exact acc1_any h hx hmay
 ·exact acc2_any h hx
end
end Go.Proofs.YtlkldgopliablaaGreatDoor.Md.Cv
namespace Go.Proofs.YtlkldgopliablaaGreatDoor.Md.Cv
open Go.ChangeShapes Go.WideShapes Go.ChangeAt Go.RowKit
def cE (c:Cs) (ws:List Int) (o:Bool):Int:=if c.N=3 then 3 else if may8 c.T then errA ws o (cI c) else 100
def cO (c:Cs) (ws:List Int) (o:Bool):Bool:=decide (cE c ws o=0) && decide (c.N=2)
def cW (c:Cs) (ws:List Int) (o:Bool):List Int:=if cE c ws o=0 then (if c.N=1 then ws.set (plc c.B c.T).toNat (passV c.K) else ws) else ws
def cP (c:Cs) (ws:List Int) (o:Bool):Bool:=if cE c ws o=0 then false else o
def cQ (c:Cs) (ws:List Int) (o:Bool) (n:Int):Int:=if cE c ws o=0 then up n else n
def cC (c:Cs) (ws:List Int) (o:Bool):Cs:=if cE c ws o=0 then ⟨c.A,c.B,c.T,c.N+1,if c.N=0 then wordAt ws c.A else c.K,if c.N=2 then wordAt ws c.A else c.S⟩ else c
structure COk (c:Cs):Prop where
 n:c.N=0∨c.N=1∨c.N=2∨c.N=3
 k:c.N=0→c.K=0
 s:c.N≠3→c.S=0
theorem aW_ok {c:Cs} {ws:List Int} {o:Bool} (h:errA ws o (cI c)=0):aW c ws o=if c.N=1 then ws.set (plc c.B c.T).toNat (passV c.K) else ws:=by
 unfold aW cI at *
 by_cases q:c.N=1
 ·rw [if_pos q] at h ⊢
  rw [if_pos q,(ok_facts h).1]
 ·rw [if_neg q,if_neg q]
theorem aW_no {c:Cs} {ws:List Int} {o:Bool} (h:¬ errA ws o (cI c)=0):aW c ws o=ws:=by
 unfold aW cI at *
 by_cases q:c.N=1
 ·rw [if_pos q] at h ⊢
  exact (no_facts h).1 _
 ·rw [if_neg q]
theorem aC_ok {c:Cs} {ws:List Int} {o:Bool} (h:errA ws o (cI c)=0):aC c ws o=⟨c.A,c.B,c.T,c.N,if c.N=0 then wordAt ws c.A else c.K,if c.N=2 then wordAt ws c.A else c.S⟩:=by
 unfold aC cI at *
 by_cases q:c.N=1
 ·rw [if_neg (by omega),if_neg (by omega),if_neg (by omega),if_neg (by omega)]
 ·rw [if_neg q] at h
  rw [(ok_facts h).2.2.2.1]
theorem aC_no {c:Cs} {ws:List Int} {o:Bool} (hc:COk c) (h:¬ errA ws o (cI c)=0):aC c ws o=c:=by
 have hn:=hc.n
 have hk:=hc.k
 have hs:=hc.s
 obtain ⟨A,B,T,N,K,S⟩:=c
 unfold aC cI at *
 dsimp only at *
 by_cases q:N=1
 ·rw [if_neg (by omega),if_neg (by omega)]
 ·rw [if_neg q] at h
  rw [(no_facts h).2.2.2]
  by_cases q0:N=0
  ·rw [if_pos q0,if_neg (by omega),hk q0]
  ·rw [if_neg q0]
   by_cases q2:N=2
   ·rw [if_pos q2,hs (by omega)]
   ·rw [if_neg q2]
section
variable {w:World} {b g x:Nat} {ws:List Int} {o:Bool} {n:Int} {c:Cs}
theorem cstep_over (hx:CmAt w x c) (hN:c.N=3) (b:Nat):Calls Tryz.prog 339 #[.pointer (some ⟨x,0,none⟩),.pointer (some ⟨b,0,none⟩)] w fun e w'=>e=.returned (.tuple #[.bool false,.int .i64 3])∧w'=w:=by
 have HO:=Lib.hid (overC_any hx)
 simp only [hN,decide_true] at HO
 clear hx hN
 go_enter Tryz.func339,Tryz.ntmps339
 go_wp2_with (go_at_call 343;refine HO.out.mono ?_;rintro e w1 ⟨rfl,hw⟩;subst w1)
 go_ret2
 exact ⟨rfl,rfl⟩
theorem cstep_may (hx:CmAt w x c) (hN:c.N≠3) (hm:may8 c.T=false) (b:Nat):Calls Tryz.prog 339 #[.pointer (some ⟨x,0,none⟩),.pointer (some ⟨b,0,none⟩)] w fun e w'=>e=.returned (.tuple #[.bool false,.int .i64 100])∧Below w.heap.size w w':=by
 have HO:=Lib.hid (overC_any hx)
 simp only [decide_eq_false hN] at HO
 have HY:=Lib.hid (smay_any c.B c.T)
 simp only [hm] at HY
 obtain ⟨h0,h1,h2,h3,h4,h5,h6,h7,h8,h9⟩:=hx.cells
 clear hx hN hm
 go_enter Tryz.func339,Tryz.ntmps339
 go_wp2_with (first
  | (go_at_call 343;refine HO.out.mono ?_;rintro e w1 ⟨rfl,hw⟩;subst w1)
  | (go_at_call 344;refine (HY.out _).mono ?_;rintro e w1 ⟨rfl,hb⟩;have HB:=Lib.hid hb;clear hb))
 go_ret2
 exact ⟨rfl,HB.out⟩
theorem cstep_go (h:MemAt 145 w b g ws o n) (hx:CmAt w x c) (hN:c.N=0∨c.N=1∨c.N=2) (hm:may8 c.T=true) {er:Int} (her:errA ws o (cI c)=er):Calls Tryz.prog 339 #[.pointer (some ⟨x,0,none⟩),.pointer (some ⟨b,0,none⟩)] w fun e w'=>e=.returned (.tuple #[.bool (decide (er=0) && decide (c.N=2)),.int .i64 er])∧MemAt 145 w' b g (aW c ws o) (spentO ws o (cI c)) (spentC ws o (cI c) n)∧CmAt w' x (if er=0 then ⟨c.A,c.B,c.T,c.N+1,(aC c ws o).K,(aC c ws o).S⟩ else aC c ws o)∧Ch3 b g x w w':=by
 have HO:=Lib.hid (overC_any hx)
 rw [decide_eq_false (show ¬ c.N=3 by omega)] at HO
 have HY:=Lib.hid (smay_any c.B c.T)
 simp only [hm] at HY
 have HA:=Lib.hid (fun w1 (hb:Below w.heap.size w w1)=>access_any (h.on hb) (hx.on hb) hN hm)
 rw [her] at HA
 obtain ⟨h0,h1,h2,h3,h4,h5,h6,h7,h8,h9⟩:=hx.cells
 have HQ:=Lib.hid (hx.ne h)
 clear h hx hm her
 by_cases q:er=0
 ·subst q
  rw [if_pos rfl,decide_eq_true rfl,Bool.true_and]
  have hN':wrap64 (c.N+1)=c.N+1:=Go.IntWalk.wrap64_in _ ⟨by omega,by omega⟩
  have hN2:decide (c.N+1=3)=decide (c.N=2):=by rw [decide_eq_decide];omega
  have HN2:=Lib.hid hN2
  clear hN hN2
  go_enter Tryz.func339,Tryz.ntmps339
  go_wp2_with (first
   | (go_at_call 343;refine HO.out.mono ?_;rintro e w1 ⟨rfl,hw⟩;subst w1;clear HO)
   | (go_at_call 344;refine (HY.out _).mono ?_;rintro e w1 ⟨rfl,hb⟩;have HB:=Lib.hid hb;clear hb)
   | (go_at_call 345;refine (HA.out _ HB.out).mono ?_;rintro e w2 ⟨rfl,hm,hx,hc⟩;have HM2:=Lib.hid hm;have HX2:=Lib.hid hx;have HC2:=Lib.hid ((Ch3.refl _ _ _ _).on HB.out |>.trans hc);have k3:w2.cell? ⟨x,3,none⟩=some (.int .i64 c.N):=hx.cells.2.2.2.1;have k6:x<w2.heap.size:=hx.lt;have k7:w2.frozen? ⟨x,3,none⟩=false:=hx.cells.2.2.2.2.2.2.2.1;clear hm hx hc)
   | (go_at_call 343;refine (overC_any (HX2.out.setN (c.N+1))).mono ?_;dsimp only;rw [HN2.out];rintro e w3 ⟨rfl,hw⟩;subst w3))
  go_ret2
  exact ⟨rfl,HM2.out.other HQ.out.1.symm HQ.out.2.symm _ _,HX2.out.setN _,HC2.out.set _ _⟩
 ·rw [if_neg q,decide_eq_false q,Bool.false_and]
  clear hN
  go_enter Tryz.func339,Tryz.ntmps339
  go_wp2_with (first
   | (go_at_call 343;refine HO.out.mono ?_;rintro e w1 ⟨rfl,hw⟩;subst w1;clear HO)
   | (go_at_call 344;refine (HY.out _).mono ?_;rintro e w1 ⟨rfl,hb⟩;have HB:=Lib.hid hb;clear hb)
   | (go_at_call 345;refine (HA.out _ HB.out).mono ?_;rintro e w2 ⟨rfl,hm,hx,hc⟩;have HM2:=Lib.hid hm;have HX2:=Lib.hid hx;have HC2:=Lib.hid ((Ch3.refl _ _ _ _).on HB.out |>.trans hc);clear hm hx hc))
  go_ret2
  exact ⟨rfl,HM2.out,HX2.out,HC2.out⟩
theorem cstep_any (h:MemAt 145 w b g ws o n) (hx:CmAt w x c) (hc:COk c):Calls Tryz.prog 339 #[.pointer (some ⟨x,0,none⟩),.pointer (some ⟨b,0,none⟩)] w fun e w'=>e=.returned (.tuple #[.bool (cO c ws o),.int .i64 (cE c ws o)])∧MemAt 145 w' b g (cW c ws o) (cP c ws o) (cQ c ws o n)∧CmAt w' x (cC c ws o)∧Ch3 b g x w w':=by
 by_cases h3:c.N=3
 ·have e:cE c ws o=3:=by simp [cE,h3]
  unfold cO cW cP cQ cC
  rw [e]
  refine (cstep_over hx h3 b).mono ?_
  rintro r w' ⟨rfl,rfl⟩
  exact ⟨by simp,by simpa using h,by simpa using hx,Ch3.refl _ _ _ _⟩
 ·cases hm:may8 c.T
  ·have e:cE c ws o=100:=by simp [cE,h3,hm]
   unfold cO cW cP cQ cC
   rw [e]
   refine (cstep_may hx h3 hm b).mono ?_
   rintro r w' ⟨rfl,hb⟩
   exact ⟨by simp,by simpa using h.on hb,by simpa using hx.on hb,(Ch3.refl _ _ _ _).on hb⟩
  ·have e:cE c ws o=errA ws o (cI c):=by simp [cE,h3,hm]
   have hN:c.N=0∨c.N=1∨c.N=2:=by have:=hc.n;omega
   unfold cO cW cP cQ cC
   rw [e]
   refine (cstep_go h hx hN hm rfl).mono ?_
   rintro r w' ⟨rfl,hm',hx',hch⟩
   refine ⟨rfl,?_,?_,hch⟩
   ·by_cases q:errA ws o (cI c)=0
    ·rw [if_pos q,if_pos q,if_pos q]
     have f:=ok_facts q
     rw [aW_ok q,f.2.1,f.2.2.1] at hm'
     exact hm'
    ·rw [if_neg q,if_neg q,if_neg q]
     have f:=no_facts q
     rw [aW_no q,f.2.1,f.2.2.1] at hm'
     exact hm'
   ·by_cases q:errA ws o (cI c)=0
    ·rw [if_pos q] at hx' ⊢
     rw [aC_ok q] at hx'
     exact hx'
    ·rw [if_neg q] at hx' ⊢
     rw [aC_no hc q] at hx'
     exact hx'
end
end Go.Proofs.YtlkldgopliablaaGreatDoor.Md.Cv
namespace Go.Proofs.YtlkldgopliablaaGreatDoor.Md.Cv
open Go.ChangeShapes Go.WideShapes Go.ChangeAt Go.RowKit
structure Ss where
 B:Int
 H:Int
 D:Int
 P:Int
 Q:Int
def ScAt (w:World) (x:Nat) (s:Ss):Prop:=w.heap[x]?=some (.cells #[.int .i64 s.B,.int .i64 s.H,.int .u64 s.D,.int .i64 s.P,.int .i64 s.Q] 278 (0,0))
def mayH (h:Int):Bool:=decide (1≤h∧h≤8)
def letB (d v:Int):Bool:=decide (v=0) || decide (d<v)
structure SOk (s:Ss):Prop where
 p:0≤s.P
 h:mayH s.H=true→s.P≤s.H
def sE (s:Ss) (ws:List Int) (o:Bool):Int:=if mayH s.H then (if s.P=s.H then 3 else errA ws o (plc s.B s.P)) else 100
def sN (s:Ss) (v:Int):Ss:=if letB s.D v then ⟨s.B,s.H,s.D,s.P+1,s.Q⟩ else ⟨s.B,s.H,s.D,s.P,up s.Q⟩
def sC (s:Ss) (ws:List Int) (o:Bool):Ss:=if sE s ws o=0 then sN s (wordAt ws (plc s.B s.P)) else s
def sO (s:Ss) (ws:List Int) (o:Bool):Bool:=decide (sE s ws o=0) && decide ((sC s ws o).P=s.H)
def sP (s:Ss) (ws:List Int) (o:Bool):Bool:=if sE s ws o=0 then false else o
def sQ (s:Ss) (ws:List Int) (o:Bool) (n:Int):Int:=if sE s ws o=0 then up n else n
theorem sN_parts (s:Ss) (v:Int):(sN s v).B=s.B∧(sN s v).H=s.H∧(sN s v).D=s.D:=by
 unfold sN
 split <;> exact ⟨rfl,rfl,rfl⟩
section
variable {w w':World} {x:Nat} {s:Ss}
theorem ScAt.lt (h:ScAt w x s):x<w.heap.size:=lt_of_block h
theorem ScAt.keep (h:ScAt w x s) (e:w'.heap[x]?=w.heap[x]?):ScAt w' x s:=e.trans h
theorem ScAt.on (h:ScAt w x s) (k:Below w.heap.size w w'):ScAt w' x s:=h.keep (k.block x h.lt)
theorem ScAt.cells (h:ScAt w x s):w.cell? ⟨x,0,none⟩=some (.int .i64 s.B)∧w.cell? ⟨x,1,none⟩=some (.int .i64 s.H)∧w.cell? ⟨x,2,none⟩=some (.int .u64 s.D)∧w.cell? ⟨x,3,none⟩=some (.int .i64 s.P)∧w.cell? ⟨x,4,none⟩=some (.int .i64 s.Q)∧x<w.heap.size∧w.frozen? ⟨x,3,none⟩=false∧w.frozen? ⟨x,4,none⟩=false :=
 ⟨by rw [cell_of_row w x 0 _ _ _ h];rfl,by rw [cell_of_row w x 1 _ _ _ h];rfl,by rw [cell_of_row w x 2 _ _ _ h];rfl,by rw [cell_of_row w x 3 _ _ _ h];rfl,by rw [cell_of_row w x 4 _ _ _ h];rfl,lt_of_block h,frozen_of_row w x 3 _ _ h,frozen_of_row w x 4 _ _ h⟩
theorem ScAt.setP (h:ScAt w x s) (v:Int):ScAt (w.setCell ⟨x,3,none⟩ (.int .i64 v)) x ⟨s.B,s.H,s.D,v,s.Q⟩:=(heap_setCell_same w x 3 _ _ _ h).trans rfl
theorem ScAt.setQ (h:ScAt w x s) (v:Int):ScAt (w.setCell ⟨x,4,none⟩ (.int .i64 v)) x ⟨s.B,s.H,s.D,s.P,v⟩:=(heap_setCell_same w x 4 _ _ _ h).trans rfl
theorem mayS_any (h:ScAt w x s):Calls Tryz.prog 264 #[.pointer (some ⟨x,0,none⟩)] w fun e w'=>e=.returned (.bool (mayH s.H))∧w'=w:=by
 obtain ⟨h0,h1,h2,h3,h4,h5,_⟩:=h.cells
 clear h
 unfold mayH
 by_cases q1:1≤s.H
 ·by_cases q2:s.H≤8
  ·go_enter Tryz.func264,Tryz.ntmps264
   go_wp2
   go_ret
   exact ⟨by first | (simp;done) | (simp;omega),rfl⟩
  ·go_enter Tryz.func264,Tryz.ntmps264
   go_wp2
   go_ret
   exact ⟨by first | (simp;done) | (simp;omega),rfl⟩
 ·go_enter Tryz.func264,Tryz.ntmps264
  go_wp2
  go_ret
  exact ⟨by first | (simp;done) | (simp;omega),rfl⟩
theorem overS_any (h:ScAt w x s):Calls Tryz.prog 263 #[.pointer (some ⟨x,0,none⟩)] w fun e w'=>e=.returned (.bool (mayH s.H && decide (s.P=s.H)))∧Below w.heap.size w w':=by
 obtain ⟨h0,h1,h2,h3,h4,h5,_⟩:=h.cells
 have HY:=Lib.hid (mayS_any (h.on (tb_drew (Below.refl _ _))))
 clear h
 cases hm:mayH s.H
 ·rw [hm] at HY
  have q:=hm
  go_enter Tryz.func263,Tryz.ntmps263
  go_wp2
  refine wp_region_seq (fun w'=>w'.cell? ⟨x,1,none⟩=some (.int .i64 s.H)∧w'.cell? ⟨x,3,none⟩=some (.int .i64 s.P)) ((0,true)::(1,false)::(2,true)::(3,true)::(4,true)::(5,true)::(6,true)::(7,true)::(8,true)::(9,true)::(10,true)::(11,true)::(12,true)::(13,true)::[]) follows13 (by kernel_rfl) (fun _ _ _ _ _ h=>h) ⟨h1,h3⟩ ?_
  repeat (first | (refine wpSeq_take (v:=?_) rfl (by rfl) (fun wq hSq=>?_) ?_;rotate_left;(focus ((try dsimp only at hSq);go_simp;try with_reducible rfl));simp only [Act.put,List.setIfInBounds_toArray,List.set_cons_zero,List.set_cons_succ]) | (refine wpSeq_skip rfl (by rfl) ?_;simp only [Act.put,List.setIfInBounds_toArray,List.set_cons_zero,List.set_cons_succ]))
  refine wpSeq_do rfl (by rfl) (fun KK hK=>?_)
  go_simp
  refine HY.out.mono ?_
  rintro e w1 ⟨rfl,hw⟩
  subst w1
  refine hK.out _ _ ⟨h1,h3⟩ ?_
  clear hK KK
  try simp only [Act.put,List.setIfInBounds_toArray,List.set_cons_zero,List.set_cons_succ]
  repeat (first | (refine wpSeq_take (v:=?_) rfl (by rfl) (fun wq hSq=>?_) ?_;rotate_left;(focus ((try dsimp only at hSq);go_simp;try with_reducible rfl));simp only [Act.put,List.setIfInBounds_toArray,List.set_cons_zero,List.set_cons_succ]) | (refine wpSeq_skip rfl (by rfl) ?_;simp only [Act.put,List.setIfInBounds_toArray,List.set_cons_zero,List.set_cons_succ]))
  refine wpSeq_nil ?_
  go_wp2
  go_ret
  exact ⟨by first | rfl | simp [q],tb_drew (Below.refl _ _)⟩
 ·rw [hm] at HY
  by_cases q:s.P=s.H
  ·rw [decide_eq_true q]
   go_enter Tryz.func263,Tryz.ntmps263
   go_wp2
   refine wp_region_seq (fun w'=>w'.cell? ⟨x,1,none⟩=some (.int .i64 s.H)∧w'.cell? ⟨x,3,none⟩=some (.int .i64 s.P)) ((0,true)::(1,false)::(2,true)::(3,true)::(4,true)::(5,true)::(6,true)::(7,true)::(8,true)::(9,true)::(10,true)::(11,true)::(12,true)::(13,true)::[]) follows13 (by kernel_rfl) (fun _ _ _ _ _ h=>h) ⟨h1,h3⟩ ?_
   repeat (first | (refine wpSeq_take (v:=?_) rfl (by rfl) (fun wq hSq=>?_) ?_;rotate_left;(focus ((try dsimp only at hSq);go_simp;try with_reducible rfl));simp only [Act.put,List.setIfInBounds_toArray,List.set_cons_zero,List.set_cons_succ]) | (refine wpSeq_skip rfl (by rfl) ?_;simp only [Act.put,List.setIfInBounds_toArray,List.set_cons_zero,List.set_cons_succ]))
   refine wpSeq_do rfl (by rfl) (fun KK hK=>?_)
   go_simp
   refine HY.out.mono ?_
   rintro e w1 ⟨rfl,hw⟩
   subst w1
   refine hK.out _ _ ⟨h1,h3⟩ ?_
   clear hK KK
   try simp only [Act.put,List.setIfInBounds_toArray,List.set_cons_zero,List.set_cons_succ]
   repeat (first | (refine wpSeq_take (v:=?_) rfl (by rfl) (fun wq hSq=>?_) ?_;rotate_left;(focus ((try dsimp only at hSq);go_simp;try with_reducible rfl));simp only [Act.put,List.setIfInBounds_toArray,List.set_cons_zero,List.set_cons_succ]) | (refine wpSeq_skip rfl (by rfl) ?_;simp only [Act.put,List.setIfInBounds_toArray,List.set_cons_zero,List.set_cons_succ]))
   refine wpSeq_nil ?_
   go_wp2
   go_ret
   exact ⟨by first | rfl | simp [q],tb_drew (Below.refl _ _)⟩
  ·rw [decide_eq_false q]
   go_enter Tryz.func263,Tryz.ntmps263
   go_wp2
   refine wp_region_seq (fun w'=>w'.cell? ⟨x,1,none⟩=some (.int .i64 s.H)∧w'.cell? ⟨x,3,none⟩=some (.int .i64 s.P)) ((0,true)::(1,false)::(2,true)::(3,true)::(4,true)::(5,true)::(6,true)::(7,true)::(8,true)::(9,true)::(10,true)::(11,true)::(12,true)::(13,true)::[]) follows13 (by kernel_rfl) (fun _ _ _ _ _ h=>h) ⟨h1,h3⟩ ?_
   repeat (first | (refine wpSeq_take (v:=?_) rfl (by rfl) (fun wq hSq=>?_) ?_;rotate_left;(focus ((try dsimp only at hSq);go_simp;try with_reducible rfl));simp only [Act.put,List.setIfInBounds_toArray,List.set_cons_zero,List.set_cons_succ]) | (refine wpSeq_skip rfl (by rfl) ?_;simp only [Act.put,List.setIfInBounds_toArray,List.set_cons_zero,List.set_cons_succ]))
   refine wpSeq_do rfl (by rfl) (fun KK hK=>?_)
   go_simp
   refine HY.out.mono ?_
   rintro e w1 ⟨rfl,hw⟩
   subst w1
   refine hK.out _ _ ⟨h1,h3⟩ ?_
   clear hK KK
   try simp only [Act.put,List.setIfInBounds_toArray,List.set_cons_zero,List.set_cons_succ]
   repeat (first | (refine wpSeq_take (v:=?_) rfl (by rfl) (fun wq hSq=>?_) ?_;rotate_left;(focus ((try dsimp only at hSq);go_simp;try with_reducible rfl));simp only [Act.put,List.setIfInBounds_toArray,List.set_cons_zero,List.set_cons_succ]) | (refine wpSeq_skip rfl (by rfl) ?_;simp only [Act.put,List.setIfInBounds_toArray,List.set_cons_zero,List.set_cons_succ]))
   refine wpSeq_nil ?_
   go_wp2
   go_ret
   exact ⟨by first | rfl | simp [q],tb_drew (Below.refl _ _)⟩
theorem lets_any (h:ScAt w x s) (v:Int):Calls Tryz.prog 278 #[.pointer (some ⟨x,0,none⟩),.int .u64 v] w fun e w'=>e=.returned (.bool (letB s.D v))∧w'=w:=by
 obtain ⟨h0,h1,h2,h3,h4,h5,_⟩:=h.cells
 clear h
 unfold letB
 by_cases q1:v=0
 ·rw [decide_eq_true q1,Bool.true_or]
  go_enter Tryz.func278,Tryz.ntmps278
  go_wp2
  go_ret
  exact ⟨by simp,rfl⟩
 ·rw [decide_eq_false q1,Bool.false_or]
  by_cases q2:s.D<v
  ·rw [decide_eq_true q2]
   go_enter Tryz.func278,Tryz.ntmps278
   go_wp2
   go_ret
   exact ⟨by simp,rfl⟩
  ·rw [decide_eq_false q2]
   go_enter Tryz.func278,Tryz.ntmps278
   go_wp2
   go_ret
   exact ⟨by simp [q1],rfl⟩
theorem look_any (a0 a1 a2 a3 a4 a5 t d:Int) (w:World):Calls Tryz.prog 229 #[plnV a0 a1 a2 a3 a4 a5,.int .i64 t,.int .u64 d] w fun e w'=>∃ x,e=.returned (.pointer (some ⟨x,0,none⟩))∧w.heap.size≤x∧ScAt w' x ⟨a3,t,d,0,0⟩∧Below w.heap.size w w':=by
 unfold plnV
 go_enter Tryz.func229,Tryz.ntmps229
 go_wp2
 go_ret
 exact ⟨_,rfl,by simp,alloc_at (by simp),tb_alloc (tb_alloc (Below.refl _ _) _) _⟩
end
section
variable {w:World} {b g x:Nat} {ws:List Int} {o:Bool} {n:Int} {s:Ss}
theorem ScAt.ne (h:ScAt w x s) (m:MemAt 145 w b g ws o n):x≠b∧x≠g:=⟨ne_ty h m.box rfl,ne_ty h m.row rfl⟩
theorem sacc_any (h:MemAt 145 w b g ws o n) (hx:ScAt w x s) {k m:Nat} (hk:s.P=k) (hm:s.H=m) (hkm:k<m) (hm8:m≤8) {er:Int} (her:errA ws o (plc s.B s.P)=er):Calls Tryz.prog 265 #[.pointer (some ⟨x,0,none⟩),.pointer (some ⟨b,0,none⟩)] w fun e w'=>e=.returned (.int .i64 er)∧MemAt 145 w' b g ws (spentO ws o (plc s.B s.P)) (spentC ws o (plc s.B s.P) n)∧ScAt w' x (if er=0 then sN s (toldW ws o (plc s.B s.P)) else s)∧Ch3 b g x w w':=by
 have HN:=Lib.hid (hx.ne h)
 have HM:=Lib.hid h
 have HX:=Lib.hid hx
 have HPL:=Lib.hid (splace_any s.B k (decide_eq_true (by omega)))
 obtain ⟨h0,h1,h2,h3,h4,h5,h6,h7⟩:=hx.cells
 rw [hk] at h3
 rw [hm] at h1
 have HLD:=Lib.hid (fun w1 (hb:Below w.heap.size w w1)=>load_any (h.on hb) (plc s.B k))
 have HHK:=Lib.hid hk
 rw [hk] at her ⊢
 rw [her] at HLD
 have HER:=Lib.hid her
 clear h hx hk hm her
 go_enter Tryz.func265,Tryz.ntmps265
 go_wp2
 go_step3
 go_wp2
 go_step3
 go_wp2
 go_loopw [12] (fun vi wr=>∃ i:Nat,vi=.int .i64 i∧wr=w∧i≤k) (fun vi _=>k - (intOf vi).toNat)
 case atStart=>exact ⟨0,rfl,rfl,Nat.zero_le _⟩
 case round =>
  obtain ⟨i,rfl,rfl,hi⟩:=hrel
  have him:(i:Int)<(m:Int):=by omega
  by_cases hlt:i<k
  ·have hlt':(i:Int)<(k:Int):=by omega
   go_wp2
   exact ⟨⟨i+1,by first | rfl | (congr 1),by trivial,by omega⟩,by simp [intOf];omega⟩
  ·have e:i=k:=by omega
   subst e
   have hlt':¬ (i:Int)<(i:Int):=by omega
   clear hlt hi
   by_cases q:er=0
   ·subst q
    obtain ⟨v,hv⟩:∃ v,toldW ws o (plc s.B i)=v:=⟨_,rfl⟩
    rw [hv] at HLD
    have HV:=Lib.hid hv
    clear hv
    cases hl:letB s.D v
    ·go_wp2_with (first
      | (go_at_call 277;refine (HPL.out _).mono ?_;rintro e w1 ⟨rfl,hb⟩;have HB:=Lib.hid hb;clear hb)
      | (go_at_call 207;refine (HLD.out _ HB.out).mono ?_;rintro e w2 ⟨rfl,hm,hc⟩;have HM2:=Lib.hid hm;have HC2:=Lib.hid (chg_from HB.out hc);have HX2:=Lib.hid (HX.out.keep (HC2.out.block x h5 HN.out.1 HN.out.2));obtain ⟨k0,k1,k2,k3,k4,k5,k6,k7⟩:=HX2.out.cells;clear hm hc)
      | (go_at_call 278;refine (lets_any HX2.out v).mono ?_;rw [hl];rintro e w3 ⟨rfl,hw⟩;subst w3))
     try rw [Exit.noGoto_ret]
     go_ret
     rw [if_pos rfl,HV.out,sN,hl]
     exact ⟨rfl,HM2.out.other HN.out.1.symm HN.out.2.symm _ _,HX2.out.setQ _,((Ch3.refl _ _ _ _).chg HC2.out).set _ _⟩
    ·go_wp2_with (first
      | (go_at_call 277;refine (HPL.out _).mono ?_;rintro e w1 ⟨rfl,hb⟩;have HB:=Lib.hid hb;clear hb)
      | (go_at_call 207;refine (HLD.out _ HB.out).mono ?_;rintro e w2 ⟨rfl,hm,hc⟩;have HM2:=Lib.hid hm;have HC2:=Lib.hid (chg_from HB.out hc);have HX2:=Lib.hid (HX.out.keep (HC2.out.block x h5 HN.out.1 HN.out.2));obtain ⟨k0,k1,k2,k3,k4,k5,k6,k7⟩:=HX2.out.cells;clear hm hc)
      | (go_at_call 278;refine (lets_any HX2.out v).mono ?_;rw [hl];rintro e w3 ⟨rfl,hw⟩;subst w3))
     try rw [Exit.noGoto_ret]
     go_ret
     rw [if_pos rfl,HV.out,sN,hl,HHK.out]
     exact ⟨rfl,HM2.out.other HN.out.1.symm HN.out.2.symm _ _,HX2.out.setP _,((Ch3.refl _ _ _ _).chg HC2.out).set _ _⟩
   ·go_wp2_with (first
     | (go_at_call 277;refine (HPL.out _).mono ?_;rintro e w1 ⟨rfl,hb⟩;have HB:=Lib.hid hb;clear hb)
     | (go_at_call 207;refine (HLD.out _ HB.out).mono ?_;rintro e w2 ⟨rfl,hm,hc⟩;have HM2:=Lib.hid hm;have HC2:=Lib.hid (chg_from HB.out hc);have HX2:=Lib.hid (HX.out.keep (HC2.out.block x h5 HN.out.1 HN.out.2));clear hm hc))
    try rw [Exit.noGoto_ret]
    go_ret
    rw [if_neg q]
    exact ⟨rfl,HM2.out,HX2.out,(Ch3.refl _ _ _ _).chg HC2.out⟩
end
end Go.Proofs.YtlkldgopliablaaGreatDoor.Md.Cv
namespace Go.Proofs.YtlkldgopliablaaGreatDoor.Md.Cv
open Go.ChangeShapes Go.WideShapes Go.ChangeAt Go.RowKit
section
variable {w:World} {b g x:Nat} {ws:List Int} {o:Bool} {n:Int} {s:Ss}
theorem sstep_over (hx:ScAt w x s) (hm:mayH s.H=true) (hp:s.P=s.H) (b:Nat):Calls Tryz.prog 243 #[.pointer (some ⟨x,0,none⟩),.pointer (some ⟨b,0,none⟩)] w fun e w'=>e=.returned (.tuple #[.bool false,.int .i64 3])∧Below w.heap.size w w':=by
 have HO:=Lib.hid (overS_any hx)
 rw [hm,decide_eq_true hp] at HO
 clear hx hm hp
 go_enter Tryz.func243,Tryz.ntmps243
 go_wp2_with (go_at_call 263;refine HO.out.mono ?_;rintro e w1 ⟨rfl,hb⟩;have HB:=Lib.hid hb;clear hb)
 go_ret2
 exact ⟨rfl,HB.out⟩
theorem sstep_may (hx:ScAt w x s) (hm:mayH s.H=false) (b:Nat):Calls Tryz.prog 243 #[.pointer (some ⟨x,0,none⟩),.pointer (some ⟨b,0,none⟩)] w fun e w'=>e=.returned (.tuple #[.bool false,.int .i64 100])∧Below w.heap.size w w':=by
 have HO:=Lib.hid (overS_any hx)
 rw [hm,Bool.false_and] at HO
 have HY:=Lib.hid (fun w1 (hb:Below w.heap.size w w1)=>mayS_any (hx.on hb))
 rw [hm] at HY
 clear hx hm
 go_enter Tryz.func243,Tryz.ntmps243
 go_wp2_with (first
  | (go_at_call 263;refine HO.out.mono ?_;rintro e w1 ⟨rfl,hb⟩;have HB:=Lib.hid hb;clear hb)
  | (go_at_call 264;refine (HY.out _ HB.out).mono ?_;rintro e w2 ⟨rfl,hw⟩;subst w2))
 go_ret2
 exact ⟨rfl,HB.out⟩
theorem sstep_go (h:MemAt 145 w b g ws o n) (hx:ScAt w x s) (hok:SOk s) (hm:mayH s.H=true) (hp:s.P≠s.H) {er:Int} (her:errA ws o (plc s.B s.P)=er):Calls Tryz.prog 243 #[.pointer (some ⟨x,0,none⟩),.pointer (some ⟨b,0,none⟩)] w fun e w'=>e=.returned (.tuple #[.bool (decide (er=0) && decide ((sN s (toldW ws o (plc s.B s.P))).P=s.H)),.int .i64 er])∧MemAt 145 w' b g ws (spentO ws o (plc s.B s.P)) (spentC ws o (plc s.B s.P) n)∧ScAt w' x (if er=0 then sN s (toldW ws o (plc s.B s.P)) else s)∧Ch3 b g x w w':=by
 have HO:=Lib.hid (overS_any hx)
 rw [hm,decide_eq_false hp] at HO
 have HY:=Lib.hid (fun w1 (hb:Below w.heap.size w w1)=>mayS_any (hx.on hb))
 rw [hm] at HY
 have h1:=of_decide_eq_true hm
 have h2:=hok.p
 have h3:=hok.h hm
 have HA:=Lib.hid (fun w1 (hb:Below w.heap.size w w1)=>sacc_any (h.on hb) (hx.on hb) (k:=s.P.toNat) (m:=s.H.toNat) (by omega) (by omega) (by omega) (by omega) her)
 have HS:=Lib.hid (sN_parts s (toldW ws o (plc s.B s.P)))
 have HM0:=Lib.hid hm
 generalize sN s (toldW ws o (plc s.B s.P))=s2 at *
 clear h hx hm her h1 h2 h3 hok hp
 by_cases q:er=0
 ·subst q
  rw [if_pos rfl] at HA
  rw [if_pos rfl,decide_eq_true rfl,Bool.true_and]
  go_enter Tryz.func243,Tryz.ntmps243
  go_wp2_with (first
   | (go_at_call 263;refine HO.out.mono ?_;rintro e w1 ⟨rfl,hb⟩;have HB:=Lib.hid hb;clear hb HO)
   | (go_at_call 264;refine (HY.out _ HB.out).mono ?_;rintro e w2 ⟨rfl,hw⟩;subst w2)
   | (go_at_call 265;refine (HA.out _ HB.out).mono ?_;rintro e w2 ⟨rfl,hm,hx,hc⟩;have HM2:=Lib.hid hm;have HX2:=Lib.hid hx;have HC2:=Lib.hid ((Ch3.refl _ _ _ _).on HB.out |>.trans hc);clear hm hx hc)
   | (go_at_call 263;refine (overS_any HX2.out).mono ?_;rw [HS.out.2.1,HM0.out,Bool.true_and];rintro e w3 ⟨rfl,hb⟩;have HB3:=Lib.hid hb;clear hb))
  go_ret2
  exact ⟨rfl,HM2.out.on HB3.out,HX2.out.on HB3.out,HC2.out.on HB3.out⟩
 ·rw [if_neg q] at HA
  rw [if_neg q,decide_eq_false q,Bool.false_and]
  go_enter Tryz.func243,Tryz.ntmps243
  go_wp2_with (first
   | (go_at_call 263;refine HO.out.mono ?_;rintro e w1 ⟨rfl,hb⟩;have HB:=Lib.hid hb;clear hb HO)
   | (go_at_call 264;refine (HY.out _ HB.out).mono ?_;rintro e w2 ⟨rfl,hw⟩;subst w2)
   | (go_at_call 265;refine (HA.out _ HB.out).mono ?_;rintro e w2 ⟨rfl,hm,hx,hc⟩;have HM2:=Lib.hid hm;have HX2:=Lib.hid hx;have HC2:=Lib.hid ((Ch3.refl _ _ _ _).on HB.out |>.trans hc);clear hm hx hc))
  go_ret2
  exact ⟨rfl,HM2.out,HX2.out,HC2.out⟩
theorem sstep_any (h:MemAt 145 w b g ws o n) (hx:ScAt w x s) (hok:SOk s):Calls Tryz.prog 243 #[.pointer (some ⟨x,0,none⟩),.pointer (some ⟨b,0,none⟩)] w fun e w'=>e=.returned (.tuple #[.bool (sO s ws o),.int .i64 (sE s ws o)])∧MemAt 145 w' b g ws (sP s ws o) (sQ s ws o n)∧ScAt w' x (sC s ws o)∧Ch3 b g x w w':=by
 cases hm:mayH s.H
 ·have e:sE s ws o=100:=by simp [sE,hm]
  unfold sO sP sQ sC
  rw [e]
  refine (sstep_may hx hm b).mono ?_
  rintro r w' ⟨rfl,hb⟩
  exact ⟨by simp,by simpa using h.on hb,by simpa using hx.on hb,(Ch3.refl _ _ _ _).on hb⟩
 ·by_cases h3:s.P=s.H
  ·have e:sE s ws o=3:=by simp [sE,hm,h3]
   unfold sO sP sQ sC
   rw [e]
   refine (sstep_over hx hm h3 b).mono ?_
   rintro r w' ⟨rfl,hb⟩
   exact ⟨by simp,by simpa using h.on hb,by simpa using hx.on hb,(Ch3.refl _ _ _ _).on hb⟩
  ·have e:sE s ws o=errA ws o (plc s.B s.P):=by simp [sE,h3,hm]
   unfold sO sP sQ sC
   rw [e]
   refine (sstep_go h hx hok hm h3 rfl).mono ?_
   rintro r w' ⟨rfl,hm',hx',hch⟩
   by_cases q:errA ws o (plc s.B s.P)=0
   ·have f:=ok_facts q
    rw [f.2.1,f.2.2.1] at hm'
    rw [if_pos q,f.2.2.2.1] at hx'
    rw [f.2.2.2.1,if_pos q,if_pos q,if_pos q]
    exact ⟨rfl,hm',hx',hch⟩
   ·have f:=no_facts q
    rw [f.2.1,f.2.2.1] at hm'
    rw [if_neg q] at hx'
    rw [decide_eq_false q,if_neg q,if_neg q,if_neg q]
    exact ⟨rfl,hm',hx',hch⟩
theorem stampM_any (h:MemAt 145 w b g ws o n) (a0 a1 a2 a3 a4 a5:Int):Calls Tryz.prog 208 #[.pointer (some ⟨b,0,none⟩),plnV a0 a1 a2 a3 a4 a5] w fun e w'=>e=.returned (.tuple #[.int .u64 (toldW ws o a2),.int .i64 (errA ws o a2)])∧MemAt 145 w' b g ws (spentO ws o a2) (spentC ws o a2 n)∧Chg b g w w':=by
 unfold plnV
 have HM:=Lib.hid h
 clear h
 go_enter Tryz.func208,Tryz.ntmps208
 go_wp2_with (go_at_call 207;refine (load_any (HM.out.alloc _) _).mono ?_;rintro e w' ⟨rfl,hm,hc⟩;have HX:=Lib.hid (And.intro hm (((Chg.refl b g w).alloc _).trans hc));clear hm hc)
 go_ret2
 exact ⟨rfl,HX.out⟩
theorem publish_any (h:MemAt 145 w b g ws o n) (a0 a1 a2 a3 a4 a5 v:Int):Calls Tryz.prog 279 #[.pointer (some ⟨b,0,none⟩),plnV a0 a1 a2 a3 a4 a5,.int .u64 v] w fun e w'=>e=.returned (.int .i64 (errA ws o a2))∧MemAt 145 w' b g (stored ws o a2 v) (spentO ws o a2) (spentC ws o a2 n)∧Chg b g w w':=by
 unfold plnV
 have HM:=Lib.hid h
 clear h
 go_enter Tryz.func279,Tryz.ntmps279
 go_wp2_with (go_at_call 262;refine (store_any (HM.out.alloc _) _ _).mono ?_;rintro e w' ⟨rfl,hm,hc⟩;have HX:=Lib.hid (And.intro hm (((Chg.refl b g w).alloc _).trans hc));clear hm hc)
 go_ret
 exact ⟨rfl,HX.out⟩
def lE (ws:List Int) (o:Bool) (p t:Int):Int:=if may8 t then errA ws o (plc p t) else 100
def lW (ws:List Int) (o:Bool) (p t:Int):List Int:=if may8 t then stored ws o (plc p t) 0 else ws
def lO (ws:List Int) (o:Bool) (p t:Int):Bool:=if may8 t then spentO ws o (plc p t) else o
def lC (ws:List Int) (o:Bool) (p t n:Int):Int:=if may8 t then spentC ws o (plc p t) n else n
theorem leave_any (h:MemAt 145 w b g ws o n) (a0 a1 a2 a3 a4 a5 t:Int):Calls Tryz.prog 342 #[.pointer (some ⟨b,0,none⟩),plnV a0 a1 a2 a3 a4 a5,.int .i64 t] w fun e w'=>e=.returned (.int .i64 (lE ws o a3 t))∧MemAt 145 w' b g (lW ws o a3 t) (lO ws o a3 t) (lC ws o a3 t n)∧Chg b g w w':=by
 unfold plnV lE lW lO lC
 have HM:=Lib.hid h
 clear h
 have HY:=Lib.hid (smay_any a3 t)
 cases hm:may8 t
 ·simp only [hm] at HY
  go_enter Tryz.func342,Tryz.ntmps342
  go_wp2_with (go_at_call 344;refine (HY.out _).mono ?_;rintro e w1 ⟨rfl,hb⟩;have HB:=Lib.hid (below_step (tb_alloc (tb_alloc (Below.refl w.heap.size w) _) _) hb);clear hb)
  go_ret
  exact ⟨rfl,HM.out.on HB.out,chg_from HB.out (Chg.refl _ _ _)⟩
 ·simp only [hm] at HY
  have HPL:=Lib.hid (splace_any a3 t hm)
  go_enter Tryz.func342,Tryz.ntmps342
  go_wp2_with (first
   | (go_at_call 344;refine (HY.out _).mono ?_;rintro e w1 ⟨rfl,hb⟩;have HB:=Lib.hid (below_step (tb_alloc (tb_alloc (Below.refl w.heap.size w) _) _) hb);obtain ⟨z0,z1⟩:w1.cell? ⟨w.heap.size+1,0,none⟩=some (.int .i64 a3)∧w1.cell? ⟨w.heap.size+1,1,none⟩=some (.int .i64 t):=⟨(hb.cell (p:=⟨w.heap.size+1,0,none⟩) (by simp)).trans (by simp [go_sem]),(hb.cell (p:=⟨w.heap.size+1,1,none⟩) (by simp)).trans (by simp [go_sem])⟩;clear hb)
   | (go_at_call 277;refine (HPL.out _).mono ?_;rintro e w2 ⟨rfl,hb⟩;have HB2:=Lib.hid (below_step HB.out hb);clear hb)
   | (go_at_call 262;refine (store_any (HM.out.on HB2.out) _ _).mono ?_;rintro e w3 ⟨rfl,hm3,hc⟩;have HX:=Lib.hid (And.intro hm3 (chg_from HB2.out hc));clear hm3 hc))
  go_ret
  exact ⟨rfl,HX.out⟩
end
end Go.Proofs.YtlkldgopliablaaGreatDoor.Md.Cv
namespace Go.Proofs.YtlkldgopliablaaGreatDoor.Rr
open Go.ChangeShapes Go.WideShapes Go.ChangeAt Go.RowKit Num
structure Rx where
 a:Int
 b:Int
 th:Int
 tag:Int
 args:List Nat
 m:Mac
 steps:Int
 part:Nat
 sub:Nat
 claim:Int
 stamp:Int
 cell:Int
 ver:Int
 now:Int
def u64B (v:Int):Prop:=0≤v∧v<18446744073709551616
def okW (ws:List Int):Prop:=∀ v∈ws,u64B v
theorem okW.at {ws:List Int} (h:okW ws) (i:Int):u64B (wordAt ws i):=by
 unfold wordAt
 rw [List.getD_eq_getElem?_getD]
 cases e:ws[i.toNat]? with
 | none=>exact ⟨by decide,by decide⟩
 | some v=>exact h v (List.mem_of_getElem? e)
theorem okW.set {ws:List Int} (h:okW ws) (i:Nat) {v:Int} (hv:u64B v):okW (ws.set i v):=fun u hu=>(List.mem_or_eq_of_mem_set hu).elim (h u) (fun e=>e ▸ hv)
theorem pass_in (v:Int):u64B (Md.Cv.passV v):=by
 unfold Md.Cv.passV u64B
 rw [IntKind.wrap_u64]
 omega
def plW (x:Rx):Int:=3+x.b+3*x.a
def atW (x:Rx) (j:Int):Int:=3+x.b+3*x.cell+j
def readX (x:Rx) (ws:List Int):Rx :=
 if x.sub=0 then { x with ver:=wordAt ws (atW x 0),sub:=if x.stamp<wordAt ws (atW x 0) then 3 else 1 }
 else if x.sub=1 then { x with now:=wordAt ws (atW x 1),sub:=2 }
 else if x.sub=2 then (if wordAt ws (atW x 0)=x.ver then { x with m:=giveM x.m (fixB x.now.toNat),cell:=-1,sub:=3 } else { x with sub:=3 })
 else { x with m:=giveM x.m (fixB (wordAt ws (atW x 2)).toNat),cell:=-1 }
def begX (x:Rx):Rx:={ x with m:=(stepM x.m).1,cell:=(stepM x.m).2.cell,sub:=0 }
def runX (x:Rx) (ws:List Int):Rx × Bool :=
 if 0≤x.cell then (readX x ws,true)
 else if (stepM x.m).2.kind=1 then (readX (begX x) ws,true)
 else ({ x with m:=(stepM x.m).1,part:=if (stepM x.m).2.kind=4 then 3 else 2 },false)
def tickX (x:Rx):Rx:={ x with steps:=x.steps+1 }
def comeX (x:Rx) (ws:List Int):Rx × List Int :=
 if x.sub=0 then ({ x with claim:=wordAt ws 2,sub:=1 },ws)
 else if x.sub=1 then ({ x with sub:=2 },ws.set (3+x.th).toNat (Md.Cv.passV x.claim))
 else ({ x with stamp:=wordAt ws 2,part:=2 },ws)
def leaveX (x:Rx):Rx:={ x with part:=4 }
def stepX (x:Rx) (ws:List Int):Rx × List Int × Bool :=
 if x.part=1 then ((comeX (tickX x) ws).1,(comeX (tickX x) ws).2,true)
 else if x.part=3 then (leaveX (tickX x),ws.set (3+x.th).toNat 0,true)
 else ((runX (tickX x) ws).1,ws,(runX (tickX x) ws).2)
structure Alike (x y:Rx):Prop where
 a:y.a=x.a
 b:y.b=x.b
 th:y.th=x.th
 tag:y.tag=x.tag
 args:y.args=x.args
 fuel:y.m.fuel=x.m.fuel
structure In0 (x:Rx):Prop where
 ca:1≤x.a∧x.a≤256
 cb:1≤x.b∧x.b≤8
 cel:x.m.cells=x.a
 th:0≤x.th∧x.th<x.b
 inv:Inv x.m
 few:x.args.length≤8
 part:1≤x.part∧x.part≤4
 p1:x.part=1→x.sub≤2∧x.cell=-1∧x.stamp=0∧(x.sub=0→x.claim=0)∧x.m.how=0∧¬ 0≤x.m.wait
 p2:x.part=2→x.m.how=0∧((x.cell=-1∧¬ 0≤x.m.wait)∨(0≤x.cell∧x.m.wait=x.cell∧1≤x.sub∧x.sub≤3))
 p3:x.part=3∨x.part=4→x.m.how≠0∧x.cell=-1∧¬ 0≤x.m.wait
 k:u64B x.claim
 s:u64B x.stamp
 v:u64B x.ver
 n:u64B x.now
structure InX (x:Rx):Prop extends In0 x where
 pos:0≤x.steps
 s1:x.part=1→x.steps=x.sub
 s2:x.part=2→(x.cell=-1→x.steps≤3+4*x.m.used)∧(0≤x.cell→x.steps≤4*x.m.used - 1+x.sub)
 s3:x.part=3→x.steps≤4*x.m.fuel+4
 s4:x.part=4→x.steps≤4*x.m.fuel+5
theorem In0.tick {x:Rx} (h:In0 x):In0 (tickX x):=⟨h.ca,h.cb,h.cel,h.th,h.inv,h.few,h.part,h.p1,h.p2,h.p3,h.k,h.s,h.v,h.n⟩
section
variable {x:Rx} {ws:List Int}
theorem In0.celB (h:In0 x):-1≤x.cell∧x.cell<x.a:=by
 have h1:=h.ca
 have hp:=h.part
 rcases (by omega:x.part=1∨x.part=2∨x.part=3∨x.part=4) with e | e | e | e
 ·have:=(h.p1 e).2.1;omega
 ·rcases (h.p2 e).2 with q | q
  ·omega
  ·have:=h.inv.wait
   have:=h.cel
   omega
 ·have:=(h.p3 (.inl e)).2.1;omega
 ·have:=(h.p3 (.inr e)).2.1;omega
theorem fix_lt (v:Int) (h:u64B v):fixB v.toNat<18446744073709551616:=fixB_lt (by have:=h.2;have:=h.1;omega)
theorem read_in (hI:Inv x.m) (hc:0≤x.cell) (hw:x.m.wait=x.cell) (hs:x.sub≤3) (h0:x.m.how=0) (hn:u64B x.now) (hv:u64B x.ver) (hW:okW ws) :
  Alike x (readX x ws)∧Inv (readX x ws).m∧(readX x ws).m.cells=x.m.cells∧(readX x ws).m.how=0∧(readX x ws).m.used=x.m.used∧(readX x ws).part=x.part∧(readX x ws).steps=x.steps∧(readX x ws).stamp=x.stamp∧(readX x ws).claim=x.claim∧u64B (readX x ws).now∧u64B (readX x ws).ver ∧
   (((readX x ws).cell=-1∧¬ 0≤(readX x ws).m.wait∧x.sub ≥ 2)∨((readX x ws).cell=x.cell∧(readX x ws).m=x.m∧x.sub+1≤(readX x ws).sub∧(readX x ws).sub≤3)):=by
 have hw0:0≤x.m.wait:=by omega
 have G:∀ y:Int,u64B y→Inv (giveM x.m (fixB y.toNat))∧(giveM x.m (fixB y.toNat)).cells=x.m.cells∧(giveM x.m (fixB y.toNat)).how=0∧(giveM x.m (fixB y.toNat)).used=x.m.used∧¬ 0≤(giveM x.m (fixB y.toNat)).wait∧(giveM x.m (fixB y.toNat)).fuel=x.m.fuel:=fun y hy=>by
  obtain ⟨q1,q2,q3,q4⟩:=give_goes hw0 (fixB y.toNat)
  exact ⟨inv_give hI (fix_lt y hy),q4.cells,q2.trans h0,q3,q1,q4.fuel⟩
 unfold readX
 split
 ·refine ⟨⟨rfl,rfl,rfl,rfl,rfl,rfl⟩,hI,rfl,h0,rfl,rfl,rfl,rfl,rfl,hn,hW.at _,.inr ⟨rfl,rfl,?_,?_⟩⟩
  ·dsimp only;split <;> omega
  ·dsimp only;split <;> omega
 ·split
  ·exact ⟨⟨rfl,rfl,rfl,rfl,rfl,rfl⟩,hI,rfl,h0,rfl,rfl,rfl,rfl,rfl,hW.at _,hv,.inr ⟨rfl,rfl,by dsimp only;omega,by dsimp only;omega⟩⟩
  ·split
   ·split
    ·obtain ⟨q1,q2,q3,q4,q5,q6⟩:=G _ hn
     exact ⟨⟨rfl,rfl,rfl,rfl,rfl,q6⟩,q1,q2,q3,q4,rfl,rfl,rfl,rfl,hn,hv,.inl ⟨rfl,q5,by omega⟩⟩
    ·exact ⟨⟨rfl,rfl,rfl,rfl,rfl,rfl⟩,hI,rfl,h0,rfl,rfl,rfl,rfl,rfl,hn,hv,.inr ⟨rfl,rfl,by dsimp only;omega,by dsimp only;omega⟩⟩
   ·obtain ⟨q1,q2,q3,q4,q5,q6⟩:=G (wordAt ws (atW x 2)) (hW.at _)
    exact ⟨⟨rfl,rfl,rfl,rfl,rfl,q6⟩,q1,q2,q3,q4,rfl,rfl,rfl,rfl,hn,hv,.inl ⟨rfl,q5,by omega⟩⟩
theorem run_in (h:InX x) (hp:x.part=2) (hW:okW ws):InX (runX (tickX x) ws).1∧Alike x (runX (tickX x) ws).1∧(runX (tickX x) ws).1.steps=x.steps+1∧((runX (tickX x) ws).1.part=2∨(runX (tickX x) ws).1.part=3):=by
 obtain ⟨h0,hq⟩:=h.p2 hp
 obtain ⟨hs1,hs2⟩:=h.s2 hp
 have hu:=h.inv.used
 have hf:=h.inv.fuel
 have hpos:=h.pos
 rcases hq with ⟨hc,hw⟩ | ⟨hc,hw,hs1',hs3⟩
 ·have nc:¬ 0≤x.cell:=by omega
  have hst:=hs1 hc
  obtain ⟨lk,tr⟩:=step_turns h.inv hw h0
  have hI:=inv_step h.inv
  rcases tr with ⟨k4,e1,e2⟩ | ⟨k1,e1,e2,e3,e4⟩ | ⟨k0,e1,e2,e3⟩
  ·have k1:¬ (stepM x.m).2.kind=1:=by omega
   have E:runX (tickX x) ws=({ tickX x with m:=(stepM x.m).1,part:=3 },false):=by
    unfold runX;rw [if_neg (show ¬ 0≤(tickX x).cell from nc),if_neg (show ¬ (stepM (tickX x).m).2.kind=1 from k1),if_pos (show (stepM (tickX x).m).2.kind=4 from k4)];rfl
   rw [E]
   exact ⟨⟨⟨h.ca,h.cb,lk.cells.trans h.cel,h.th,hI,h.few,by dsimp only;omega,(fun e=>by cases e),(fun e=>by cases e),fun _=>⟨e1,hc,e2⟩,h.k,h.s,h.v,h.n⟩,by show 0≤x.steps+1;omega,(fun e=>by cases e),(fun e=>by cases e),(fun _=>by show x.steps+1≤4*(stepM x.m).1.fuel+4;rw [lk.fuel];omega),(fun e=>by cases e)⟩,⟨rfl,rfl,rfl,rfl,rfl,lk.fuel⟩,rfl,.inr rfl⟩
  ·have E:runX (tickX x) ws=(readX (begX (tickX x)) ws,true):=by
    unfold runX;rw [if_neg (show ¬ 0≤(tickX x).cell from nc),if_pos (show (stepM (tickX x).m).2.kind=1 from k1)]
   obtain ⟨q1,q2,q3,q4,q5,q6,q7,q8,q9,q10,q11,q12⟩:=read_in (x:=begX (tickX x)) (ws:=ws) hI (by show 0≤(stepM x.m).2.cell;omega) (by show (stepM x.m).1.wait=(stepM x.m).2.cell;omega) (by show (0:Nat)≤3;omega) e3 h.n h.v hW
   rw [E]
   have s7:(readX (begX (tickX x)) ws).steps=x.steps+1:=q7
   have s5:(readX (begX (tickX x)) ws).m.used=x.m.used+1:=q5.trans e4
   have s6:(readX (begX (tickX x)) ws).part=2:=q6.trans hp
   obtain ⟨z1,z2,z3,z4⟩:(readX (begX (tickX x)) ws).cell=(stepM x.m).2.cell∧(readX (begX (tickX x)) ws).m=(stepM x.m).1∧1≤(readX (begX (tickX x)) ws).sub∧(readX (begX (tickX x)) ws).sub≤3:=by
    rcases q12 with ⟨_,_,z⟩ | ⟨z1,z2,z3,z4⟩
    ·exact absurd z (by show ¬ (0:Nat) ≥ 2;omega)
    ·exact ⟨z1,z2,z3,z4⟩
   refine ⟨⟨⟨by rw [q1.a];exact h.ca,by rw [q1.b];exact h.cb,by rw [q3,q1.a];exact lk.cells.trans h.cel,by rw [q1.th,q1.b];exact h.th,q2,by rw [q1.args];exact h.few,by dsimp only;omega,(fun e=>by dsimp only at e;omega),fun _=>⟨q4,.inr ⟨by dsimp only;omega,by dsimp only;rw [z1,z2];omega,z3,z4⟩⟩,(fun e=>by dsimp only at e;omega),by rw [q9];exact h.k,by rw [q8];exact h.s,q11,q10⟩,by dsimp only;omega,(fun e=>by dsimp only at e;omega),fun _=>⟨fun e=>by dsimp only at e;omega,fun _=>by dsimp only;omega⟩,(fun e=>by dsimp only at e;omega),(fun e=>by dsimp only at e;omega)⟩,⟨q1.a,q1.b,q1.th,q1.tag,q1.args,q1.fuel.trans lk.fuel⟩,s7,.inl s6⟩
  ·have k1:¬ (stepM x.m).2.kind=1:=by omega
   have k4:¬ (stepM x.m).2.kind=4:=by omega
   have E:runX (tickX x) ws=({ tickX x with m:=(stepM x.m).1,part:=2 },false):=by
    unfold runX;rw [if_neg (show ¬ 0≤(tickX x).cell from nc),if_neg (show ¬ (stepM (tickX x).m).2.kind=1 from k1),if_neg (show ¬ (stepM (tickX x).m).2.kind=4 from k4)];rfl
   rw [E]
   exact ⟨⟨⟨h.ca,h.cb,lk.cells.trans h.cel,h.th,hI,h.few,by dsimp only;omega,(fun e=>by cases e),fun _=>⟨e2,.inl ⟨hc,e1⟩⟩,(fun e=>by rcases e with e | e <;> cases e),h.k,h.s,h.v,h.n⟩,by show 0≤x.steps+1;omega,(fun e=>by cases e),fun _=>⟨fun _=>by show x.steps+1≤3+4*(stepM x.m).1.used;omega,fun e=>absurd e nc⟩,(fun e=>by cases e),(fun e=>by cases e)⟩,⟨rfl,rfl,rfl,rfl,rfl,lk.fuel⟩,rfl,.inl rfl⟩
 ·have hst:=hs2 hc
  have E:runX (tickX x) ws=(readX (tickX x) ws,true):=by
   unfold runX;rw [if_pos (show 0≤(tickX x).cell from hc)]
  obtain ⟨q1,q2,q3,q4,q5,q6,q7,q8,q9,q10,q11,q12⟩:=read_in (x:=tickX x) (ws:=ws) h.inv hc hw hs3 h0 h.n h.v hW
  rw [E]
  have s7:(readX (tickX x) ws).steps=x.steps+1:=q7
  have s5:(readX (tickX x) ws).m.used=x.m.used:=q5
  have s6:(readX (tickX x) ws).part=2:=q6.trans hp
  have Z:((readX (tickX x) ws).cell=-1∧¬ 0≤(readX (tickX x) ws).m.wait∧2≤x.sub)∨((readX (tickX x) ws).cell=x.cell∧(readX (tickX x) ws).m=x.m∧x.sub+1≤(readX (tickX x) ws).sub∧(readX (tickX x) ws).sub≤3):=q12
  refine ⟨⟨⟨by rw [q1.a];exact h.ca,by rw [q1.b];exact h.cb,by rw [q3,q1.a];exact h.cel,by rw [q1.th,q1.b];exact h.th,q2,by rw [q1.args];exact h.few,by dsimp only;omega,(fun e=>by dsimp only at e;omega),fun _=>⟨q4,?_⟩,(fun e=>by dsimp only at e;omega),by rw [q9];exact h.k,by rw [q8];exact h.s,q11,q10⟩,by dsimp only;omega,(fun e=>by dsimp only at e;omega),fun _=>⟨fun e=>?_,fun e=>?_⟩,(fun e=>by dsimp only at e;omega),(fun e=>by dsimp only at e;omega)⟩,⟨q1.a,q1.b,q1.th,q1.tag,q1.args,q1.fuel⟩,s7,.inl s6⟩
  ·rcases Z with ⟨z1,z2,_⟩ | ⟨z1,z2,z3,z4⟩
   ·exact .inl ⟨z1,z2⟩
   ·exact .inr ⟨by dsimp only;rw [z1];exact hc,by dsimp only;rw [z1,z2];exact hw,by dsimp only;omega,z4⟩
  ·dsimp only at e ⊢
   rcases Z with ⟨z1,z2,_⟩ | ⟨z1,z2,z3,z4⟩
   ·omega
   ·omega
  ·dsimp only at e ⊢
   rcases Z with ⟨z1,z2,_⟩ | ⟨z1,z2,z3,z4⟩
   ·omega
   ·omega
theorem step_in (h:InX x) (hp:x.part≠4) (hW:okW ws):InX (stepX x ws).1∧Alike x (stepX x ws).1∧(stepX x ws).1.steps=x.steps+1∧okW (stepX x ws).2.1∧(stepX x ws).2.1.length=ws.length:=by
 have hP:=h.part
 have hpos:=h.pos
 rcases (by omega:x.part=1∨x.part=2∨x.part=3) with e | e | e
 ·obtain ⟨c1,c2,c3,c4,c6,c7⟩:=h.p1 e
  have c5:=h.s1 e
  rcases (by omega:x.sub=0∨x.sub=1∨x.sub=2) with d | d | d
  ·have E:stepX x ws=({ tickX x with claim:=wordAt ws 2,sub:=1 },ws,true):=by unfold stepX comeX;rw [if_pos e,if_pos (show (tickX x).sub=0 from d)]
   rw [E]
   exact ⟨⟨⟨h.ca,h.cb,h.cel,h.th,h.inv,h.few,hP,fun _=>⟨by show (1:Nat)≤2;omega,c2,c3,(fun q=>by cases q),c6,c7⟩,(fun q=>by have q':x.part=2:=q;omega),h.p3,hW.at _,h.s,h.v,h.n⟩,by show 0≤x.steps+1;omega,(fun _=>by show x.steps+1=1;omega),(fun q=>by have q':x.part=2:=q;omega),(fun q=>by have q':x.part=3:=q;omega),(fun q=>by have q':x.part=4:=q;omega)⟩,⟨rfl,rfl,rfl,rfl,rfl,rfl⟩,rfl,hW,rfl⟩
  ·have E:stepX x ws=({ tickX x with sub:=2 },ws.set (3+x.th).toNat (Md.Cv.passV x.claim),true):=by unfold stepX comeX;rw [if_pos e,if_neg (show ¬ (tickX x).sub=0 by show ¬ x.sub=0;omega),if_pos (show (tickX x).sub=1 from d)];rfl
   rw [E]
   exact ⟨⟨⟨h.ca,h.cb,h.cel,h.th,h.inv,h.few,hP,fun _=>⟨by show (2:Nat)≤2;omega,c2,c3,(fun q=>by cases q),c6,c7⟩,(fun q=>by have q':x.part=2:=q;omega),h.p3,h.k,h.s,h.v,h.n⟩,by show 0≤x.steps+1;omega,(fun _=>by show x.steps+1=2;omega),(fun q=>by have q':x.part=2:=q;omega),(fun q=>by have q':x.part=3:=q;omega),(fun q=>by have q':x.part=4:=q;omega)⟩,⟨rfl,rfl,rfl,rfl,rfl,rfl⟩,rfl,hW.set _ (pass_in _),by simp⟩
  ·have E:stepX x ws=({ tickX x with stamp:=wordAt ws 2,part:=2 },ws,true):=by unfold stepX comeX;rw [if_pos e,if_neg (show ¬ (tickX x).sub=0 by show ¬ x.sub=0;omega),if_neg (show ¬ (tickX x).sub=1 by show ¬ x.sub=1;omega)]
   rw [E]
   have hu:=h.inv.used
   exact ⟨⟨⟨h.ca,h.cb,h.cel,h.th,h.inv,h.few,by dsimp only;omega,(fun q=>by cases q),fun _=>⟨c6,.inl ⟨c2,c7⟩⟩,(fun q=>by rcases q with q | q <;> cases q),h.k,hW.at _,h.v,h.n⟩,by show 0≤x.steps+1;omega,(fun q=>by cases q),fun _=>⟨fun _=>by show x.steps+1≤3+4*x.m.used;omega,fun q=>by have q':0≤x.cell:=q;omega⟩,(fun q=>by cases q),(fun q=>by cases q)⟩,⟨rfl,rfl,rfl,rfl,rfl,rfl⟩,rfl,hW,rfl⟩
 ·have E:stepX x ws=((runX (tickX x) ws).1,ws,(runX (tickX x) ws).2):=by unfold stepX;rw [if_neg (by omega),if_neg (by omega)]
  obtain ⟨q1,q2,q3,_⟩:=run_in h e hW
  rw [E]
  exact ⟨q1,q2,q3,hW,rfl⟩
 ·have E:stepX x ws=(leaveX (tickX x),ws.set (3+x.th).toNat 0,true):=by unfold stepX;rw [if_neg (by omega),if_pos e]
  obtain ⟨c1,c2,c3⟩:=h.p3 (.inl e)
  have c4:=h.s3 e
  rw [E]
  exact ⟨⟨⟨h.ca,h.cb,h.cel,h.th,h.inv,h.few,⟨by show 1≤4;omega,by show 4≤4;omega⟩,(fun q=>by cases q),(fun q=>by cases q),fun _=>⟨c1,c2,c3⟩,h.k,h.s,h.v,h.n⟩,by show 0≤x.steps+1;omega,(fun q=>by cases q),(fun q=>by cases q),(fun q=>by cases q),(fun _=>by show x.steps+1≤4*x.m.fuel+5;omega)⟩,⟨rfl,rfl,rfl,rfl,rfl,rfl⟩,rfl,hW.set _ ⟨by decide,by decide⟩,by simp⟩
theorem InX.few_steps (h:InX x):x.steps≤4*x.m.fuel+5∧(x.part≠4→x.steps≤4*x.m.fuel+4):=by
 have hP:=h.part
 have hu:=h.inv.used
 have hf:=h.inv.fuel
 rcases (by omega:x.part=1∨x.part=2∨x.part=3∨x.part=4) with e | e | e | e
 ·have:=h.s1 e;have:=h.p1 e;omega
 ·have:=h.s2 e;have:=h.p2 e;omega
 ·have:=h.s3 e;omega
 ·have:=h.s4 e;omega
end
end Go.Proofs.YtlkldgopliablaaGreatDoor.Rr
namespace Go.Proofs.YtlkldgopliablaaGreatDoor.Sx
open Go.ChangeShapes Go.WideShapes Go.ChangeAt Go.RowKit Num
theorem row_num {w:World} {p:Option Addr} {c:Nat} {l:List Nat} (h:RowAt 71 w p c (fls l)) (i:Nat) (hi:i<l.length):∃ g,p=some ⟨g,0,none⟩∧g<w.heap.size∧w.cell? ⟨g,i,none⟩=some (.float .f64 l[i])∧w.frozen? ⟨g,i,none⟩=false:=by
 have ho:=h.own
 rw [fls_len] at ho
 rcases ho.2 with ⟨_,q⟩ | ⟨g,cap,cur,hv,_,hg,_⟩
 ·omega
 ·cases hv
  refine ⟨g,rfl,lt_of_block hg,?_,frozen_of_row w g i _ _ hg⟩
  rw [ho.cellAt i (by omega)]
  simp [fls,hi]
def hasN (n:Nat) (i:Int):Bool:=decide (0≤i) && decide (i<(n:Int))
def getV (l:List Nat) (i:Int):Nat:=if hasN l.length i then l.getD i.toNat 0 else 0
end Go.Proofs.YtlkldgopliablaaGreatDoor.Sx
namespace Go.Proofs.YtlkldgopliablaaGreatDoor.Sx
open Go.ChangeShapes Go.WideShapes Go.ChangeAt Go.RowKit Num
attribute [local go_sem] run_store_float frombits_run bits_run
theorem fMake (n:Nat) (hn:n≤256) (w:World):(Instr.makeSlice 24 (.int .i64 (n:Int)) (.int .i64 (n:Int))).run Tryz.prog w=.ok (.slice (some ⟨w.heap.size,0,none⟩) n n) (w.alloc (.cells (fls (List.replicate n 0)).toArray 71)):=by
 obtain ⟨i,hi,hz0,hz1,hz2⟩:=info_parts fInfo
 rw [run_make w 24 71 i (.float .f64 0) Tryz.underlying24 hi hz0 .i64 .i64 n n (by omega) (Int.le_refl _) (by rw [hz2];omega) (by omega)]
 have e:(madeCells (.float .f64 0:Value).cells (((n:Int)).toNat*i.size))=(fls (List.replicate n 0)).toArray:=by
  rw [hz1,Nat.mul_one,Int.toNat_natCast]
  apply Array.toList_inj.1
  rw [show (.float .f64 0:Value).cells=#[.float .f64 0] from rfl,toList_madeCells_one]
  simp [fls]
 rw [e,Int.toNat_natCast]
end Go.Proofs.YtlkldgopliablaaGreatDoor.Sx
namespace Go.Proofs.YtlkldgopliablaaGreatDoor.Sx
open Go.ChangeShapes Go.WideShapes Go.ChangeAt Go.RowKit Num
attribute [local go_sem] run_store_float frombits_run bits_run
end Go.Proofs.YtlkldgopliablaaGreatDoor.Sx
namespace Go.Proofs.YtlkldgopliablaaGreatDoor.Sx
open Go.ChangeShapes Go.WideShapes Go.ChangeAt Go.RowKit Num
attribute [local go_sem] run_store_float frombits_run bits_run
theorem row_getD {w:World} {p:Option Addr} {c:Nat} {l:List Nat} (h:RowAt 71 w p c (fls l)) (i:Nat) (hi:i<l.length):∃ g,p=some ⟨g,0,none⟩∧g<w.heap.size∧w.cell? ⟨g,i,none⟩=some (.float .f64 (l.getD i 0))∧w.frozen? ⟨g,i,none⟩=false:=by
 have:=row_num h i hi
 rwa [show l[i]=l.getD i 0 by simp [hi]] at this
end Go.Proofs.YtlkldgopliablaaGreatDoor.Sx
namespace Go.Proofs.YtlkldgopliablaaGreatDoor.Sx
open Go.ChangeShapes Go.WideShapes Go.ChangeAt Go.RowKit Num
attribute [local go_sem] run_store_float frombits_run bits_run
end Go.Proofs.YtlkldgopliablaaGreatDoor.Sx
namespace Go.Proofs.YtlkldgopliablaaGreatDoor
open Go.ChangeShapes Go.WideShapes Go.ChangeAt Go.RowKit Num
def goM (s:List Nat) (m:Mac):Mac:=if (stepM m).2.kind=1 then giveM (stepM m).1 (Sx.getV s (stepM m).2.cell) else (stepM m).1
def okS (s:List Nat):Prop:=∀ x∈s,okN x
theorem getV_ok {s:List Nat} (h:okS s) (i:Int):okN (Sx.getV s i):=by
 unfold Sx.getV
 split
 ·exact getD_all 0 okN_zero s h _
 ·exact okN_zero
structure Rest (m:Mac):Prop where
 inv:Inv m
 nw:¬ 0≤m.wait
 cel:∀ t∈m.buf,0≤t.1∧t.1<m.cells
 nod:(cellsOfL m.buf).Nodup
theorem step_over {m:Mac} (hw:¬ 0≤m.wait) (h0:m.how≠0):stepM m=(m,askEnd):=by
 unfold stepM
 rw [if_neg hw,if_neg h0]
theorem go_over {s:List Nat} {m:Mac} (hw:¬ 0≤m.wait) (h0:m.how≠0):goM s m=m:=by
 unfold goM
 rw [step_over hw h0]
 rfl
theorem go_inv {s:List Nat} {m:Mac} (h:Inv m) (hs:okS s):Inv (goM s m):=by
 unfold goM
 split
 ·exact inv_give (inv_step h) (getV_ok hs _).2
 ·exact inv_step h
theorem go_kind1 {s:List Nat} {m:Mac} (h:(stepM m).2.kind=1):goM s m=giveM (stepM m).1 (Sx.getV s (stepM m).2.cell):=if_pos h
theorem go_kindN {s:List Nat} {m:Mac} (h:(stepM m).2.kind≠1):goM s m=(stepM m).1:=if_neg h
theorem go_turns {s:List Nat} {m:Mac} (h:Inv m) (hw:¬ 0≤m.wait) (h0:m.how=0):Like m (goM s m)∧¬ 0≤(goM s m).wait∧(((stepM m).2.kind=4∧(goM s m).how≠0)∨((stepM m).2.kind≠4∧(goM s m).how=0∧(goM s m).used=m.used+1)):=by
 obtain ⟨hl,⟨k1,k2,k3⟩ | ⟨k1,k2,k3,k4,k5⟩ | ⟨k1,k2,k3,k4⟩⟩:=step_turns h hw h0
 ·rw [go_kindN (by rw [k1];decide)]
  exact ⟨hl,k3,.inl ⟨k1,k2⟩⟩
 ·rw [go_kind1 k1]
  obtain ⟨g1,g2,g3,g4⟩:=give_goes k3 (Sx.getV s (stepM m).2.cell)
  exact ⟨hl.trans g4,g1,.inr ⟨by rw [k1];decide,g2.trans k4,g3.trans k5⟩⟩
 ·rw [go_kindN (by rcases k1 with k | k | k <;> rw [k] <;> decide)]
  exact ⟨hl,k2,.inr ⟨by rcases k1 with k | k | k <;> rw [k] <;> decide,k3,k4⟩⟩
theorem go_buf {s:List Nat} {m:Mac}:(goM s m).buf=(stepM m).1.buf:=by
 unfold goM
 split
 ·exact give_bufs _
 ·rfl
theorem cells_mem {l:Wr} {c:Int}:c∈cellsOfL l ↔ ∃ t∈l,t.1=c:=by unfold cellsOfL;exact List.mem_map
theorem putC_cells {l:Wr} {c:Int} {y:Nat} {P:Int→Prop} (h:∀ t∈l,P t.1) (hc:P c):∀ t∈putC l c y,P t.1:=fun t ht=>by
 have h1:t.1∈cellsOfL (putC l c y):=cells_mem.2 ⟨t,ht,rfl⟩
 rw [cells_put] at h1
 have h2:t.1∈cellsOfL l∨t.1=c:=by
  split at h1
  ·exact .inl h1
  ·rcases List.mem_append.1 h1 with h | h
   ·exact .inl h
   ·exact .inr (by simpa using h)
 rcases h2 with h2 | h2
 ·obtain ⟨u,hu,e⟩:=cells_mem.1 h2
  exact e ▸ h u hu
 ·exact h2 ▸ hc
theorem Rest.go {s:List Nat} {m:Mac} (h:Rest m) (hs:okS s):Rest (goM s m):=by
 by_cases h0:m.how=0
 ·obtain ⟨hl,g1,_⟩:=go_turns (s:=s) h.inv h.nw h0
  have hb:=step_bufs h.inv h.nw h0
  refine ⟨go_inv h.inv hs,g1,?_,?_⟩
  ·rw [go_buf,hl.cells]
   rcases hb with ⟨_,e⟩ | ⟨_,e⟩ | ⟨_,e,_⟩ | ⟨_,e,_⟩ | ⟨_,e,_,c1,c2⟩
   iterate 4 (rw [e];exact h.cel)
   rw [e]
   exact putC_cells (P:=fun c=>0≤c∧c<m.cells) h.cel ⟨c1,c2⟩
  ·rw [go_buf]
   rcases hb with ⟨_,e⟩ | ⟨_,e⟩ | ⟨_,e,_⟩ | ⟨_,e,_⟩ | ⟨_,e,_,c1,c2⟩
   iterate 4 (rw [e];exact h.nod)
   rw [e]
   exact nodup_put h.nod
 ·rw [go_over h.nw h0]
  exact h
theorem new_rest {a b f e t:Int} {c:List Ins} {l:List Nat} (hc:Md.cfgB a b f e=true) (hx:∀ k,k<c.length→(ci c k).x<18446744073709551616) (hl:∀ x∈l,x<18446744073709551616):Rest (newM a f e t c l) :=
 ⟨inv_new hc hx hl,show ¬ (0:Int)≤-1 by decide,fun t ht=>by simp [newM] at ht,by simp [newM,cellsOfL]⟩
end Go.Proofs.YtlkldgopliablaaGreatDoor
namespace Go.Proofs.YtlkldgopliablaaGreatDoor.Ww
open Go.ChangeShapes Go.WideShapes Go.ChangeAt Go.RowKit Num Rr
structure Wx where
 a:Int
 b:Int
 th:Int
 tag:Int
 args:List Nat
 m:Mac
 steps:Int
 part:Nat
 tick:Int
 stamp:Int
 was:List Nat
 at_:Nat
 num:Int
def plY (x:Wx):Int:=3+x.b+3*x.a
def atC (x:Wx) (c j:Int):Int:=3+x.b+3*c+j
def nowN (x:Wx) (ws:List Int) (c:Int):Nat:=fixB (wordAt ws (atC x c 1)).toNat
def runY (x:Wx) (ws:List Int):Wx × Bool :=
 if (stepM x.m).2.kind=1 then ({ x with m:=giveM (stepM x.m).1 (nowN x ws (stepM x.m).2.cell) },true)
 else if (stepM x.m).2.kind=3∧(stepM x.m).2.first=true then ({ x with m:=(stepM x.m).1,was:=x.was ++ [nowN x ws (stepM x.m).2.cell] },true)
 else if (stepM x.m).2.kind=4 then ({ x with m:=(stepM x.m).1,part:=if (stepM x.m).1.how=1 then 5 else 8 },false)
 else ({ x with m:=(stepM x.m).1 },false)
def scanY (x:Wx) (ws:List Int):Wx :=
 if wordAt ws (3+(x.at_:Int))=0∨x.stamp<wordAt ws (3+(x.at_:Int)) then
  (if ((x.at_+1:Nat):Int)=x.b then { x with at_:=0,part:=if x.m.buf.length=0 then 7 else 6 } else { x with at_:=x.at_+1 })
 else x
def backW (x:Wx) (ws:List Int):List Int :=
 if x.at_ % 3=0 then ws.set (atC x (x.m.buf.getD (x.at_ / 3) (0,0)).1 2).toNat ((x.was.getD (x.at_ / 3) 0:Nat):Int)
 else if x.at_ % 3=1 then ws.set (atC x (x.m.buf.getD (x.at_ / 3) (0,0)).1 0).toNat (Md.Cv.passV x.stamp)
 else ws.set (atC x (x.m.buf.getD (x.at_ / 3) (0,0)).1 1).toNat (((x.m.buf.getD (x.at_ / 3) (0,0)).2:Nat):Int)
def backY (x:Wx):Wx:={ x with at_:=x.at_+1,part:=if x.at_+1=3*x.m.buf.length then 7 else 6 }
def tickY (x:Wx):Wx:={ x with steps:=x.steps+1 }
def stepY0 (x:Wx) (ws:List Int):Wx × List Int × Bool :=
 if x.part=1 then ({ x with tick:=wordAt ws 0,part:=2 },ws.set 0 (Md.Cv.passV (wordAt ws 0)),true)
 else if x.part=2 then ((if wordAt ws 1=x.tick then { x with part:=3 } else x),ws,true)
 else if x.part=3 then ({ x with stamp:=wordAt ws 2,part:=4 },ws,true)
 else if x.part=4 then ((runY x ws).1,ws,(runY x ws).2)
 else if x.part=5 then (scanY x ws,ws,true)
 else if x.part=6 then (backY x,backW x ws,true)
 else if x.part=7 then ({ x with num:=wrap64 (Md.Cv.passV x.stamp),part:=8 },ws.set 2 (Md.Cv.passV x.stamp),true)
 else ({ x with part:=9 },ws.set 1 (Md.Cv.passV x.tick),true)
def stepY (x:Wx) (ws:List Int):Wx × List Int × Bool:=stepY0 (tickY x) ws
structure AlikeY (x y:Wx):Prop where
 a:y.a=x.a
 b:y.b=x.b
 th:y.th=x.th
 tag:y.tag=x.tag
 args:y.args=x.args
 lk:Like x.m y.m
theorem AlikeY.refl (x:Wx):AlikeY x x:=⟨rfl,rfl,rfl,rfl,rfl,Like.refl _⟩
structure InY (x:Wx):Prop where
 ca:1≤x.a∧x.a≤256
 cb:1≤x.b∧x.b≤8
 cel:x.m.cells=x.a
 th:0≤x.th∧x.th<x.b
 rest:Rest x.m
 few:x.args.length≤8
 part:1≤x.part∧x.part≤9
 tk:u64B x.tick
 sp:u64B x.stamp
 wlen:x.was.length=x.m.buf.length
 wok:∀ v∈x.was,okN v
 run:x.part≤4→x.m.how=0
 fin:5≤x.part→x.m.how≠0
 com:5≤x.part→x.part≤7→x.m.how=1
 at4:x.part≤4→x.at_=0
 at5:x.part=5→(x.at_:Int)<x.b
 at6:x.part=6→x.at_<3*x.m.buf.length
theorem InY.tick {x:Wx} (h:InY x):InY (tickY x):=⟨h.ca,h.cb,h.cel,h.th,h.rest,h.few,h.part,h.tk,h.sp,h.wlen,h.wok,h.run,h.fin,h.com,h.at4,h.at5,h.at6⟩
theorem now_ok {ws:List Int} (h:okW ws) (x:Wx) (c:Int):okN (nowN x ws c):=okN_fix (by have:=h.at (atC x c 1);have h1:=this.1;have h2:=this.2;omega)
section
variable {x:Wx} {ws:List Int}
theorem rest_step {m:Mac} (h:Rest m) (hk:(stepM m).2.kind≠1):Rest (stepM m).1:=by
 have:=h.go (s:=[]) (fun _ hx=>by cases hx)
 rw [go_kindN hk] at this
 exact this
theorem rest_give {m:Mac} (h:Rest m) (h0:m.how=0) (hk:(stepM m).2.kind=1) {v:Nat} (hv:okN v):Rest (giveM (stepM m).1 v)∧(giveM (stepM m).1 v).how=0∧Like m (giveM (stepM m).1 v)∧(giveM (stepM m).1 v).used=m.used+1∧(giveM (stepM m).1 v).buf=m.buf:=by
 obtain ⟨lk,tr⟩:=step_turns h.inv h.nw h0
 have hb:=step_bufs h.inv h.nw h0
 rcases tr with ⟨k4,_⟩ | ⟨_,e1,e2,e3,e4⟩ | ⟨k0,_⟩
 ·omega
 ·obtain ⟨g1,g2,g3,g4⟩:=give_goes e2 v
  have eb:(giveM (stepM m).1 v).buf=m.buf:=by
   rw [give_bufs]
   rcases hb with ⟨q,_⟩ | ⟨q,_⟩ | ⟨_,e,_⟩ | ⟨q,_⟩ | ⟨q,_⟩
   ·omega
   ·omega
   ·exact e
   ·omega
   ·omega
  refine ⟨⟨inv_give (inv_step h.inv) hv.2,g1,?_,?_⟩,g2.trans e3,lk.trans g4,g3.trans e4,eb⟩
  ·rw [eb,(lk.trans g4).cells];exact h.cel
  ·rw [eb];exact h.nod
 ·omega
theorem run_inY (h:InY x) (hp:x.part=4) (hW:okW ws):InY (runY x ws).1∧AlikeY x (runY x ws).1∧(runY x ws).1.steps=x.steps:=by
 have h0:=h.run (by omega)
 have hR:=h.rest
 obtain ⟨lk,tr⟩:=step_turns hR.inv hR.nw h0
 have hb:=step_bufs hR.inv hR.nw h0
 unfold runY
 by_cases k1:(stepM x.m).2.kind=1
 ·rw [if_pos k1]
  obtain ⟨r1,r2,r3,r4,r5⟩:=rest_give hR h0 k1 (now_ok hW x (stepM x.m).2.cell)
  exact ⟨⟨h.ca,h.cb,r3.cells.trans h.cel,h.th,r1,h.few,h.part,h.tk,h.sp,by dsimp only;rw [r5];exact h.wlen,h.wok,fun _=>r2,(fun q=>by dsimp only at q;omega),(fun q=>by dsimp only at q;omega),h.at4,(fun q=>by dsimp only at q;omega),(fun q=>by dsimp only at q;omega)⟩,⟨rfl,rfl,rfl,rfl,rfl,r3⟩,rfl⟩
 ·rw [if_neg k1]
  have rs:=rest_step hR k1
  by_cases k3:(stepM x.m).2.kind=3∧(stepM x.m).2.first=true
  ·rw [if_pos k3]
   have hh:(stepM x.m).1.how=0:=by
    rcases tr with ⟨k4,_⟩ | ⟨q,_⟩ | ⟨_,_,e,_⟩
    ·omega
    ·omega
    ·exact e
   have hl:(stepM x.m).1.buf.length=x.m.buf.length+1:=by
    rcases hb with ⟨q,_⟩ | ⟨q,_⟩ | ⟨q,_⟩ | ⟨q,_⟩ | ⟨_,e,f,_⟩
    ·omega
    ·omega
    ·omega
    ·omega
    ·rw [e,putC_len]
     rw [k3.2] at f
     have hc:hasC x.m.buf (stepM x.m).2.cell=false:=by simpa using f.symm
     rw [hc]
     rfl
   refine ⟨⟨h.ca,h.cb,lk.cells.trans h.cel,h.th,rs,h.few,h.part,h.tk,h.sp,?_,fun v hv=>?_,fun _=>hh,(fun q=>by dsimp only at q;omega),(fun q=>by dsimp only at q;omega),h.at4,(fun q=>by dsimp only at q;omega),(fun q=>by dsimp only at q;omega)⟩,⟨rfl,rfl,rfl,rfl,rfl,lk⟩,rfl⟩
   ·dsimp only
    rw [List.length_append,h.wlen,hl]
    rfl
   ·rcases List.mem_append.1 hv with q | q
    ·exact h.wok v q
    ·have q':v=nowN x ws (stepM x.m).2.cell:=by simpa using q
     rw [q']
     exact now_ok hW x _
  ·rw [if_neg k3]
   have hl:(stepM x.m).1.buf.length=x.m.buf.length:=by
    rcases hb with ⟨_,e⟩ | ⟨_,e⟩ | ⟨_,e,_⟩ | ⟨_,e,_⟩ | ⟨q,e,f,_⟩
    ·rw [e]
    ·rw [e]
    ·rw [e]
    ·rw [e]
    ·rw [e,putC_len]
     have hc:hasC x.m.buf (stepM x.m).2.cell=true:=by
      cases hq:hasC x.m.buf (stepM x.m).2.cell with
      | true=>rfl
      | false=>exact absurd ⟨q,by rw [f,hq];rfl⟩ k3
     rw [hc]
     rfl
   by_cases k4:(stepM x.m).2.kind=4
   ·rw [if_pos k4]
    have hh:(stepM x.m).1.how≠0:=by
     rcases tr with ⟨_,e,_⟩ | ⟨q,_⟩ | ⟨q,_⟩
     ·exact e
     ·omega
     ·omega
    by_cases hc:(stepM x.m).1.how=1
    ·rw [if_pos hc]
     exact ⟨⟨h.ca,h.cb,lk.cells.trans h.cel,h.th,rs,h.few,by dsimp only;omega,h.tk,h.sp,by dsimp only;rw [hl];exact h.wlen,h.wok,(fun q=>by dsimp only at q;omega),fun _=>hh,fun _ _=>hc,(fun q=>by dsimp only at q;omega),(fun _=>by dsimp only;rw [h.at4 (by omega)];have:=h.cb;omega),(fun q=>by dsimp only at q;omega)⟩,⟨rfl,rfl,rfl,rfl,rfl,lk⟩,rfl⟩
    ·rw [if_neg hc]
     exact ⟨⟨h.ca,h.cb,lk.cells.trans h.cel,h.th,rs,h.few,by dsimp only;omega,h.tk,h.sp,by dsimp only;rw [hl];exact h.wlen,h.wok,(fun q=>by dsimp only at q;omega),fun _=>hh,(fun _ q=>by dsimp only at q;omega),(fun q=>by dsimp only at q;omega),(fun q=>by dsimp only at q;omega),(fun q=>by dsimp only at q;omega)⟩,⟨rfl,rfl,rfl,rfl,rfl,lk⟩,rfl⟩
   ·rw [if_neg k4]
    have hh:(stepM x.m).1.how=0:=by
     rcases tr with ⟨q,_⟩ | ⟨q,_⟩ | ⟨_,_,e,_⟩
     ·omega
     ·omega
     ·exact e
    exact ⟨⟨h.ca,h.cb,lk.cells.trans h.cel,h.th,rs,h.few,h.part,h.tk,h.sp,by dsimp only;rw [hl];exact h.wlen,h.wok,fun _=>hh,(fun q=>by dsimp only at q;omega),(fun q=>by dsimp only at q;omega),h.at4,(fun q=>by dsimp only at q;omega),(fun q=>by dsimp only at q;omega)⟩,⟨rfl,rfl,rfl,rfl,rfl,lk⟩,rfl⟩
theorem scan_inY (h:InY x) (hp:x.part=5):InY (scanY x ws)∧AlikeY x (scanY x ws)∧(scanY x ws).steps=x.steps:=by
 have h5:=h.at5 hp
 unfold scanY
 split
 ·split
  ·by_cases hl:x.m.buf.length=0
   ·rw [if_pos hl]
    exact ⟨⟨h.ca,h.cb,h.cel,h.th,h.rest,h.few,by dsimp only;omega,h.tk,h.sp,h.wlen,h.wok,(fun q=>by dsimp only at q;omega),fun _=>h.fin (by omega),fun _ _=>h.com (by omega) (by omega),(fun q=>by dsimp only at q;omega),(fun q=>by dsimp only at q;omega),(fun q=>by dsimp only at q;omega)⟩,⟨rfl,rfl,rfl,rfl,rfl,Like.refl _⟩,rfl⟩
   ·rw [if_neg hl]
    exact ⟨⟨h.ca,h.cb,h.cel,h.th,h.rest,h.few,by dsimp only;omega,h.tk,h.sp,h.wlen,h.wok,(fun q=>by dsimp only at q;omega),fun _=>h.fin (by omega),fun _ _=>h.com (by omega) (by omega),(fun q=>by dsimp only at q;omega),(fun q=>by dsimp only at q;omega),(fun _=>by dsimp only;omega)⟩,⟨rfl,rfl,rfl,rfl,rfl,Like.refl _⟩,rfl⟩
  ·next hne=>exact ⟨⟨h.ca,h.cb,h.cel,h.th,h.rest,h.few,h.part,h.tk,h.sp,h.wlen,h.wok,h.run,h.fin,h.com,(fun q=>by dsimp only at q;omega),(fun _=>by dsimp only;omega),(fun q=>by dsimp only at q;omega)⟩,⟨rfl,rfl,rfl,rfl,rfl,Like.refl _⟩,rfl⟩
 ·exact ⟨h,AlikeY.refl x,rfl⟩
theorem back_inY (h:InY x) (hp:x.part=6) (hW:okW ws):InY (backY x)∧AlikeY x (backY x)∧okW (backW x ws)∧(backW x ws).length=ws.length:=by
 have h6:=h.at6 hp
 have hk:x.at_ / 3<x.m.buf.length:=by omega
 have hw:(x.was.getD (x.at_ / 3) 0)<18446744073709551616:=(getD_all 0 okN_zero x.was h.wok _).2
 have hm:x.m.buf.getD (x.at_ / 3) (0,0)=x.m.buf[x.at_ / 3]:=by simp [hk]
 have hv:(x.m.buf.getD (x.at_ / 3) (0,0)).2<18446744073709551616:=by
  rw [hm]
  exact (h.rest.inv.buf _ (List.getElem_mem hk)).2
 refine ⟨?_,⟨rfl,rfl,rfl,rfl,rfl,Like.refl _⟩,?_,?_⟩
 ·unfold backY
  by_cases q:x.at_+1=3*x.m.buf.length
  ·rw [if_pos q]
   exact ⟨h.ca,h.cb,h.cel,h.th,h.rest,h.few,by dsimp only;omega,h.tk,h.sp,h.wlen,h.wok,(fun q=>by dsimp only at q;omega),fun _=>h.fin (by omega),fun _ _=>h.com (by omega) (by omega),(fun q=>by dsimp only at q;omega),(fun q=>by dsimp only at q;omega),(fun q=>by dsimp only at q;omega)⟩
  ·rw [if_neg q]
   exact ⟨h.ca,h.cb,h.cel,h.th,h.rest,h.few,by dsimp only;omega,h.tk,h.sp,h.wlen,h.wok,(fun q=>by dsimp only at q;omega),fun _=>h.fin (by omega),fun _ _=>h.com (by omega) (by omega),(fun q=>by dsimp only at q;omega),(fun q=>by dsimp only at q;omega),(fun _=>by dsimp only;omega)⟩
 ·unfold backW
  split
  ·exact hW.set _ ⟨by omega,by omega⟩
  ·split
   ·exact hW.set _ (pass_in _)
   ·exact hW.set _ ⟨by omega,by omega⟩
 ·unfold backW
  split
  ·simp
  ·split <;> simp
theorem step_inY (h:InY x) (hp:x.part≠9) (hW:okW ws):InY (stepY x ws).1∧AlikeY x (stepY x ws).1∧(stepY x ws).1.steps=x.steps+1∧okW (stepY x ws).2.1∧(stepY x ws).2.1.length=ws.length:=by
 have hP:=h.part
 have t:=h.tick
 have e8:(tickY x).part=x.part:=rfl
 unfold stepY stepY0
 rcases (by omega:x.part=1∨x.part=2∨x.part=3∨x.part=4∨x.part=5∨x.part=6∨x.part=7∨x.part=8) with e | e | e | e | e | e | e | e
 ·rw [if_pos (e8.trans e)]
  exact ⟨⟨h.ca,h.cb,h.cel,h.th,h.rest,h.few,by dsimp only;omega,hW.at _,h.sp,h.wlen,h.wok,fun _=>h.run (by omega),(fun q=>by dsimp only at q;omega),(fun q=>by dsimp only at q;omega),fun _=>h.at4 (by omega),(fun q=>by dsimp only at q;omega),(fun q=>by dsimp only at q;omega)⟩,⟨rfl,rfl,rfl,rfl,rfl,Like.refl _⟩,rfl,hW.set _ (pass_in _),by simp⟩
 ·rw [if_neg (by omega),if_pos (e8.trans e)]
  dsimp only
  split
  ·exact ⟨⟨h.ca,h.cb,h.cel,h.th,h.rest,h.few,by dsimp only;omega,h.tk,h.sp,h.wlen,h.wok,fun _=>h.run (by omega),(fun q=>by dsimp only at q;omega),(fun q=>by dsimp only at q;omega),fun _=>h.at4 (by omega),(fun q=>by dsimp only at q;omega),(fun q=>by dsimp only at q;omega)⟩,⟨rfl,rfl,rfl,rfl,rfl,Like.refl _⟩,rfl,hW,rfl⟩
  ·exact ⟨t,⟨rfl,rfl,rfl,rfl,rfl,Like.refl _⟩,rfl,hW,rfl⟩
 ·rw [if_neg (by omega),if_neg (by omega),if_pos (e8.trans e)]
  exact ⟨⟨h.ca,h.cb,h.cel,h.th,h.rest,h.few,by dsimp only;omega,h.tk,hW.at _,h.wlen,h.wok,fun _=>h.run (by omega),(fun q=>by dsimp only at q;omega),(fun q=>by dsimp only at q;omega),fun _=>h.at4 (by omega),(fun q=>by dsimp only at q;omega),(fun q=>by dsimp only at q;omega)⟩,⟨rfl,rfl,rfl,rfl,rfl,Like.refl _⟩,rfl,hW,rfl⟩
 ·rw [if_neg (by omega),if_neg (by omega),if_neg (by omega),if_pos (e8.trans e)]
  obtain ⟨k1,k2,k3⟩:=run_inY t (e8.trans e) hW
  exact ⟨k1,⟨k2.a,k2.b,k2.th,k2.tag,k2.args,k2.lk⟩,k3,hW,rfl⟩
 ·rw [if_neg (by omega),if_neg (by omega),if_neg (by omega),if_neg (by omega),if_pos (e8.trans e)]
  obtain ⟨k1,k2,k3⟩:=scan_inY (ws:=ws) t (e8.trans e)
  exact ⟨k1,⟨k2.a,k2.b,k2.th,k2.tag,k2.args,k2.lk⟩,k3,hW,rfl⟩
 ·rw [if_neg (by omega),if_neg (by omega),if_neg (by omega),if_neg (by omega),if_neg (by omega),if_pos (e8.trans e)]
  obtain ⟨k1,k2,k3,k4⟩:=back_inY t (e8.trans e) hW
  exact ⟨k1,⟨k2.a,k2.b,k2.th,k2.tag,k2.args,k2.lk⟩,rfl,k3,k4⟩
 ·rw [if_neg (by omega),if_neg (by omega),if_neg (by omega),if_neg (by omega),if_neg (by omega),if_neg (by omega),if_pos (e8.trans e)]
  exact ⟨⟨h.ca,h.cb,h.cel,h.th,h.rest,h.few,by dsimp only;omega,h.tk,h.sp,h.wlen,h.wok,(fun q=>by dsimp only at q;omega),fun _=>h.fin (by omega),(fun _ q=>by dsimp only at q;omega),(fun q=>by dsimp only at q;omega),(fun q=>by dsimp only at q;omega),(fun q=>by dsimp only at q;omega)⟩,⟨rfl,rfl,rfl,rfl,rfl,Like.refl _⟩,rfl,hW.set _ (pass_in _),by simp⟩
 ·rw [if_neg (by omega),if_neg (by omega),if_neg (by omega),if_neg (by omega),if_neg (by omega),if_neg (by omega),if_neg (by omega)]
  exact ⟨⟨h.ca,h.cb,h.cel,h.th,h.rest,h.few,by dsimp only;omega,h.tk,h.sp,h.wlen,h.wok,(fun q=>by dsimp only at q;omega),fun _=>h.fin (by omega),(fun _ q=>by dsimp only at q;omega),(fun q=>by dsimp only at q;omega),(fun q=>by dsimp only at q;omega),(fun q=>by dsimp only at q;omega)⟩,⟨rfl,rfl,rfl,rfl,rfl,Like.refl _⟩,rfl,hW.set _ (pass_in _),by simp⟩
end
end Go.Proofs.YtlkldgopliablaaGreatDoor.Ww
namespace Go.Proofs.YtlkldgopliablaaGreatDoor.Rr
open Go.ChangeShapes Go.WideShapes Go.ChangeAt Go.RowKit Num
end Go.Proofs.YtlkldgopliablaaGreatDoor.Rr
namespace Go.Proofs.YtlkldgopliablaaGreatDoor.Ww
open Go.ChangeShapes Go.WideShapes Go.ChangeAt Go.RowKit Num Rr
end Go.Proofs.YtlkldgopliablaaGreatDoor.Ww
namespace Go.Proofs.YtlkldgopliablaaGreatDoor
open Go.ChangeShapes Go.WideShapes Go.ChangeAt Go.RowKit Num
end Go.Proofs.YtlkldgopliablaaGreatDoor
namespace Go.Proofs.YtlkldgopliablaaGreatDoor.Ww
open Go.ChangeShapes Go.WideShapes Go.ChangeAt Go.RowKit Num Rr
end Go.Proofs.YtlkldgopliablaaGreatDoor.Ww
namespace Go.Proofs.YtlkldgopliablaaGreatDoor.Rr
open Go.ChangeShapes Go.WideShapes Go.ChangeAt Go.RowKit Num
end Go.Proofs.YtlkldgopliablaaGreatDoor.Rr
namespace Go.Proofs.YtlkldgopliablaaGreatDoor.Ww
open Go.ChangeShapes Go.WideShapes Go.ChangeAt Go.RowKit Num Rr
end Go.Proofs.YtlkldgopliablaaGreatDoor.Ww
namespace Go.Proofs.YtlkldgopliablaaGreatDoor.Ww
open Go.ChangeShapes Go.WideShapes Go.ChangeAt Go.RowKit Num Rr
end Go.Proofs.YtlkldgopliablaaGreatDoor.Ww
namespace Go.Proofs.YtlkldgopliablaaGreatDoor.Ww
open Go.ChangeShapes Go.WideShapes Go.ChangeAt Go.RowKit Num Rr
structure Cf where
 a:Int
 b:Int
end Go.Proofs.YtlkldgopliablaaGreatDoor.Ww
namespace Go.Proofs.YtlkldgopliablaaGreatDoor.Ww
open Go.ChangeShapes Go.WideShapes Go.ChangeAt Go.RowKit Num Rr
end Go.Proofs.YtlkldgopliablaaGreatDoor.Ww
namespace Go.Proofs.YtlkldgopliablaaGreatDoor.Ww
open Go.ChangeShapes Go.WideShapes Go.ChangeAt Go.RowKit Num Rr
abbrev Tx:=Option ((Mac × Rx) ⊕ (Mac × Wx))
abbrev Tx.idle:Tx:=none
abbrev Tx.rd (m0:Mac) (x:Rx):Tx:=some (.inl (m0,x))
abbrev Tx.wr (m0:Mac) (x:Wx):Tx:=some (.inr (m0,x))
def upT (T:Nat→Tx) (t:Nat) (y:Tx):Nat→Tx:=fun u=>if u=t then y else T u
theorem upT_self (T:Nat→Tx) (t:Nat) (y:Tx):upT T t y t=y:=if_pos rfl
theorem upT_ne (T:Nat→Tx) {t u:Nat} (y:Tx) (h:u≠t):upT T t y u=T u:=if_neg h
end Go.Proofs.YtlkldgopliablaaGreatDoor.Ww
namespace Go.Proofs.YtlkldgopliablaaGreatDoor.Ww
open Go.ChangeShapes Go.WideShapes Go.ChangeAt Go.RowKit Num Rr
end Go.Proofs.YtlkldgopliablaaGreatDoor.Ww
namespace Go.Proofs.YtlkldgopliablaaGreatDoor.Ww
open Go.ChangeShapes Go.WideShapes Go.ChangeAt Go.RowKit Num Rr
end Go.Proofs.YtlkldgopliablaaGreatDoor.Ww
namespace Go.Proofs.YtlkldgopliablaaGreatDoor.Ww
open Go.ChangeShapes Go.WideShapes Go.ChangeAt Go.RowKit Num Rr
end Go.Proofs.YtlkldgopliablaaGreatDoor.Ww
namespace Go.Proofs.YtlkldgopliablaaGreatDoor.Ww
open Go.ChangeShapes Go.WideShapes Go.ChangeAt Go.RowKit Num Rr
def su (f:Nat→Nat):Nat→Nat
 | 0=>0
 | n+1=>su f n+f n
theorem su_same {f g:Nat→Nat}:∀ n,(∀ i,i<n→f i=g i)→su f n=su g n
 | 0,_=>rfl
 | n+1,h=>by
  show su f n+f n=su g n+g n
  rw [su_same n (fun i hi=>h i (by omega)),h n (by omega)]
theorem su_upd {f g:Nat→Nat} {t:Nat}:∀ n,t<n→(∀ i,i<n→i≠t→g i=f i)→su g n+f t=su f n+g t
 | 0,h,_=>absurd h (Nat.not_lt_zero _)
 | n+1,h,k=>by
  show su g n+g n+f t=su f n+f n+g t
  by_cases e:t=n
  ·subst e
   rw [su_same t (fun i hi=>k i (by omega) (by omega))]
   omega
  ·have:=su_upd n (by omega) (fun i hi=>k i (by omega))
   rw [k n (by omega) (fun q=>e q.symm)]
   omega
structure Eg where
 C:Cf
 n:Nat
 nc:Nat→Nat
 nx:Nat→Nat→Tx
 T:Nat→Tx
 B:Nat→Nat
 ws:List Int
 cnt:Int
 drw:Nat
 com:Nat
def isW:Tx→Bool
 | some (.inr _)=>true
 | _=>false
def updN (B:Nat→Nat) (t v:Nat):Nat→Nat:=fun u=>if u=t then v else B u
theorem updN_self (B:Nat→Nat) (t v:Nat):updN B t v t=v:=if_pos rfl
theorem updN_ne (B:Nat→Nat) {t u:Nat} (v:Nat) (h:u≠t):updN B t v u=B u:=if_neg h
def begE (E:Eg) (t:Nat):Eg:=if (E.T t).isNone then { E with T:=upT E.T t (E.nx t (E.B t)),B:=updN E.B t (E.B t+1),drw:=E.drw+(isW (E.nx t (E.B t))).toNat } else E
def goT:Tx→List Int→Tx × List Int × Bool × Bool
 | none,ws=>(none,ws,false,false)
 | some (.inl (m,x)),ws=>(if (stepX x ws).1.part=4 then .idle else .rd m (stepX x ws).1,(stepX x ws).2.1,(stepX x ws).2.2,false)
 | some (.inr (m,x)),ws=>(if (stepY x ws).1.part=9 then .idle else .wr m (stepY x ws).1,(stepY x ws).2.1,(stepY x ws).2.2,decide ((stepY x ws).1.part=9) && x.m.how == 1)
def goE (E:Eg) (t:Nat):Eg:={ E with T:=upT E.T t (goT (E.T t) E.ws).1,ws:=(goT (E.T t) E.ws).2.1,cnt:=if (goT (E.T t) E.ws).2.2.1 then up E.cnt else E.cnt,com:=E.com+(goT (E.T t) E.ws).2.2.2.toNat }
def finE (E:Eg) (t:Nat):Prop:=E.T t=.idle∧E.B t=E.nc t
end Go.Proofs.YtlkldgopliablaaGreatDoor.Ww
namespace Go.Proofs.YtlkldgopliablaaGreatDoor.Ww
open Go.ChangeShapes Go.WideShapes Go.ChangeAt Go.RowKit Num Rr
instance (E:Eg) (t:Nat):Decidable (finE E t):=by
 unfold finE
 cases E.T t with
 | none=>exact if h:E.B t=E.nc t then isTrue ⟨rfl,h⟩ else isFalse (fun q=>h q.2)
 | some y=>exact isFalse (fun q=>by cases q.1)
end Go.Proofs.YtlkldgopliablaaGreatDoor.Ww
namespace Go.Proofs.YtlkldgopliablaaGreatDoor.Ww
open Go.ChangeShapes Go.WideShapes Go.ChangeAt Go.RowKit Num Rr
abbrev Ty:=(Mac × Rx) ⊕ (Mac × Wx)
structure Dd where
 th:Nat
 no:Nat
 bg:Nat
 en:Nat
 tx:Ty
structure Hs where
 E:Eg
 D:Nat→Dd
 dn:Nat
 at_:Nat→Nat
 N:Nat
def updD (D:Nat→Dd) (i:Nat) (v:Dd):Nat→Dd:=fun u=>if u=i then v else D u
theorem updD_self (D:Nat→Dd) (i:Nat) (v:Dd):updD D i v i=v:=if_pos rfl
theorem updD_ne (D:Nat→Dd) {i u:Nat} (v:Dd) (h:u≠i):updD D i v u=D u:=if_neg h
def goS:Ty→List Int→Ty
 | .inl (m,x),ws=>.inl (m,(stepX x ws).1)
 | .inr (m,x),ws=>.inr (m,(stepY x ws).1)
def overS:Ty→Bool
 | .inl (_,x)=>decide (x.part=4)
 | .inr (_,x)=>decide (x.part=9)
def begH (H:Hs) (t:Nat):Hs :=
 match H.E.T t,H.E.nx t (H.E.B t) with
 | none,some y=>{ H with E:=begE H.E t,D:=updD H.D H.dn ⟨t,H.E.B t,H.N+1,0,y⟩,dn:=H.dn+1,at_:=updN H.at_ t H.dn,N:=H.N+1 }
 | _,_=>{ H with N:=H.N+1 }
def goH (H:Hs) (t:Nat):Hs :=
 match H.E.T t with
 | none=>H
 | some y=>{ H with E:=goE H.E t,D:=updD H.D (H.at_ t) { H.D (H.at_ t) with tx:=goS y H.E.ws,en:=if overS (goS y H.E.ws) then H.N else 0 } }
def stepH (H:Hs) (t:Nat):Hs:=goH (begH H t) t
end Go.Proofs.YtlkldgopliablaaGreatDoor.Ww
namespace Go.Proofs.YtlkldgopliablaaGreatDoor.Ww
open Go.ChangeShapes Go.WideShapes Go.ChangeAt Go.RowKit Num Rr
end Go.Proofs.YtlkldgopliablaaGreatDoor.Ww
namespace Go.Proofs.YtlkldgopliablaaGreatDoor.Ww
open Go.ChangeShapes Go.WideShapes Go.ChangeAt Go.RowKit Num Rr
end Go.Proofs.YtlkldgopliablaaGreatDoor.Ww
namespace Go.Proofs.YtlkldgopliablaaGreatDoor.Ww
open Go.ChangeShapes Go.WideShapes Go.ChangeAt Go.RowKit Num Rr
end Go.Proofs.YtlkldgopliablaaGreatDoor.Ww
namespace Go.Proofs.YtlkldgopliablaaGreatDoor.Ww
open Go.ChangeShapes Go.WideShapes Go.ChangeAt Go.RowKit Num Rr
end Go.Proofs.YtlkldgopliablaaGreatDoor.Ww
namespace Go.Proofs.YtlkldgopliablaaGreatDoor.Ww
open Go.ChangeShapes Go.WideShapes Go.ChangeAt Go.RowKit Num Rr
end Go.Proofs.YtlkldgopliablaaGreatDoor.Ww
namespace Go.Proofs.YtlkldgopliablaaGreatDoor.Ww
open Go.ChangeShapes Go.WideShapes Go.ChangeAt Go.RowKit Num Rr
end Go.Proofs.YtlkldgopliablaaGreatDoor.Ww
namespace Go.Proofs.YtlkldgopliablaaGreatDoor.Ww
open Go.ChangeShapes Go.WideShapes Go.ChangeAt Go.RowKit Num Rr
end Go.Proofs.YtlkldgopliablaaGreatDoor.Ww
namespace Go.Proofs.YtlkldgopliablaaGreatDoor.Ww
open Go.ChangeShapes Go.WideShapes Go.ChangeAt Go.RowKit Num Rr
structure Rs where
 H:Hs
 stp:Nat→Bool
 R:Nat
 fr:Nat→Nat
 to_:Nat→Nat
 ah:Nat→Nat
def doneB (E:Eg) (p:Nat→Bool):Nat→Bool
 | 0=>true
 | n+1=>doneB E p n && (decide (finE E n) || p n)
theorem doneB_iff (E:Eg) (p:Nat→Bool):∀ n,doneB E p n=true ↔ ∀ u,u<n→finE E u∨p u=true
 | 0=>⟨fun _ _ h=>absurd h (Nat.not_lt_zero _),fun _=>rfl⟩
 | n+1=>by
  show (doneB E p n && (decide (finE E n) || p n))=true ↔ _
  rw [Bool.and_eq_true,doneB_iff E p n,Bool.or_eq_true,decide_eq_true_iff]
  constructor
  ·intro h u hu
   rcases Nat.lt_or_eq_of_le (Nat.le_of_lt_succ hu) with q | q
   ·exact h.1 u q
   ·rw [q];exact h.2
  ·exact fun h=>⟨fun u hu=>h u (by omega),h n (by omega)⟩
def stepR (X:Rs) (t:Nat):Rs :=
 let H':=stepH X.H t
 let p:Nat→Bool:=fun u=>if u=t then true else X.stp u
 let R':=if doneB H'.E p H'.E.n then X.R+1 else X.R
 { H:=H'
  stp:=if doneB H'.E p H'.E.n then fun _=>false else p
  R:=R'
  fr:=if (X.H.E.T t).isNone then updN X.fr X.H.dn X.R else X.fr
  to_:=if (H'.E.T t).isNone then updN X.to_ (H'.at_ t) R' else X.to_
  ah:=if (X.H.E.T t).isNone then updN X.ah X.H.dn (wordAt X.H.E.ws 0 - wordAt X.H.E.ws 1).toNat else X.ah }
end Go.Proofs.YtlkldgopliablaaGreatDoor.Ww
namespace Go.Proofs.YtlkldgopliablaaGreatDoor.Rr
open Go.ChangeShapes Go.WideShapes Go.ChangeAt Go.RowKit Num
structure Rz where
 bm:Nat
 K:List Nat
 xc:Nat
 pa:Option Addr
 ca:Nat
def Rz.KK (z:Rz):List Nat:=z.K ++ fpR z.pa
def ptrV (q:Option Nat):Value:=.pointer (q.map fun n=>⟨n,0,none⟩)
def gX (b:Nat) (z:Rz) (q:Option Nat) (F:List Nat):List Nat:=b::z.xc::(q.toList ++ F)
def xboxV (x:Rx) (z:Rz) (q:Option Nat):Array Value:=#[.int .i64 0,.int .i64 1,.int .i64 2,.int .i64 3,.int .i64 (3+x.b),.int .i64 (3+x.b+3*x.a),.pointer (some ⟨z.bm,0,none⟩),.int .i64 x.steps,.int .i64 x.tag,.slice z.pa x.args.length z.ca,.int .i64 x.th,.int .i64 (x.part:Int),.pointer (some ⟨z.xc,0,none⟩),ptrV q]
structure RawAt (w:World) (b:Nat) (x:Rx) (z:Rz) (q:Option Nat) (F:List Nat) (c:Md.Cv.Cs) (r:Md.Ce.Rd):Prop where
 box:w.heap[b]?=some (.cells (xboxV x z q) 219 (0,0))
 mac:Mc w z.bm F z.K x.m
 com:Md.Cv.CmAt w z.xc c
 rd:∀ n,q=some n→Md.Ce.RdAt w n r
 arg:RowAt 71 w z.pa z.ca (fls x.args)
 sf:Sep (b::z.xc::q.toList) F
 sk:Sep (b::z.xc::q.toList) z.KK
 fa:Sep (fpR z.pa) F
theorem rdAt_keep {w w':World} {n:Nat} {r:Md.Ce.Rd} (h:Md.Ce.RdAt w n r) (k:w'.heap[n]?=w.heap[n]?):Md.Ce.RdAt w' n r:=Md.Ce.RbAt.keep h k
theorem turn_wide {F F':List Nat} {w w':World} (t:Turn F F' w w') (A:List Nat):Turn (A ++ F) (A ++ F') w w' :=
 ⟨t.os,t.tape,t.output,t.size,fun k hk hn=>t.block k hk (fun q=>hn (List.mem_append.2 (.inr q))),fun k hk=>(List.mem_append.1 hk).elim (fun q=>.inl (List.mem_append.2 (.inl q))) (fun q=>(t.own k q).imp (fun y=>List.mem_append.2 (.inr y)) id)⟩
theorem turn_of {L F:List Nat} {w w':World} (o1:w'.os=w.os) (o2:w'.tape=w.tape) (o3:w'.output=w.output) (hs:w.heap.size≤w'.heap.size) (hL:∀ k,k∈L→k∈F) (hb:∀ k,k<w.heap.size→k∉L→w'.heap[k]?=w.heap[k]?):Turn F F w w' :=
 ⟨o1,o2,o3,hs,fun k hk hn=>hb k hk (fun q=>hn (hL k q)),fun _ h=>.inl h⟩
section
variable {w w':World} {b:Nat} {x:Rx} {z:Rz} {q:Option Nat} {F:List Nat} {c:Md.Cv.Cs} {r:Md.Ce.Rd}
theorem RawAt.ltB (h:RawAt w b x z q F c r):b<w.heap.size:=lt_of_block h.box
theorem RawAt.blw (h:RawAt w b x z q F c r):Blw w (gX b z q F):=fun k hk=>by
 simp only [gX,List.mem_cons,List.mem_append,Option.mem_toList] at hk
 rcases hk with rfl | rfl | hk | hk
 ·exact h.ltB
 ·exact h.com.lt
 ·exact Md.Ce.RdAt.lt (h.rd k hk)
 ·exact h.mac.blw k hk
theorem RawAt.blwK (h:RawAt w b x z q F c r):Blw w z.KK:=fun k hk=>by
 rcases List.mem_append.1 hk with hk | hk
 ·exact h.mac.blwK k hk
 ·exact h.arg.blw k hk
theorem RawAt.sep (h:RawAt w b x z q F c r):Sep z.KK (gX b z q F):=fun k hk hq=>by
 have hX:=h.sk.symm k hk
 have hF:k∉F:=fun q=>by
  rcases List.mem_append.1 hk with hk | hk
  ·exact h.mac.sepK k hk q
  ·exact h.fa k hk q
 simp only [gX,List.mem_cons,List.mem_append] at hq hX
 rcases hq with rfl | rfl | hq | hq
 ·exact hX (.inl rfl)
 ·exact hX (.inr (.inl rfl))
 ·exact hX (.inr (.inr hq))
 ·exact hF hq
theorem in_b {b:Nat} {z:Rz} {q:Option Nat} {F:List Nat}:b∈gX b z q F:=by simp [gX]
theorem in_c {b:Nat} {z:Rz} {q:Option Nat} {F:List Nat}:z.xc∈gX b z q F:=by simp [gX]
theorem in_q {b n:Nat} {z:Rz} {q:Option Nat} {F:List Nat} (h:q=some n):n∈gX b z q F:=by simp [gX,h]
theorem in_F {b k:Nat} {z:Rz} {q:Option Nat} {F:List Nat} (h:k∈F):k∈gX b z q F:=by simp [gX,h]
theorem RawAt.keep (h:RawAt w b x z q F c r) (k:Kept (gX b z q F) w w') (k2:Kept z.KK w w'):RawAt w' b x z q F c r :=
 ⟨(k.2 b in_b).trans h.box,h.mac.keep ⟨k.1,fun i hi=>k.2 i (in_F hi)⟩ ⟨k.1,fun i hi=>k2.2 i (List.mem_append.2 (.inl hi))⟩,h.com.keep (k.2 _ in_c),fun n hn=>rdAt_keep (h.rd n hn) (k.2 n (in_q hn)),h.arg.keep ⟨k.1,fun i hi=>k2.2 i (List.mem_append.2 (.inr hi))⟩,h.sf,h.sk,h.fa⟩
theorem RawAt.on (h:RawAt w b x z q F c r) (k:Below w.heap.size w w'):RawAt w' b x z q F c r:=h.keep (kept_below k h.blw) (kept_below k h.blwK)
theorem RawAt.cell (h:RawAt w b x z q F c r) (j:Nat):w.cell? ⟨b,j,none⟩=(xboxV x z q)[j]?:=cell_of_row w b j _ _ _ h.box
theorem RawAt.free (h:RawAt w b x z q F c r) (j:Nat):w.frozen? ⟨b,j,none⟩=false:=frozen_of_row w b j _ _ h.box
theorem RawAt.bc (h:RawAt w b x z q F c r):b≠z.xc:=Md.Cv.ne_ty h.box h.com (by decide)
theorem RawAt.bq (h:RawAt w b x z q F c r) {n:Nat} (hn:q=some n):b≠n:=Md.Cv.ne_ty h.box (h.rd n hn) (by decide)
theorem RawAt.cq (h:RawAt w b x z q F c r) {n:Nat} (hn:q=some n):z.xc≠n:=Md.Cv.ne_ty h.com (h.rd n hn) (by decide)
theorem RawAt.nF (h:RawAt w b x z q F c r) {k:Nat} (hk:k=b∨k=z.xc∨q=some k):k∉F:=h.sf k (by simpa using hk)
theorem RawAt.nK (h:RawAt w b x z q F c r) {k:Nat} (hk:k=b∨k=z.xc∨q=some k):k∉z.KK:=h.sk k (by simpa using hk)
theorem keptB {F:List Nat} {w:World} {b j:Nat} {v:Value} (h:b∉F):Kept F w (w.setCell ⟨b,j,none⟩ v):=⟨by simp,fun i hi=>heap_setCell_other _ _ _ _ (fun (e:i=b)=>h (e ▸ hi))⟩
theorem RawAt.put (h:RawAt w b x z q F c r) (j:Nat) (v:Value) (x':Rx) (e:(xboxV x z q).setIfInBounds j v=xboxV x' z q) (hm:x'.m=x.m) (ha:x'.args=x.args):RawAt (w.setCell ⟨b,j,none⟩ v) b x' z q F c r:=by
 have kF:Kept F w (w.setCell ⟨b,j,none⟩ v):=keptB (h.nF (.inl rfl))
 have kK:Kept z.KK w (w.setCell ⟨b,j,none⟩ v):=keptB (h.nK (.inl rfl))
 refine ⟨?_,by rw [hm];exact h.mac.keep kF ⟨kK.1,fun i hi=>kK.2 i (List.mem_append.2 (.inl hi))⟩,h.com.keep (heap_setCell_other _ _ _ _ (fun (e:z.xc=b)=>h.bc e.symm)),fun n hn=>rdAt_keep (h.rd n hn) (heap_setCell_other _ _ _ _ (fun (e:n=b)=>h.bq hn e.symm)),by rw [ha];exact h.arg.keep ⟨kK.1,fun i hi=>kK.2 i (List.mem_append.2 (.inr hi))⟩,h.sf,h.sk,h.fa⟩
 rw [← e]
 exact heap_setCell_same w b j _ _ v h.box
theorem RawAt.putQ (h:RawAt w b x z q F c r) (q':Option Nat) (r':Md.Ce.Rd) (hq:∀ n,q'=some n→Md.Ce.RdAt w n r'∧n∉F∧n∉z.KK):RawAt (w.setCell ⟨b,13,none⟩ (ptrV q')) b x z q' F c r':=by
 have kF:Kept F w (w.setCell ⟨b,13,none⟩ (ptrV q')):=keptB (h.nF (.inl rfl))
 have kK:Kept z.KK w (w.setCell ⟨b,13,none⟩ (ptrV q')):=keptB (h.nK (.inl rfl))
 have nq:∀ n,q'=some n→b≠n:=fun n hn=>Md.Cv.ne_ty h.box (hq n hn).1 (by decide)
 refine ⟨?_,h.mac.keep kF ⟨kK.1,fun i hi=>kK.2 i (List.mem_append.2 (.inl hi))⟩,h.com.keep (heap_setCell_other _ _ _ _ (fun (e:z.xc=b)=>h.bc e.symm)),fun n hn=>rdAt_keep (hq n hn).1 (heap_setCell_other _ _ _ _ (fun (e:n=b)=>nq n hn e.symm)),h.arg.keep ⟨kK.1,fun i hi=>kK.2 i (List.mem_append.2 (.inr hi))⟩,fun k hk=>?_,fun k hk=>?_,h.fa⟩
 ·exact heap_setCell_same w b 13 _ _ _ h.box
 ·simp only [List.mem_cons,Option.mem_toList] at hk
  rcases hk with hk | hk | hk
  ·exact h.nF (.inl hk)
  ·exact h.nF (.inr (.inl hk))
  ·exact (hq k hk).2.1
 ·simp only [List.mem_cons,Option.mem_toList] at hk
  rcases hk with hk | hk | hk
  ·exact h.nK (.inl hk)
  ·exact h.nK (.inr (.inl hk))
  ·exact (hq k hk).2.2
theorem RawAt.mach (h:RawAt w b x z q F c r) {m':Mac} (g:Gm w F z.bm z.K w' m'):∃ F',RawAt w' b { x with m:=m' } z q F' c r∧Turn F F' w w':=by
 obtain ⟨F',hM,t⟩:=g.mc
 have lX:Blw w (b::z.xc::q.toList):=fun k hk=>h.blw k (by simp only [gX,List.mem_cons,List.mem_append] at hk ⊢;rcases hk with hk | hk | hk <;> simp [hk])
 have kX:Kept (b::z.xc::q.toList) w w':=t.kept h.sf lX
 have kA:Kept (fpR z.pa) w w':=t.kept h.fa h.arg.blw
 exact ⟨F',⟨(kX.2 b (by simp)).trans h.box,hM,h.com.keep (kX.2 _ (by simp)),fun n hn=>rdAt_keep (h.rd n hn) (kX.2 n (by simp [hn])),h.arg.keep kA,h.sf.turn lX t,h.sk,h.fa.turn h.arg.blw t⟩,t⟩
end
def Mid (W:World) (G0:List Nat) (b:Nat) (z:Rz) (mb mg:Nat) (w:World) (x:Rx) (q:Option Nat) (c:Md.Cv.Cs) (r:Md.Ce.Rd) (ws:List Int) (o:Bool) (n:Int):Prop :=
 ∃ F,RawAt w b x z q F c r∧MemAt 145 w mb mg ws o n∧Sep [mb,mg] (gX b z q F)∧Sep [mb,mg] z.KK∧Turn G0 (mb::mg::gX b z q F) W w
section
variable {W w w':World} {G0:List Nat} {b mb mg:Nat} {x:Rx} {z:Rz} {q:Option Nat} {c:Md.Cv.Cs} {r:Md.Ce.Rd} {ws:List Int} {o:Bool} {n:Int}
theorem Mid.mem (h:Mid W G0 b z mb mg w x q c r ws o n):MemAt 145 w mb mg ws o n:=by obtain ⟨F,_,h2,_⟩:=h;exact h2
theorem Mid.com (h:Mid W G0 b z mb mg w x q c r ws o n):Md.Cv.CmAt w z.xc c:=by obtain ⟨F,h1,_⟩:=h;exact h1.com
theorem Mid.rd (h:Mid W G0 b z mb mg w x q c r ws o n) {k:Nat} (hk:q=some k):Md.Ce.RdAt w k r:=by obtain ⟨F,h1,_⟩:=h;exact h1.rd k hk
theorem Mid.cell (h:Mid W G0 b z mb mg w x q c r ws o n) (j:Nat):w.cell? ⟨b,j,none⟩=(xboxV x z q)[j]?:=by obtain ⟨F,h1,_⟩:=h;exact h1.cell j
theorem Mid.free (h:Mid W G0 b z mb mg w x q c r ws o n) (j:Nat):w.frozen? ⟨b,j,none⟩=false:=by obtain ⟨F,h1,_⟩:=h;exact h1.free j
theorem Mid.ltB (h:Mid W G0 b z mb mg w x q c r ws o n):b<w.heap.size:=by obtain ⟨F,h1,_⟩:=h;exact h1.ltB
theorem Mid.size (h:Mid W G0 b z mb mg w x q c r ws o n):W.heap.size≤w.heap.size:=by obtain ⟨F,_,_,_,_,t⟩:=h;exact t.size
theorem Mid.on (h:Mid W G0 b z mb mg w x q c r ws o n) (k:Below w.heap.size w w'):Mid W G0 b z mb mg w' x q c r ws o n:=by
 obtain ⟨F,h1,h2,h3,h4,t⟩:=h
 exact ⟨F,h1.on k,h2.on k,h3,h4,t.trans (Below.turn k _)⟩
theorem Mid.alloc (h:Mid W G0 b z mb mg w x q c r ws o n) (y:Obj):Mid W G0 b z mb mg (w.alloc y) x q c r ws o n:=h.on (below_alloc _ y)
theorem Mid.same (h:Mid W G0 b z mb mg w x q c r ws o n) (k:Same w w'):Mid W G0 b z mb mg w' x q c r ws o n:=h.on (k.below _)
theorem Mid.drew (h:Mid W G0 b z mb mg w x q c r ws o n):Mid W G0 b z mb mg w.drew x q c r ws o n:=h.same (Same.drew w)
theorem Mid.put (h:Mid W G0 b z mb mg w x q c r ws o n) (j:Nat) (v:Value) (x':Rx) (e:(xboxV x z q).setIfInBounds j v=xboxV x' z q) (hm:x'.m=x.m) (ha:x'.args=x.args):Mid W G0 b z mb mg (w.setCell ⟨b,j,none⟩ v) x' q c r ws o n:=by
 obtain ⟨F,h1,h2,h3,h4,t⟩:=h
 refine ⟨F,h1.put j v x' e hm ha,h2.other (fun e=>h3 mb (by simp) (e ▸ in_b)) (fun e=>h3 mg (by simp) (e ▸ in_b)) j v,h3,h4,t.trans (turn_of (L:=[b]) rfl rfl rfl (by simp) (fun k hk=>?_) fun k _ hn=>heap_setCell_other _ _ _ _ (by simpa using hn))⟩
 simp at hk
 subst hk
 simp [gX]
theorem Mid.memb {ws':List Int} {o':Bool} {n':Int} (h:Mid W G0 b z mb mg w x q c r ws o n) (k:Chg mb mg w w') (hm:MemAt 145 w' mb mg ws' o' n'):Mid W G0 b z mb mg w' x q c r ws' o' n':=by
 obtain ⟨F,h1,h2,h3,h4,t⟩:=h
 refine ⟨F,h1.keep ⟨k.size,fun i hi=>k.block i (h1.blw i hi) (fun e=>h3 mb (by simp) (e ▸ hi)) (fun e=>h3 mg (by simp) (e ▸ hi))⟩ ⟨k.size,fun i hi=>k.block i (h1.blwK i hi) (fun e=>h4 mb (by simp) (e ▸ hi)) (fun e=>h4 mg (by simp) (e ▸ hi))⟩,hm,h3,h4,t.trans (turn_of (L:=[mb,mg]) k.os k.tape k.output k.size (fun i hi=>?_) fun i hi hn=>k.block i hi (fun e=>hn (by simp [e])) (fun e=>hn (by simp [e])))⟩
 simp only [List.mem_cons,List.not_mem_nil,or_false] at hi
 rcases hi with rfl | rfl <;> simp
theorem Mid.comes {ws':List Int} {o':Bool} {n':Int} {c':Md.Cv.Cs} (h:Mid W G0 b z mb mg w x q c r ws o n) (k:Md.Cv.Ch3 mb mg z.xc w w') (hm:MemAt 145 w' mb mg ws' o' n') (hc:Md.Cv.CmAt w' z.xc c'):Mid W G0 b z mb mg w' x q c' r ws' o' n':=by
 obtain ⟨F,h1,h2,h3,h4,t⟩:=h
 have G:∀ i,i∈gX b z q F→i≠z.xc→w'.heap[i]?=w.heap[i]?:=fun i hi hn=>k.block i (h1.blw i hi) (fun e=>h3 mb (by simp) (e ▸ hi)) (fun e=>h3 mg (by simp) (e ▸ hi)) hn
 have G2:∀ i,i∈z.KK→w'.heap[i]?=w.heap[i]?:=fun i hi=>k.block i (h1.blwK i hi) (fun e=>h4 mb (by simp) (e ▸ hi)) (fun e=>h4 mg (by simp) (e ▸ hi)) (fun e=>h1.nK (.inr (.inl rfl)) (e ▸ hi))
 refine ⟨F,⟨(G b in_b h1.bc).trans h1.box,h1.mac.keep ⟨k.size,fun i hi=>G i (in_F hi) (fun e=>h1.nF (.inr (.inl rfl)) (e ▸ hi))⟩ ⟨k.size,fun i hi=>G2 i (List.mem_append.2 (.inl hi))⟩,hc,fun i hi=>rdAt_keep (h1.rd i hi) (G i (in_q hi) (fun e=>h1.cq hi e.symm)),h1.arg.keep ⟨k.size,fun i hi=>G2 i (List.mem_append.2 (.inr hi))⟩,h1.sf,h1.sk,h1.fa⟩,hm,h3,h4,t.trans (turn_of (L:=[mb,mg,z.xc]) k.os k.tape k.output k.size (fun i hi=>?_) fun i hi hn=>k.block i hi (fun e=>hn (by simp [e])) (fun e=>hn (by simp [e])) (fun e=>hn (by simp [e])))⟩
 simp only [List.mem_cons,List.not_mem_nil,or_false] at hi
 rcases hi with rfl | rfl | rfl <;> simp [gX]
theorem Mid.reads {ws':List Int} {o':Bool} {n':Int} {r':Md.Ce.Rd} {i0:Nat} (h:Mid W G0 b z mb mg w x q c r ws o n) (hq:q=some i0) (k:Md.Ce.Ch [mb,mg,i0] w w') (hm:MemAt 145 w' mb mg ws' o' n') (hr:Md.Ce.RdAt w' i0 r'):Mid W G0 b z mb mg w' x q c r' ws' o' n':=by
 obtain ⟨F,h1,h2,h3,h4,t⟩:=h
 have G:∀ i,i∈gX b z q F→i≠i0→w'.heap[i]?=w.heap[i]?:=fun i hi hn=>k.block i (h1.blw i hi) (fun e=>by
  simp only [List.mem_cons,List.not_mem_nil,or_false] at e
  rcases e with e | e | e
  ·exact h3 mb (by simp) (e ▸ hi)
  ·exact h3 mg (by simp) (e ▸ hi)
  ·exact hn e)
 have G2:∀ i,i∈z.KK→w'.heap[i]?=w.heap[i]?:=fun i hi=>k.block i (h1.blwK i hi) (fun e=>by
  simp only [List.mem_cons,List.not_mem_nil,or_false] at e
  rcases e with e | e | e
  ·exact h4 mb (by simp) (e ▸ hi)
  ·exact h4 mg (by simp) (e ▸ hi)
  ·exact h1.nK (k:=i0) (.inr (.inr hq)) (e ▸ hi))
 refine ⟨F,⟨(G b in_b (h1.bq hq)).trans h1.box,h1.mac.keep ⟨k.size,fun i hi=>G i (in_F hi) (fun e=>h1.nF (k:=i0) (.inr (.inr hq)) (e ▸ hi))⟩ ⟨k.size,fun i hi=>G2 i (List.mem_append.2 (.inl hi))⟩,h1.com.keep (G _ in_c (h1.cq hq)),fun i hi=>?_,h1.arg.keep ⟨k.size,fun i hi=>G2 i (List.mem_append.2 (.inr hi))⟩,h1.sf,h1.sk,h1.fa⟩,hm,h3,h4,t.trans (turn_of (L:=[mb,mg,i0]) k.os k.tape k.output k.size (fun i hi=>?_) fun i hi hn=>k.block i hi hn)⟩
 ·obtain rfl:i0=i:=by rw [hq] at hi;exact Option.some.inj hi
  exact hr
 ·simp only [List.mem_cons,List.not_mem_nil,or_false] at hi
  rcases hi with rfl | rfl | rfl <;> simp [gX,hq]
theorem Mid.readNew {w1:World} {r':Md.Ce.Rd} {i0:Nat} (h:Mid W G0 b z mb mg w x q c r ws o n) (k:Below w.heap.size w w1) (hi:w.heap.size≤i0) (hr:Md.Ce.RdAt w1 i0 r'):Mid W G0 b z mb mg (w1.setCell ⟨b,13,none⟩ (.pointer (some ⟨i0,0,none⟩))) x (some i0) c r' ws o n:=by
 have hs:=h.size
 obtain ⟨F,h1,h2,h3,h4,t⟩:=h
 have nG:i0∉gX b z q F:=fun y=>absurd (h1.blw i0 y) (Nat.not_lt.2 hi)
 have nK:i0∉z.KK:=fun y=>absurd (h1.blwK i0 y) (Nat.not_lt.2 hi)
 have g1:=(h1.on k).putQ (some i0) r' (fun n hn=>by cases hn;exact ⟨hr,fun y=>nG (in_F y),nK⟩)
 have m1:=h2.on k
 have tt:Turn (mb::mg::gX b z q F) (mb::mg::gX b z q F) w1 (w1.setCell ⟨b,13,none⟩ (.pointer (some ⟨i0,0,none⟩))):=⟨rfl,rfl,rfl,by simp,fun i _ hn=>heap_setCell_other _ _ _ _ (fun (e:i=b)=>hn (by simp [e,gX])),fun i hy=>.inl hy⟩
 refine ⟨F,g1,m1.other (fun e=>h3 mb (by simp) (e ▸ in_b)) (fun e=>h3 mg (by simp) (e ▸ in_b)) 13 _,fun i hi2 hy=>?_,h4,((t.trans (Below.turn k _)).trans tt).mono fun i hy=>?_⟩
 ·simp only [gX,List.mem_cons,List.mem_append,Option.mem_toList] at hy
  rcases hy with hy | hy | hy | hy
  ·exact h3 i hi2 (by simp [gX,hy])
  ·exact h3 i hi2 (by simp [gX,hy])
  ·have e:i0=i:=by simpa using hy
   have l:i<w.heap.size:=by
    simp only [List.mem_cons,List.not_mem_nil,or_false] at hi2
    rcases hi2 with rfl | rfl
    ·exact h2.ltB
    ·exact h2.ltG
   omega
  ·exact h3 i hi2 (by simp [gX,hy])
 ·by_cases e:i=i0
  ·subst e
   exact .inr (Nat.le_trans hs hi)
  ·refine (t.own i ?_)
   simp only [gX,List.mem_cons,List.mem_append,Option.mem_toList] at hy ⊢
   rcases hy with hy | hy | hy | hy | hy | hy
   ·simp [hy]
   ·simp [hy]
   ·simp [hy]
   ·simp [hy]
   ·exact absurd (by simpa using hy:i0=i) (fun y=>e y.symm)
   ·simp [hy]
theorem Mid.readOver (h:Mid W G0 b z mb mg w x q c r ws o n):Mid W G0 b z mb mg (w.setCell ⟨b,13,none⟩ (.pointer none)) x none c r ws o n:=by
 obtain ⟨F,h1,h2,h3,h4,t⟩:=h
 have sub:∀ i,i∈gX b z none F→i∈gX b z q F:=fun i hy=>by
  simp only [gX,List.mem_cons,List.mem_append,Option.toList_none,List.not_mem_nil,false_or] at hy ⊢
  rcases hy with hy | hy | hy <;> simp [hy]
 have tt:Turn (mb::mg::gX b z q F) (mb::mg::gX b z q F) w (w.setCell ⟨b,13,none⟩ (.pointer none)):=⟨rfl,rfl,rfl,by simp,fun i _ hn=>heap_setCell_other _ _ _ _ (fun (e:i=b)=>hn (by simp [e,gX])),fun i hy=>.inl hy⟩
 refine ⟨F,h1.putQ none r (fun n hn=>by cases hn),h2.other (fun e=>h3 mb (by simp) (e ▸ in_b)) (fun e=>h3 mg (by simp) (e ▸ in_b)) 13 _,fun i hi hy=>h3 i hi (sub i hy),h4,(t.trans tt).mono fun i hy=>t.own i ?_⟩
 simp only [List.mem_cons] at hy ⊢
 exact hy.imp id (Or.imp id (sub i))
theorem Mid.mach (h:Mid W G0 b z mb mg w x q c r ws o n):∃ F,Gm w F z.bm z.K w x.m∧(TabAt W G0→TabAt w F)∧∀ w' m',Gm w F z.bm z.K w' m'→Mid W G0 b z mb mg w' { x with m:=m' } q c r ws o n:=by
 obtain ⟨F,h1,h2,h3,h4,t⟩:=h
 refine ⟨F,h1.mac.gm,fun hT=>?_,fun w' m' g=>?_⟩
 ·have:=hT.turn t
  exact ⟨this.1,fun y=>this.2 (by simp [gX,y])⟩
 ·obtain ⟨F',g1,tF⟩:=h1.mach g
  have nm:∀ i,i∈[mb,mg]→i∉F:=fun i hi y=>h3 i hi (in_F y)
  have lX:Blw w (mb::mg::b::z.xc::q.toList):=fun k hk=>by
   simp only [List.mem_cons,Option.mem_toList] at hk
   rcases hk with rfl | rfl | hk | hk | hk
   ·exact h2.ltB
   ·exact h2.ltG
   ·exact h1.blw k (by simp [gX,hk])
   ·exact h1.blw k (by simp [gX,hk])
   ·exact h1.blw k (in_q hk)
  have sp:Sep [mb,mg] F':=Sep.turn (fun i hi y=>nm i hi y) (fun k hk=>lX k (by simp only [List.mem_cons,List.not_mem_nil,or_false] at hk;rcases hk with hk | hk <;> simp [hk])) tF
  refine ⟨F',g1,h2.keep (tF.block mb h2.ltB (nm mb (by simp))) (tF.block mg h2.ltG (nm mg (by simp))),fun i hi hy=>?_,h4,t.trans ?_⟩
  ·simp only [gX,List.mem_cons,List.mem_append] at hy
   rcases hy with hy | hy | hy | hy
   ·exact h3 i hi (by simp [gX,hy])
   ·exact h3 i hi (by simp [gX,hy])
   ·exact h3 i hi (by simp [gX];simp at hy;simp [hy])
   ·exact sp i hi hy
  ·have:=turn_wide tF (mb::mg::b::z.xc::q.toList)
   simpa [gX] using this
end
end Go.Proofs.YtlkldgopliablaaGreatDoor.Rr
namespace Go.Proofs.YtlkldgopliablaaGreatDoor.Rr
open Go.ChangeShapes Go.WideShapes Go.ChangeAt Go.RowKit Num
def comN (x:Rx):Int:=if x.part=1 then (x.sub:Int) else 3
def comC (x:Rx):Md.Cv.Cs:=⟨2,3,x.th,comN x,x.claim,x.stamp⟩
structure RdLike (x:Rx) (r:Md.Ce.Rd):Prop where
 p:r.p=3+x.b
 c:r.c=x.cell
 s:r.s=x.stamp
 k:r.k=x.sub
 v:x.sub=1∨x.sub=2→r.v=x.ver
 x:x.sub=2→r.x=fixB x.now.toNat
def RdOk (x:Rx) (q:Option Nat) (r:Md.Ce.Rd):Prop:=(q=none∧x.cell<0)∨((∃ i,q=some i)∧0≤x.cell∧RdLike x r)
section
variable {x:Rx} {ws:List Int}
theorem hasB_of {ws:List Int} {i:Int} (h:0≤i) (k:i<(ws.length:Int)):hasB ws i=true:=decide_eq_true ⟨h,k⟩
theorem errA_of {ws:List Int} {i:Int} (h:0≤i) (k:i<(ws.length:Int)):errA ws true i=0:=by unfold errA;rw [hasB_of h k];rfl
theorem com_ok (hI:In0 x):Md.Cv.COk (comC x):=by
 refine ⟨?_,fun h=>?_,fun h=>?_⟩
 ·show comN x=0∨comN x=1∨comN x=2∨comN x=3
  unfold comN
  by_cases e:x.part=1
  ·have:=(hI.p1 e).1
   rw [if_pos e]
   omega
  ·rw [if_neg e];omega
 ·have h':comN x=0:=h
  unfold comN at h'
  by_cases e:x.part=1
  ·rw [if_pos e] at h'
   exact (hI.p1 e).2.2.2.1 (by omega)
  ·rw [if_neg e] at h';omega
 ·have h':comN x≠3:=h
  unfold comN at h'
  by_cases e:x.part=1
  ·exact (hI.p1 e).2.2.1
  ·rw [if_neg e] at h';exact absurd rfl h'
theorem com_step (hI:In0 x) (hp:x.part=1) (hl:plW x≤(ws.length:Int)) (n:Int):Md.Cv.cE (comC x) ws true=0∧Md.Cv.cO (comC x) ws true=decide (x.sub=2)∧Md.Cv.cW (comC x) ws true=(comeX x ws).2∧Md.Cv.cP (comC x) ws true=false∧Md.Cv.cQ (comC x) ws true n=up n∧Md.Cv.cC (comC x) ws true=comC (comeX x ws).1:=by
 have hs:=(hI.p1 hp).1
 have ht:=hI.th
 have hb:=hI.cb
 have ha:=hI.ca
 have hN:(comC x).N=(x.sub:Int):=by show comN x=_;unfold comN;rw [if_pos hp]
 have hpl:Md.Cv.plc 3 x.th=3+x.th:=by unfold Md.Cv.plc;rw [if_pos (by omega)]
 unfold plW at hl
 have hE:Md.Cv.cE (comC x) ws true=0:=by
  unfold Md.Cv.cE
  rw [if_neg (by rw [hN];omega),show Md.Cv.may8 (comC x).T=true from decide_eq_true (by show 0≤x.th∧x.th<8;omega),if_pos rfl]
  unfold Md.Cv.cI
  split
  ·show errA ws true (Md.Cv.plc 3 x.th)=0
   rw [hpl]
   exact errA_of (by omega) (by omega)
  ·exact errA_of (by show (0:Int)≤2;omega) (by show (2:Int)<_;omega)
 refine ⟨hE,?_,?_,?_,?_,?_⟩
 ·unfold Md.Cv.cO
  rw [hE,hN]
  simp
  omega
 ·unfold Md.Cv.cW comeX
  rw [if_pos hE,hN]
  rcases (by omega:x.sub=0∨x.sub=1∨x.sub=2) with d | d | d
  ·rw [if_neg (by omega),if_pos d]
  ·rw [if_pos (by omega),if_neg (by omega),if_pos d]
   show ws.set (Md.Cv.plc 3 x.th).toNat _=_
   rw [hpl]
   rfl
  ·rw [if_neg (by omega),if_neg (by omega),if_neg (by omega)]
 ·unfold Md.Cv.cP;rw [if_pos hE]
 ·unfold Md.Cv.cQ;rw [if_pos hE]
 ·unfold Md.Cv.cC comeX
  rw [if_pos hE,hN]
  rcases (by omega:x.sub=0∨x.sub=1∨x.sub=2) with d | d | d
  ·rw [if_pos (by omega),if_neg (by omega),if_pos d]
   simp [comC,comN,hp,d]
  ·rw [if_neg (by omega),if_neg (by omega),if_neg (by omega),if_pos d]
   simp [comC,comN,hp,d]
  ·rw [if_neg (by omega),if_pos (by omega),if_neg (by omega),if_neg (by omega)]
   simp [comC,comN,d]
theorem come_box (x:Rx) (ws:List Int):(comeX x ws).1.m=x.m∧(comeX x ws).1.args=x.args∧(comeX x ws).1.a=x.a∧(comeX x ws).1.b=x.b∧(comeX x ws).1.th=x.th∧(comeX x ws).1.tag=x.tag∧(comeX x ws).1.steps=x.steps∧(comeX x ws).1.cell=x.cell∧(x.sub=0∨x.sub=1→(comeX x ws).1.part=x.part)∧(x.sub=2→(comeX x ws).1.part=2):=by
 unfold comeX
 split
 ·exact ⟨rfl,rfl,rfl,rfl,rfl,rfl,rfl,rfl,fun _=>rfl,fun h=>by omega⟩
 ·split
  ·exact ⟨rfl,rfl,rfl,rfl,rfl,rfl,rfl,rfl,fun _=>rfl,fun h=>by omega⟩
  ·exact ⟨rfl,rfl,rfl,rfl,rfl,rfl,rfl,rfl,fun h=>by omega,fun h=>rfl⟩
theorem read_rel {r:Md.Ce.Rd} (ha:1≤x.a∧x.a≤256) (hb:1≤x.b∧x.b≤8) (hn:u64B x.now) (h:RdLike x r) (hc:0≤x.cell) (hca:x.cell<x.a) (hs:x.sub≤3) (hl:plW x≤(ws.length:Int)) (hW:okW ws):Md.Ce.errR r ws true=0 ∧
  (((readX x ws).cell=-1∧Md.Ce.endR r ws true=true∧(readX x ws).m=giveM x.m (Md.Ce.stepR r ws true).y∧(Md.Ce.stepR r ws true).y<18446744073709551616)∨((readX x ws).cell=x.cell∧Md.Ce.endR r ws true=false∧(readX x ws).m=x.m∧RdLike (readX x ws) (Md.Ce.stepR r ws true))):=by
 have hk:r.k=x.sub:=h.k
 unfold plW at hl
 have P:∀ j:Int,Md.Ce.placeI r.p r.c j=atW x j:=fun j=>by
  rw [h.p,h.c];unfold Md.Ce.placeI atW;rw [if_pos (by omega)]
 have hw:=Md.Ce.wrd_in r.k
 have A:Md.Ce.errR r ws true=0:=by
  unfold Md.Ce.errR Md.Ce.errC
  rw [if_pos (by omega),show Md.Ce.mayC r.c=true from decide_eq_true (by rw [h.c];omega),if_pos rfl,P]
  unfold atW
  exact errA_of (by omega) (by omega)
 have S:Md.Ce.stepR r ws true=Md.Ce.nxt r (wordAt ws (atW x (Md.Ce.wrd x.sub))):=by
  unfold Md.Ce.stepR Md.Ce.wordC
  rw [if_pos A,P,hk]
 refine ⟨A,?_⟩
 unfold Md.Ce.endR
 rw [A,S]
 rcases (by omega:x.sub=0∨x.sub=1∨x.sub=2∨x.sub=3) with d | d | d | d
 ·have W0:Md.Ce.wrd x.sub=0:=by rw [d];rfl
  rw [W0]
  generalize hu:wordAt ws (atW x 0)=u
  have N:Md.Ce.nxt r u={ r with v:=u,k:=(if x.stamp<u then 3 else 1),n:=up r.n }:=by unfold Md.Ce.nxt Md.Ce.nx0;rw [if_pos (by omega),h.s]
  have R:readX x ws={ x with ver:=u,sub:=if x.stamp<u then 3 else 1 }:=by unfold readX;rw [if_pos d,hu]
  rw [N,R]
  have k4:¬ 4≤(if x.stamp<u then 3 else 1:Nat):=by split <;> omega
  exact .inr ⟨rfl,by simp [k4],rfl,⟨h.p,h.c,h.s,rfl,fun _=>rfl,fun e=>by dsimp only at e;split at e <;> omega⟩⟩
 ·have W1:Md.Ce.wrd x.sub=1:=by rw [d];rfl
  rw [W1]
  generalize hu:wordAt ws (atW x 1)=u
  have N:Md.Ce.nxt r u={ r with x:=fixB u.toNat,k:=2,n:=up r.n }:=by unfold Md.Ce.nxt Md.Ce.nx0;rw [if_neg (by omega),if_pos (by omega)]
  have R:readX x ws={ x with now:=u,sub:=2 }:=by unfold readX;rw [if_neg (by omega),if_pos d,hu]
  rw [N,R]
  exact .inr ⟨rfl,by simp,rfl,⟨h.p,h.c,h.s,rfl,fun _=>h.v (.inl d),fun _=>rfl⟩⟩
 ·have W2:Md.Ce.wrd x.sub=0:=by rw [d];rfl
  rw [W2]
  generalize hu:wordAt ws (atW x 0)=u
  have hv:=h.v (.inr d)
  by_cases e:u=x.ver
  ·have N:Md.Ce.nxt r u={ r with y:=r.x,k:=4,n:=up r.n }:=by unfold Md.Ce.nxt Md.Ce.nx0;rw [if_neg (by omega),if_neg (by omega),if_pos (by omega),if_pos (e.trans hv.symm)]
   have R:readX x ws={ x with m:=giveM x.m (fixB x.now.toNat),cell:=-1,sub:=3 }:=by unfold readX;rw [if_neg (by omega),if_neg (by omega),if_pos d,hu,if_pos e]
   rw [N,R]
   exact .inl ⟨rfl,by simp,by rw [h.x d],by show r.x<_;rw [h.x d];exact fix_lt _ hn⟩
  ·have N:Md.Ce.nxt r u={ r with t:=true,k:=3,n:=up r.n }:=by unfold Md.Ce.nxt Md.Ce.nx0;rw [if_neg (by omega),if_neg (by omega),if_pos (by omega),if_neg (fun y=>e (y.trans hv))]
   have R:readX x ws={ x with sub:=3 }:=by unfold readX;rw [if_neg (by omega),if_neg (by omega),if_pos d,hu,if_neg e]
   rw [N,R]
   exact .inr ⟨rfl,by simp,rfl,⟨h.p,h.c,h.s,rfl,fun y=>by dsimp only at y;omega,fun y=>by dsimp only at y;omega⟩⟩
 ·have W3:Md.Ce.wrd x.sub=2:=by rw [d];rfl
  rw [W3]
  have hu64:=hW.at (atW x 2)
  generalize hu:wordAt ws (atW x 2)=u at hu64 ⊢
  have N:Md.Ce.nxt r u={ r with y:=fixB u.toNat,k:=4,n:=up r.n }:=by unfold Md.Ce.nxt Md.Ce.nx0;rw [if_neg (by omega),if_neg (by omega),if_neg (by omega)]
  have R:readX x ws={ x with m:=giveM x.m (fixB u.toNat),cell:=-1 }:=by unfold readX;rw [if_neg (by omega),if_neg (by omega),if_neg (by omega),hu]
  rw [N,R]
  exact .inl ⟨rfl,by simp,rfl,fix_lt _ hu64⟩
end
end Go.Proofs.YtlkldgopliablaaGreatDoor.Rr
namespace Go.Proofs.YtlkldgopliablaaGreatDoor.Rr
open Go.ChangeShapes Go.WideShapes Go.ChangeAt Go.RowKit Num
section
variable {W w:World} {G0:List Nat} {b mb mg:Nat} {x:Rx} {z:Rz} {q:Option Nat} {c:Md.Cv.Cs} {r:Md.Ce.Rd} {ws:List Int} {o:Bool} {n:Int}
theorem over_any (h:Mid W G0 b z mb mg w x q c r ws o n):Calls Tryz.prog 332 #[.pointer (some ⟨b,0,none⟩)] w fun e w'=>e=.returned (.bool (decide ((x.part:Int)=4)))∧w'=w:=by
 have h11:w.cell? ⟨b,11,none⟩=some (.int .i64 (x.part:Int)):=(h.cell 11).trans rfl
 have hb:=h.ltB
 clear h
 go_enter Tryz.func332,Tryz.ntmps332
 go_wp2
 go_ret
 exact ⟨rfl,rfl⟩
theorem fits_any (h:Mid W G0 b z mb mg w x q c r ws o n):Calls Tryz.prog 333 #[.pointer (some ⟨b,0,none⟩),.pointer (some ⟨mb,0,none⟩)] w fun e w'=>e=.returned (.bool (decide (plW x≤(ws.length:Int))))∧Same w w':=by
 have h5:w.cell? ⟨b,5,none⟩=some (.int .i64 (plW x)):=(h.cell 5).trans rfl
 have hb:=h.ltB
 have HL:=Lib.hid (Md.len_any h.drew.mem)
 generalize plW x=pl at h5 ⊢
 clear h
 go_enter Tryz.func333,Tryz.ntmps333
 go_wp2_with fail
 refine wp_region_seq (fun u=>u.cell? ⟨b,5,none⟩=some (.int .i64 pl) )  ((0,true)::(2,true)::(3,true)::(4,true)::(5,true)::(6,true)::(1,false)::(7,true)::(8,true)::[])  Md.Cv.follows13 (by kernel_rfl) (fun _ _ _ _ _ h=>h)  h5 ?_
 (repeat ((first | (refine wpSeq_take (v:=?_) rfl (by rfl) (fun wq hSq=>?_) ?_;rotate_left;(focus ((try dsimp only at hSq);go_simp;try with_reducible rfl))) | refine wpSeq_skip rfl (by rfl) ?_);simp only [Act.put,List.setIfInBounds_toArray,List.set_cons_zero,List.set_cons_succ]))
 (refine wpSeq_do rfl (by rfl) (fun KK hK=>?_);go_simp)
 refine HL.out.mono ?_
 rintro e w1 ⟨rfl,hw⟩
 subst w1
 refine hK.out _ _ h5 ?_
 (clear hK KK;try simp only [Act.put,List.setIfInBounds_toArray,List.set_cons_zero,List.set_cons_succ])
 (repeat ((first | (refine wpSeq_take (v:=?_) rfl (by rfl) (fun wq hSq=>?_) ?_;rotate_left;(focus ((try dsimp only at hSq);go_simp;try with_reducible rfl))) | refine wpSeq_skip rfl (by rfl) ?_);simp only [Act.put,List.setIfInBounds_toArray,List.set_cons_zero,List.set_cons_succ]))
 refine wpSeq_nil ?_
 go_wp2_with fail
 go_ret
 exact ⟨rfl,Same.drew _⟩
theorem open_any (h:Mid W G0 b z mb mg w x q c r ws o n) (h0:0≤x.steps) (h1:x.steps≤100000):Calls Tryz.prog 334 #[.pointer (some ⟨b,0,none⟩),.pointer (some ⟨mb,0,none⟩)] w fun e w'=>e=.returned (.tuple #[])∧Mid W G0 b z mb mg w' (tickX x) q c r ws true n:=by
 have HL:=Lib.hid (Md.open_any h.mem)
 have HD:Hid (∀ w',MemAt 145 w' mb mg ws true n→Chg mb mg w w'→Mid W G0 b z mb mg w' x q c r ws true n):=fun w' k1 k2=>h.memb k2 k1
 have HP:Hid (∀ w',Mid W G0 b z mb mg w' x q c r ws true n→Mid W G0 b z mb mg (w'.setCell ⟨b,7,none⟩ (.int .i64 (x.steps+1))) (tickX x) q c r ws true n):=fun w' k=>k.put 7 _ (tickX x) rfl rfl rfl
 clear h
 go_enter Tryz.func334,Tryz.ntmps334
 go_wp2_with (go_at_call 324;refine HL.out.mono ?_;rintro e w1 ⟨rfl,k1,k2⟩;have HQ:=Lib.hid (HD.out _ k1 k2);have e7:w1.cell? ⟨b,7,none⟩=some (.int .i64 x.steps):=(HQ.out.cell 7).trans rfl;have f7:=HQ.out.free 7;have lb:=HQ.out.ltB;clear k1 k2 HL HD)
 go_end0
 exact ⟨rfl,HP.out _ HQ.out⟩
theorem come_any (h:Mid W G0 b z mb mg w x q (comC x) r ws true n) (hI:In0 x) (hp:x.part=1) (hl:plW x≤(ws.length:Int)):Calls Tryz.prog 335 #[.pointer (some ⟨b,0,none⟩),.pointer (some ⟨mb,0,none⟩)] w fun e w'=>e=.returned (.tuple #[])∧Mid W G0 b z mb mg w' (comeX x ws).1 q (comC (comeX x ws).1) r (comeX x ws).2 false (up n):=by
 obtain ⟨f1,f2,f3,f4,f5,f6⟩:=com_step hI hp hl n
 have HS:=Lib.hid (Md.Cv.cstep_any h.mem h.com (com_ok hI))
 rw [f1,f2,f3,f4,f5,f6] at HS
 have hs2:=(hI.p1 hp).1
 obtain ⟨g1,g2,g3,g4,g5,g6,g7,g8,g9,g10⟩:=come_box x ws
 have h12:w.cell? ⟨b,12,none⟩=some (.pointer (some ⟨z.xc,0,none⟩)):=(h.cell 12).trans rfl
 have hb:=h.ltB
 have HD:Hid (∀ w',MemAt 145 w' mb mg (comeX x ws).2 false (up n)→Md.Cv.CmAt w' z.xc (comC (comeX x ws).1)→Md.Cv.Ch3 mb mg z.xc w w'→Mid W G0 b z mb mg w' x q (comC (comeX x ws).1) r (comeX x ws).2 false (up n)):=fun w' k1 k2 k3=>h.comes k3 k1 k2
 by_cases d:x.sub=2
 ·have HP:Hid (∀ w',Mid W G0 b z mb mg w' x q (comC (comeX x ws).1) r (comeX x ws).2 false (up n)→Mid W G0 b z mb mg (w'.setCell ⟨b,11,none⟩ (.int .i64 2)) (comeX x ws).1 q (comC (comeX x ws).1) r (comeX x ws).2 false (up n)):=fun w' k=>k.put 11 _ _ (by unfold xboxV;rw [g2,g3,g4,g5,g6,g7,g10 d];rfl) g1 g2
  rw [decide_eq_true d] at HS
  clear h f1 f2 f3 f4 f5 f6 g1 g2 g3 g4 g5 g6 g7 g8 g9 g10
  go_enter Tryz.func335,Tryz.ntmps335
  go_wp2_with (go_at_call 339;refine HS.out.mono ?_;rintro e w1 ⟨rfl,k1,k2,k3⟩;have HQ:=Lib.hid (HD.out _ k1 k2 k3);have e11:w1.cell? ⟨b,11,none⟩=some (.int .i64 (x.part:Int)):=(HQ.out.cell 11).trans rfl;have f11:=HQ.out.free 11;have lb:=HQ.out.ltB;clear k1 k2 k3 HS HD)
  go_end0
  exact ⟨rfl,HP.out _ HQ.out⟩
 ·have HP:Hid (∀ w',Mid W G0 b z mb mg w' x q (comC (comeX x ws).1) r (comeX x ws).2 false (up n)→Mid W G0 b z mb mg w' (comeX x ws).1 q (comC (comeX x ws).1) r (comeX x ws).2 false (up n)):=fun w' k=>by
   obtain ⟨F,k1,k2⟩:=k
   exact ⟨F,⟨by have:=k1.box;unfold xboxV at this ⊢;rw [g2,g3,g4,g5,g6,g7,g9 (by omega)];exact this,by rw [g1];exact k1.mac,k1.com,k1.rd,by rw [g2];exact k1.arg,k1.sf,k1.sk,k1.fa⟩,k2⟩
  rw [decide_eq_false d] at HS
  clear h f1 f2 f3 f4 f5 f6 g1 g2 g3 g4 g5 g6 g7 g8 g9 g10
  go_enter Tryz.func335,Tryz.ntmps335
  go_wp2_with (go_at_call 339;refine HS.out.mono ?_;rintro e w1 ⟨rfl,k1,k2,k3⟩;have HQ:=Lib.hid (HD.out _ k1 k2 k3);clear k1 k2 k3 HS HD)
  go_end0
  exact ⟨rfl,HP.out _ HQ.out⟩
theorem leave_any (h:Mid W G0 b z mb mg w x q c r ws true n) (hI:In0 x) (hl:plW x≤(ws.length:Int)):Calls Tryz.prog 337 #[.pointer (some ⟨b,0,none⟩),.pointer (some ⟨mb,0,none⟩)] w fun e w'=>e=.returned (.tuple #[])∧Mid W G0 b z mb mg w' (leaveX x) q c r (ws.set (3+x.th).toNat 0) false (up n):=by
 have ht:=hI.th
 have hb8:=hI.cb
 have ha:=hI.ca
 have hm8:Md.Cv.may8 x.th=true:=decide_eq_true (by omega)
 have hpl:Md.Cv.plc 3 x.th=3+x.th:=by unfold Md.Cv.plc;rw [if_pos (by omega)]
 unfold plW at hl
 have hE:errA ws true (3+x.th)=0:=errA_of (by omega) (by omega)
 obtain ⟨f1,f2,f3,_⟩:=Md.Cv.ok_facts hE
 have HL:=Lib.hid (Md.Cv.leave_any h.drew.mem 0 1 2 3 (3+x.b) (3+x.b+3*x.a) x.th)
 unfold Md.Cv.lE Md.Cv.lW Md.Cv.lO Md.Cv.lC Md.Cv.plnV at HL
 rw [hm8,if_pos rfl,if_pos rfl,if_pos rfl,if_pos rfl,hpl,hE,f1,f2,f3] at HL
 have h0:w.cell? ⟨b,0,none⟩=some (.int .i64 0):=(h.cell 0).trans rfl
 have h1:w.cell? ⟨b,1,none⟩=some (.int .i64 1):=(h.cell 1).trans rfl
 have h2:w.cell? ⟨b,2,none⟩=some (.int .i64 2):=(h.cell 2).trans rfl
 have h3:w.cell? ⟨b,3,none⟩=some (.int .i64 3):=(h.cell 3).trans rfl
 have h4:w.cell? ⟨b,4,none⟩=some (.int .i64 (3+x.b)):=(h.cell 4).trans rfl
 have h5:w.cell? ⟨b,5,none⟩=some (.int .i64 (3+x.b+3*x.a)):=(h.cell 5).trans rfl
 have h10:w.cell? ⟨b,10,none⟩=some (.int .i64 x.th):=(h.cell 10).trans rfl
 have hb:=h.ltB
 have HD:Hid (∀ w',MemAt 145 w' mb mg (ws.set (3+x.th).toNat 0) false (up n)→Chg mb mg w.drew w'→Mid W G0 b z mb mg w' x q c r (ws.set (3+x.th).toNat 0) false (up n)):=fun w' k1 k2=>h.drew.memb k2 k1
 have HP:Hid (∀ w',Mid W G0 b z mb mg w' x q c r (ws.set (3+x.th).toNat 0) false (up n)→Mid W G0 b z mb mg (w'.setCell ⟨b,11,none⟩ (.int .i64 4)) (leaveX x) q c r (ws.set (3+x.th).toNat 0) false (up n)):=fun w' k=>k.put 11 _ (leaveX x) rfl rfl rfl
 clear h f1 f2 f3 hm8 hpl hE hl
 have HE4:Hid (∀ w',Mid W G0 b z mb mg w' x q c r (ws.set (3+x.th).toNat 0) false (up n)→w'.cell? ⟨b,4,none⟩=some (.int .i64 (3+x.b))):=fun w' k=>(k.cell 4).trans rfl
 have HE5:Hid (∀ w',Mid W G0 b z mb mg w' x q c r (ws.set (3+x.th).toNat 0) false (up n)→w'.cell? ⟨b,5,none⟩=some (.int .i64 (3+x.b+3*x.a))):=fun w' k=>(k.cell 5).trans rfl
 generalize 3+x.b+3*x.a=p5 at *
 generalize 3+x.b=p4 at *
 go_enter Tryz.func337,Tryz.ntmps337
 go_wp2_with fail
 refine wp_region_seq (fun u=>u.cell? ⟨b,0,none⟩=some (.int .i64 0)∧u.cell? ⟨b,1,none⟩=some (.int .i64 1)∧u.cell? ⟨b,2,none⟩=some (.int .i64 2)∧u.cell? ⟨b,3,none⟩=some (.int .i64 3)∧u.cell? ⟨b,4,none⟩=some (.int .i64 p4)∧u.cell? ⟨b,5,none⟩=some (.int .i64 p5)∧u.cell? ⟨b,10,none⟩=some (.int .i64 x.th) )  ((0,true)::(1,true)::(2,true)::(3,true)::(4,true)::(5,true)::(6,true)::(7,true)::(8,true)::(9,true)::(10,false)::[])  Md.Cv.follows13 (by kernel_rfl) (fun _ _ _ _ _ h=>h)  ⟨h0,h1,h2,h3,h4,h5,h10⟩ ?_
 (repeat ((first | (refine wpSeq_take (v:=?_) rfl (by rfl) (fun wq hSq=>?_) ?_;rotate_left;(focus ((try dsimp only at hSq);go_simp;try with_reducible rfl))) | refine wpSeq_skip rfl (by rfl) ?_);simp only [Act.put,List.setIfInBounds_toArray,List.set_cons_zero,List.set_cons_succ]))
 (refine wpSeq_do rfl (by rfl) (fun KK hK=>?_);go_simp)
 refine HL.out.mono ?_
 rintro e w1 ⟨rfl,k1,k2⟩
 have HQ:=Lib.hid (HD.out _ k1 k2)
 have e11:w1.cell? ⟨b,11,none⟩=some (.int .i64 (x.part:Int)):=(HQ.out.cell 11).trans rfl
 have f11:=HQ.out.free 11
 have lb:=HQ.out.ltB
 clear k1 k2 HL HD
 refine hK.out _ _ ⟨(HQ.out.cell 0).trans rfl,(HQ.out.cell 1).trans rfl,(HQ.out.cell 2).trans rfl,(HQ.out.cell 3).trans rfl,HE4.out _ HQ.out,HE5.out _ HQ.out,(HQ.out.cell 10).trans rfl⟩ ?_
 (clear hK KK;try simp only [Act.put,List.setIfInBounds_toArray,List.set_cons_zero,List.set_cons_succ])
 refine wpSeq_nil ?_
 go_wp2_with fail
 go_end0
 exact ⟨rfl,HP.out _ HQ.out⟩
end
end Go.Proofs.YtlkldgopliablaaGreatDoor.Rr
namespace Go.Proofs.YtlkldgopliablaaGreatDoor.Rr
open Go.ChangeShapes Go.WideShapes Go.ChangeAt Go.RowKit Num
attribute [local go_sem] run_store_float
section
variable {W w:World} {G0:List Nat} {b mb mg:Nat} {x:Rx} {z:Rz} {q:Option Nat} {c:Md.Cv.Cs} {r:Md.Ce.Rd} {ws:List Int} {o:Bool} {n:Int}
theorem Mid.plan (h:Mid W G0 b z mb mg w x q c r ws o n) {p4 p5:Int} (h4:3+x.b=p4) (h5:3+x.b+3*x.a=p5):(w.cell? ⟨b,0,none⟩=some (.int .i64 0)∧w.cell? ⟨b,1,none⟩=some (.int .i64 1)∧w.cell? ⟨b,2,none⟩=some (.int .i64 2)∧w.cell? ⟨b,3,none⟩=some (.int .i64 3)∧w.cell? ⟨b,4,none⟩=some (.int .i64 p4)∧w.cell? ⟨b,5,none⟩=some (.int .i64 p5))∧w.cell? ⟨b,6,none⟩=some (.pointer (some ⟨z.bm,0,none⟩))∧w.cell? ⟨b,12,none⟩=some (.pointer (some ⟨z.xc,0,none⟩))∧w.cell? ⟨b,13,none⟩=some (ptrV q)∧b<w.heap.size∧w.frozen? ⟨b,13,none⟩=false:=by
 subst h4 h5
 exact ⟨⟨(h.cell 0).trans rfl,(h.cell 1).trans rfl,(h.cell 2).trans rfl,(h.cell 3).trans rfl,(h.cell 4).trans rfl,(h.cell 5).trans rfl⟩,(h.cell 6).trans rfl,(h.cell 12).trans rfl,(h.cell 13).trans rfl,h.ltB,h.free 13⟩
theorem Mid.step (h:Mid W G0 b z mb mg w x q c r ws o n) (hT:TabAt W G0) (hI:Inv x.m) {M:Mac} {A:Ask} (hM:(stepM x.m).1=M) (hA:(stepM x.m).2=A):Calls Tryz.prog 214 #[.pointer (some ⟨z.bm,0,none⟩)] w fun e w'=>e=.returned (.agg #[.int .i64 A.kind,.int .i64 A.cell,.float .f64 A.x,.bool A.first])∧Mid W G0 b z mb mg w' { x with m:=M } q c r ws o n:=by
 obtain ⟨F,g,tb,go⟩:=h.mach
 subst hM hA
 refine (step_any g (tb hT) hI).mono ?_
 rintro e w' ⟨rfl,k⟩
 exact ⟨rfl,go _ _ k⟩
theorem Mid.give (h:Mid W G0 b z mb mg w x q c r ws o n) (hI:Inv x.m) (y:Nat) {M:Mac} (hM:giveM x.m y=M):Calls Tryz.prog 215 #[.pointer (some ⟨z.bm,0,none⟩),.float .f64 y] w fun e w'=>e=.returned (.int .i64 (giveE x.m))∧Mid W G0 b z mb mg w' { x with m:=M } q c r ws o n:=by
 obtain ⟨F,g,tb,go⟩:=h.mach
 subst hM
 refine (give_any g hI y).mono ?_
 rintro e w' ⟨rfl,k⟩
 exact ⟨rfl,go _ _ k⟩
theorem instr_read (h:Mid W G0 b z mb mg w x none c r ws o n) (hT:TabAt W G0) (hI:Inv x.m) {M:Mac} {A:Ask} (hM:(stepM x.m).1=M) (hA:(stepM x.m).2=A) (hk:A.kind=1):Calls Tryz.prog 329 #[.pointer (some ⟨b,0,none⟩)] w fun e w'=>e=.returned (.tuple #[])∧∃ i0,Mid W G0 b z mb mg w' { x with m:=M } (some i0) c (Md.Ce.newR (3+x.b) A.cell c.S) ws o n:=by
 have HS:=Lib.hid (h.step hT hI hM hA)
 rw [hk] at HS
 have h6:w.cell? ⟨b,6,none⟩=some (.pointer (some ⟨z.bm,0,none⟩)):=(h.cell 6).trans rfl
 have hb:=h.ltB
 clear h hM hA hT hI
 generalize h4:3+x.b=p4
 generalize h5:3+x.b+3*x.a=p5
 have HP:Hid (3+x.b=p4∧3+x.b+3*x.a=p5):=⟨h4,h5⟩
 clear h4 h5
 have HR:=Lib.hid (fun (v:World)=>Md.Ce.read_any v 0 1 2 3 p4 p5 A.cell c.S)
 unfold Md.Ce.planV at HR
 go_enter Tryz.func329,Tryz.ntmps329
 go_wp2_with (go_at_call 214;refine HS.out.mono ?_;rintro e w1 ⟨rfl,k⟩;have HQ:=Lib.hid k;have lb:=k.ltB;clear k HS)
 obtain ⟨w2,hw2⟩:∃ w2,w2=w1.alloc (.cells #[.int .i64 1,.int .i64 A.cell,.float .f64 A.x,.bool A.first] 165):=⟨_,rfl⟩
 rw [← hw2]
 have HU:=Lib.hid ((HQ.out.alloc (.cells #[.int .i64 1,.int .i64 A.cell,.float .f64 A.x,.bool A.first] 165)).drew)
 rw [← hw2] at HU
 have eA:w2.cell? ⟨w1.heap.size,1,none⟩=some (.int .i64 A.cell):=by rw [hw2];simp [go_sem]
 have lA:w1.heap.size<w2.heap.size:=by rw [hw2];simp
 clear hw2 HQ
 obtain ⟨⟨e0,e1,e2,e3,e4,e5⟩,e6,e12,e13,eb,_⟩:=HU.out.plan HP.out.1 HP.out.2
 refine wp_region_seq (fun u=>(u.cell? ⟨b,0,none⟩=some (.int .i64 0)∧u.cell? ⟨b,1,none⟩=some (.int .i64 1)∧u.cell? ⟨b,2,none⟩=some (.int .i64 2)∧u.cell? ⟨b,3,none⟩=some (.int .i64 3)∧u.cell? ⟨b,4,none⟩=some (.int .i64 p4)∧u.cell? ⟨b,5,none⟩=some (.int .i64 p5))∧u.cell? ⟨b,12,none⟩=some (.pointer (some ⟨z.xc,0,none⟩))∧u.cell? ⟨w1.heap.size,1,none⟩=some (.int .i64 A.cell) )  ((0,true)::(1,true)::(2,true)::(3,true)::(4,true)::(5,true)::(6,true)::(7,true)::(8,true)::(9,true)::(10,true)::(11,true)::(12,false)::(13,false)::(14,true)::(15,true)::(16,false)::[])  Md.Cv.follows13 (by kernel_rfl) (fun _ _ _ _ _ h=>h)  ⟨⟨e0,e1,e2,e3,e4,e5⟩,e12,eA⟩ ?_
 (repeat ((first | (refine wpSeq_take (v:=?_) rfl (by rfl) (fun wq hSq=>?_) ?_;rotate_left;(focus ((try dsimp only at hSq);go_simp;try with_reducible rfl))) | refine wpSeq_skip rfl (by rfl) ?_);simp only [Act.put,List.setIfInBounds_toArray,List.set_cons_zero,List.set_cons_succ]))
 (refine wpSeq_do rfl (by rfl) (fun KK hK=>?_);go_simp)
 refine (Md.Cv.stampC_any HU.out.com).mono ?_
 rintro e u1 ⟨rfl,hw⟩
 subst u1
 refine hK.out _ _ ⟨⟨e0,e1,e2,e3,e4,e5⟩,e12,eA⟩ ?_
 (clear hK KK;try simp only [Act.put,List.setIfInBounds_toArray,List.set_cons_zero,List.set_cons_succ])
 (refine wpSeq_do rfl (by rfl) (fun KK hK=>?_);go_simp)
 refine (HR.out _).mono ?_
 rintro e u3 ⟨i0,rfl,k1,k2,k3⟩
 have HV:=Lib.hid (HU.out.on k3)
 have HN:=Lib.hid (HU.out.readNew k3 k1 k2)
 have eA3:u3.cell? ⟨w1.heap.size,1,none⟩=some (.int .i64 A.cell):=(k3.cell (p:=⟨w1.heap.size,1,none⟩) lA).trans eA
 obtain ⟨⟨g0,g1,g2,g3,g4,g5⟩,g6,g12,g13,gb,g14⟩:=HV.out.plan HP.out.1 HP.out.2
 refine hK.out _ _ ⟨⟨g0,g1,g2,g3,g4,g5⟩,g12,eA3⟩ ?_
 (clear hK KK;try simp only [Act.put,List.setIfInBounds_toArray,List.set_cons_zero,List.set_cons_succ])
 (repeat ((first | (refine wpSeq_take (v:=?_) rfl (by rfl) (fun wq hSq=>?_) ?_;rotate_left;(focus ((try dsimp only at hSq);go_simp;try with_reducible rfl))) | refine wpSeq_skip rfl (by rfl) ?_);simp only [Act.put,List.setIfInBounds_toArray,List.set_cons_zero,List.set_cons_succ]))
 (refine wpSeq_do rfl (by rfl) (fun KK hK=>?_);go_simp)
 obtain ⟨⟨y0,y1,y2,y3,y4,y5⟩,_,y12,_,_,_⟩:=HN.out.plan HP.out.1 HP.out.2
 refine hK.out _ _ ⟨⟨y0,y1,y2,y3,y4,y5⟩,y12,(Md.Cv.cell_kept (heap_setCell_other _ _ _ _ (fun (e:w1.heap.size=b)=>by omega)) 1).trans eA3⟩ ?_
 (clear hK KK;try simp only [Act.put,List.setIfInBounds_toArray,List.set_cons_zero,List.set_cons_succ])
 refine wpSeq_nil ?_
 go_wp2_with fail
 go_end0
 exact ⟨rfl,i0,HN.out⟩
theorem instr_end (h:Mid W G0 b z mb mg w x q c r ws o n) (hT:TabAt W G0) (hI:Inv x.m) {M:Mac} {A:Ask} (hM:(stepM x.m).1=M) (hA:(stepM x.m).2=A) (hk:A.kind=4):Calls Tryz.prog 329 #[.pointer (some ⟨b,0,none⟩)] w fun e w'=>e=.returned (.tuple #[])∧Mid W G0 b z mb mg w' { x with m:=M,part:=3 } q c r ws o n:=by
 have HS:=Lib.hid (h.step hT hI hM hA)
 rw [hk] at HS
 have h6:w.cell? ⟨b,6,none⟩=some (.pointer (some ⟨z.bm,0,none⟩)):=(h.cell 6).trans rfl
 have hb:=h.ltB
 have HD:Hid (∀ w1 y,Mid W G0 b z mb mg w1 { x with m:=M } q c r ws o n→Mid W G0 b z mb mg ((w1.setCell ⟨b,11,none⟩ (.int .i64 3)).alloc y) { x with m:=M,part:=3 } q c r ws o n):=fun w1 y k=>(k.put 11 (.int .i64 3) { x with m:=M,part:=3 } rfl rfl rfl).alloc y
 clear h hM hA hT hI
 go_enter Tryz.func329,Tryz.ntmps329
 go_wp2_with (go_at_call 214;refine HS.out.mono ?_;rintro e w1 ⟨rfl,k⟩;have HQ:=Lib.hid k;have lb:=k.ltB;have e11:w1.cell? ⟨b,11,none⟩=some (.int .i64 (x.part:Int)):=(k.cell 11).trans rfl;have f11:=k.free 11;clear k HS)
 go_end0
 exact ⟨rfl,HD.out _ _ HQ.out⟩
theorem instr_go (h:Mid W G0 b z mb mg w x q c r ws o n) (hT:TabAt W G0) (hI:Inv x.m) {M:Mac} {A:Ask} (hM:(stepM x.m).1=M) (hA:(stepM x.m).2=A) (h1:(A.kind == 1)=false) (h4:(A.kind == 4)=false):Calls Tryz.prog 329 #[.pointer (some ⟨b,0,none⟩)] w fun e w'=>e=.returned (.tuple #[])∧Mid W G0 b z mb mg w' { x with m:=M } q c r ws o n:=by
 have HS:=Lib.hid (h.step hT hI hM hA)
 have h6:w.cell? ⟨b,6,none⟩=some (.pointer (some ⟨z.bm,0,none⟩)):=(h.cell 6).trans rfl
 have hb:=h.ltB
 clear h hM hA hT hI
 go_enter Tryz.func329,Tryz.ntmps329
 go_wp2_with (go_at_call 214;refine HS.out.mono ?_;rintro e w1 ⟨rfl,k⟩;have HQ:=Lib.hid k;clear k HS)
 go_end0
 exact ⟨rfl,HQ.out.alloc _⟩
theorem Mid.nq (h:Mid W G0 b z mb mg w x q c r ws o n) {i0:Nat} (hq:q=some i0):i0≠mb∧i0≠mg:=by
 obtain ⟨F,h1,_,h3,_⟩:=h
 exact ⟨fun e=>h3 mb (by simp) (e ▸ in_q hq),fun e=>h3 mg (by simp) (e ▸ in_q hq)⟩
theorem read_on {i0:Nat} (h:Mid W G0 b z mb mg w x (some i0) c r ws true n) (hE:Md.Ce.errR r ws true=0) (hD:Md.Ce.endR r ws true=false):Calls Tryz.prog 340 #[.pointer (some ⟨b,0,none⟩),.pointer (some ⟨mb,0,none⟩)] w fun e w'=>e=.returned (.tuple #[])∧Mid W G0 b z mb mg w' x (some i0) c (Md.Ce.stepR r ws true) ws false (up n):=by
 have HS:=Lib.hid (Md.Ce.rstep_any h.mem (h.rd rfl) (h.nq rfl).1 (h.nq rfl).2)
 rw [hE,hD] at HS
 have HQ0:Hid (∀ w',MemAt 145 w' mb mg ws false (up n)→Md.Ce.RdAt w' i0 (Md.Ce.stepR r ws true)→Md.Ce.Ch [mb,mg,i0] w w'→Mid W G0 b z mb mg w' x (some i0) c (Md.Ce.stepR r ws true) ws false (up n)):=fun w' k1 k2 k3=>h.reads rfl k3 k1 k2
 have h13:w.cell? ⟨b,13,none⟩=some (.pointer (some ⟨i0,0,none⟩)):=(h.cell 13).trans rfl
 have hb:=h.ltB
 unfold Md.Ce.aftO Md.Ce.aftN at HS
 rw [if_pos rfl,if_pos rfl] at HS
 clear h hE hD
 go_enter Tryz.func340,Tryz.ntmps340
 go_wp2_with (go_at_call 346;refine HS.out.mono ?_;rintro e w1 ⟨rfl,k1,k2,k3⟩;have HQ:=Lib.hid (HQ0.out _ k1 k2 k3);clear k1 k2 k3 HS)
 go_end0
 exact ⟨rfl,HQ.out⟩
theorem read_end {i0:Nat} (h:Mid W G0 b z mb mg w x (some i0) c r ws true n) (hI:Inv x.m) (hE:Md.Ce.errR r ws true=0) (hD:Md.Ce.endR r ws true=true) {M:Mac} (hM:giveM x.m (Md.Ce.stepR r ws true).y=M):Calls Tryz.prog 340 #[.pointer (some ⟨b,0,none⟩),.pointer (some ⟨mb,0,none⟩)] w fun e w'=>e=.returned (.tuple #[])∧Mid W G0 b z mb mg w' { x with m:=M } none c (Md.Ce.stepR r ws true) ws false (up n):=by
 have HS:=Lib.hid (Md.Ce.rstep_any h.mem (h.rd rfl) (h.nq rfl).1 (h.nq rfl).2)
 rw [hE,hD] at HS
 have HQ0:Hid (∀ w',MemAt 145 w' mb mg ws false (up n)→Md.Ce.RdAt w' i0 (Md.Ce.stepR r ws true)→Md.Ce.Ch [mb,mg,i0] w w'→Mid W G0 b z mb mg w' x (some i0) c (Md.Ce.stepR r ws true) ws false (up n)):=fun w' k1 k2 k3=>h.reads rfl k3 k1 k2
 have HG:Hid (∀ w',Mid W G0 b z mb mg w' x (some i0) c (Md.Ce.stepR r ws true) ws false (up n)→Calls Tryz.prog 215 #[.pointer (some ⟨z.bm,0,none⟩),.float .f64 (Md.Ce.stepR r ws true).y] w' fun e w2=>e=.returned (.int .i64 (giveE x.m))∧Mid W G0 b z mb mg w2 { x with m:=M } (some i0) c (Md.Ce.stepR r ws true) ws false (up n)):=fun w' k=>k.give hI _ hM
 have h13:w.cell? ⟨b,13,none⟩=some (.pointer (some ⟨i0,0,none⟩)):=(h.cell 13).trans rfl
 have hb:=h.ltB
 unfold Md.Ce.aftO Md.Ce.aftN at HS
 rw [if_pos rfl,if_pos rfl] at HS
 clear h hE hD hM
 generalize Md.Ce.stepR r ws true=r' at *
 generalize giveE x.m=ge at *
 go_enter Tryz.func340,Tryz.ntmps340
 go_wp2_with (go_at_call 346;refine HS.out.mono ?_;rintro e w1 ⟨rfl,k1,k2,k3⟩;have HQ:=Lib.hid (HQ0.out _ k1 k2 k3);clear k1 k2 k3 HS)
 have HU:=Lib.hid HQ.out.drew
 have e6:w1.cell? ⟨b,6,none⟩=some (.pointer (some ⟨z.bm,0,none⟩)):=(HQ.out.cell 6).trans rfl
 have e13:w1.cell? ⟨b,13,none⟩=some (.pointer (some ⟨i0,0,none⟩)):=(HQ.out.cell 13).trans rfl
 have lb:=HQ.out.ltB
 clear HQ HQ0
 refine wp_region_seq (fun u=>u.cell? ⟨b,6,none⟩=some (.pointer (some ⟨z.bm,0,none⟩))∧u.cell? ⟨b,13,none⟩=some (.pointer (some ⟨i0,0,none⟩)) )  ((0,true)::(1,true)::(2,true)::(3,true)::(4,true)::(5,true)::(6,true)::(7,true)::(8,true)::(9,false)::(10,false)::[])  Md.Cv.follows13 (by kernel_rfl) (fun _ _ _ _ _ h=>h)  ⟨e6,e13⟩ ?_
 (repeat ((first | (refine wpSeq_take (v:=?_) rfl (by rfl) (fun wq hSq=>?_) ?_;rotate_left;(focus ((try dsimp only at hSq);go_simp;try with_reducible rfl))) | refine wpSeq_skip rfl (by rfl) ?_);simp only [Act.put,List.setIfInBounds_toArray,List.set_cons_zero,List.set_cons_succ]))
 (refine wpSeq_do rfl (by rfl) (fun KK hK=>?_);go_simp)
 refine (Md.Ce.value_any (HU.out.rd rfl)).mono ?_
 rintro e u1 ⟨rfl,hw⟩
 subst u1
 refine hK.out _ _ ⟨e6,e13⟩ ?_
 (clear hK KK;try simp only [Act.put,List.setIfInBounds_toArray,List.set_cons_zero,List.set_cons_succ])
 (refine wpSeq_do rfl (by rfl) (fun KK hK=>?_);go_simp)
 refine (HG.out _ HU.out).mono ?_
 rintro e w2 ⟨rfl,k⟩
 have HV:=Lib.hid k
 have l2:=k.ltB
 have d13:w2.cell? ⟨b,13,none⟩=some (.pointer (some ⟨i0,0,none⟩)):=(k.cell 13).trans rfl
 have f13:=k.free 13
 refine hK.out _ _ ⟨(k.cell 6).trans rfl,d13⟩ ?_
 clear k
 (clear hK KK;try simp only [Act.put,List.setIfInBounds_toArray,List.set_cons_zero,List.set_cons_succ])
 refine wpSeq_nil ?_
 go_wp2_with fail
 go_end0
 exact ⟨rfl,HV.out.readOver⟩
end
end Go.Proofs.YtlkldgopliablaaGreatDoor.Rr
namespace Go.Proofs.YtlkldgopliablaaGreatDoor.Rr
open Go.ChangeShapes Go.WideShapes Go.ChangeAt Go.RowKit Num
def Full (W:World) (G0:List Nat) (b:Nat) (z:Rz) (mb mg:Nat) (w:World) (x:Rx) (ws:List Int) (o:Bool) (n:Int):Prop:=∃ q r,Mid W G0 b z mb mg w x q (comC x) r ws o n∧RdOk x q r
section
variable {W w:World} {G0:List Nat} {b mb mg:Nat} {x:Rx} {z:Rz} {q:Option Nat} {c:Md.Cv.Cs} {r:Md.Ce.Rd} {ws:List Int} {o:Bool} {n:Int}
theorem Mid.like (h:Mid W G0 b z mb mg w x q c r ws o n) {y:Rx} (e:xboxV y z q=xboxV x z q) (em:y.m=x.m) (ea:y.args=x.args):Mid W G0 b z mb mg w y q c r ws o n:=by
 obtain ⟨F,k1,k2⟩:=h
 exact ⟨F,⟨by rw [e];exact k1.box,by rw [em];exact k1.mac,k1.com,k1.rd,by rw [ea];exact k1.arg,k1.sf,k1.sk,k1.fa⟩,k2⟩
theorem readX_box (x:Rx) (ws:List Int):(readX x ws).a=x.a∧(readX x ws).b=x.b∧(readX x ws).th=x.th∧(readX x ws).tag=x.tag∧(readX x ws).args=x.args∧(readX x ws).steps=x.steps∧(readX x ws).part=x.part∧(readX x ws).claim=x.claim∧(readX x ws).stamp=x.stamp:=by
 unfold readX
 split
 ·exact ⟨rfl,rfl,rfl,rfl,rfl,rfl,rfl,rfl,rfl⟩
 ·split
  ·exact ⟨rfl,rfl,rfl,rfl,rfl,rfl,rfl,rfl,rfl⟩
  ·split
   ·split <;> exact ⟨rfl,rfl,rfl,rfl,rfl,rfl,rfl,rfl,rfl⟩
   ·exact ⟨rfl,rfl,rfl,rfl,rfl,rfl,rfl,rfl,rfl⟩
theorem read_full {i0:Nat} (h:Mid W G0 b z mb mg w x (some i0) c r ws true n) (hL:RdLike x r) (ha:1≤x.a∧x.a≤256) (hb:1≤x.b∧x.b≤8) (hn:u64B x.now) (hIm:Inv x.m) (hp:x.part=2) (hc:0≤x.cell) (hca:x.cell<x.a) (hs:x.sub≤3) (hcc:c=comC x) (hl:plW x≤(ws.length:Int)) (hW:okW ws):Calls Tryz.prog 340 #[.pointer (some ⟨b,0,none⟩),.pointer (some ⟨mb,0,none⟩)] w fun e w'=>e=.returned (.tuple #[])∧Full W G0 b z mb mg w' (readX x ws) ws false (up n):=by
 obtain ⟨b1,b2,b3,b4,b5,b6,b7,b8,b9⟩:=readX_box x ws
 have hcom:comC (readX x ws)=c:=by
  rw [hcc];unfold comC comN;rw [b3,b7,b8,b9,if_neg (by omega),if_neg (by omega)]
 obtain ⟨hE,hR⟩:=read_rel ha hb hn hL hc hca hs hl hW
 have hbox:∀ q',xboxV (readX x ws) z q'=xboxV x z q':=fun q'=>by unfold xboxV;rw [b1,b2,b3,b4,b5,b6,b7]
 rcases hR with ⟨c1,c2,c3,c4⟩ | ⟨c1,c2,c3,c4⟩
 ·refine (read_end h hIm hE c2 c3.symm).mono ?_
  rintro e w' ⟨rfl,k⟩
  exact ⟨rfl,none,Md.Ce.stepR r ws true,by rw [hcom];exact k.like (hbox none) rfl b5,.inl ⟨rfl,by omega⟩⟩
 ·refine (read_on h hE c2).mono ?_
  rintro e w' ⟨rfl,k⟩
  exact ⟨rfl,some i0,Md.Ce.stepR r ws true,by rw [hcom];exact k.like (hbox _) c3 b5,.inr ⟨⟨i0,rfl⟩,by omega,c4⟩⟩
end
section
variable {W w:World} {G0:List Nat} {b mb mg:Nat} {x:Rx} {z:Rz} {ws:List Int} {o:Bool} {n:Int}
theorem run_old (h:Full W G0 b z mb mg w x ws true n) (hI:In0 x) (hp:x.part=2) (hc:0≤x.cell) (hl:plW x≤(ws.length:Int)) (hW:okW ws):Calls Tryz.prog 336 #[.pointer (some ⟨b,0,none⟩),.pointer (some ⟨mb,0,none⟩)] w fun e w'=>e=.returned (.tuple #[])∧Full W G0 b z mb mg w' (readX x ws) ws false (up n):=by
 obtain ⟨q,r,h,hR⟩:=h
 rcases hR with ⟨_,hR⟩ | ⟨⟨i0,rfl⟩,_,hL⟩
 ·omega
 have h2:=(hI.p2 hp).2
 have HR:=Lib.hid (read_full h hL hI.ca hI.cb hI.n hI.inv hp hc hI.celB.2 (by omega) rfl hl hW)
 have h13:w.cell? ⟨b,13,none⟩=some (.pointer (some ⟨i0,0,none⟩)):=(h.cell 13).trans rfl
 have hb:=h.ltB
 clear h hL h2
 go_enter Tryz.func336,Tryz.ntmps336
 go_wp2_with (go_at_call 340;refine HR.out.mono ?_;rintro e w1 ⟨rfl,k⟩;have HQ:=Lib.hid k;clear k HR)
 go_end0
 exact ⟨rfl,HQ.out⟩
theorem run_new (h:Full W G0 b z mb mg w x ws true n) (hT:TabAt W G0) (hI:In0 x) (hp:x.part=2) (hc:x.cell<0) (hk:(stepM x.m).2.kind=1) (hl:plW x≤(ws.length:Int)) (hW:okW ws):Calls Tryz.prog 336 #[.pointer (some ⟨b,0,none⟩),.pointer (some ⟨mb,0,none⟩)] w fun e w'=>e=.returned (.tuple #[])∧Full W G0 b z mb mg w' (readX (begX x) ws) ws false (up n):=by
 obtain ⟨q,r,h,hR⟩:=h
 obtain rfl:q=none:=by
  rcases hR with hR | ⟨_,hR,_⟩
  ·exact hR.1
  ·omega
 obtain ⟨h0,h2⟩:=hI.p2 hp
 have hw:¬ 0≤x.m.wait:=by omega
 obtain ⟨lk,tr⟩:=step_turns hI.inv hw h0
 have hst:(stepM x.m).2.cell=(stepM x.m).1.wait∧0≤(stepM x.m).1.wait∧(stepM x.m).1.how=0:=by
  rcases tr with ⟨k4,_⟩ | ⟨_,e1,e2,e3,_⟩ | ⟨k0,_⟩
  ·omega
  ·exact ⟨e1,e2,e3⟩
  ·omega
 have hIs:=inv_step hI.inv
 have hwc:=hIs.wait
 have hcl:(stepM x.m).1.cells=x.a:=lk.cells.trans hI.cel
 have HI:=Lib.hid (instr_read h hT hI.inv rfl rfl hk)
 have HR:Hid (∀ w' i0,Mid W G0 b z mb mg w' { x with m:=(stepM x.m).1 } (some i0) (comC x) (Md.Ce.newR (3+x.b) (stepM x.m).2.cell (comC x).S) ws true n→Calls Tryz.prog 340 #[.pointer (some ⟨b,0,none⟩),.pointer (some ⟨mb,0,none⟩)] w' fun e w'=>e=.returned (.tuple #[])∧Full W G0 b z mb mg w' (readX (begX x) ws) ws false (up n)):=fun w' i0 k=>by
  have kb:Mid W G0 b z mb mg w' (begX x) (some i0) (comC x) (Md.Ce.newR (3+x.b) (stepM x.m).2.cell (comC x).S) ws true n:=k.like rfl rfl rfl
  exact read_full kb ⟨rfl,rfl,rfl,rfl,(fun e=>by have e':(0:Nat)=1∨(0:Nat)=2:=e;omega),(fun e=>by have e':(0:Nat)=2:=e;omega)⟩ hI.ca hI.cb hI.n hIs hp (by show 0≤(stepM x.m).2.cell;omega) (by show (stepM x.m).2.cell<x.a;omega) (by show (0:Nat)≤3;omega) (by unfold comC comN;rw [if_neg (by omega),if_neg (show ¬ (begX x).part=1 by show ¬ x.part=1;omega)];rfl) hl hW
 have h13:w.cell? ⟨b,13,none⟩=some (.pointer none):=(h.cell 13).trans rfl
 have hb:=h.ltB
 clear h hT h0 h2 hw lk tr hst hIs hwc hcl hk hc hI hp hl hW
 go_enter Tryz.func336,Tryz.ntmps336
 go_wp2_with (first
  | (go_at_call 329;refine HI.out.mono ?_;rintro e w1 ⟨rfl,i0,k⟩;have HQ:=Lib.hid k;have e13:w1.cell? ⟨b,13,none⟩=some (.pointer (some ⟨i0,0,none⟩)):=(k.cell 13).trans rfl;have lb:=k.ltB;clear k HI)
  | (go_at_call 340;refine (HR.out _ _ HQ.out).mono ?_;rintro e w2 ⟨rfl,k⟩;have HZ:=Lib.hid k;clear k HR))
 go_end0
 exact ⟨rfl,HZ.out⟩
theorem run_ends (h:Full W G0 b z mb mg w x ws true n) (hT:TabAt W G0) (hI:In0 x) (hp:x.part=2) (hc:x.cell<0) (hk:(stepM x.m).2.kind=4):Calls Tryz.prog 336 #[.pointer (some ⟨b,0,none⟩),.pointer (some ⟨mb,0,none⟩)] w fun e w'=>e=.returned (.tuple #[])∧Full W G0 b z mb mg w' { x with m:=(stepM x.m).1,part:=3 } ws true n:=by
 obtain ⟨q,r,h,hR⟩:=h
 obtain rfl:q=none:=by
  rcases hR with hR | ⟨_,hR,_⟩
  ·exact hR.1
  ·omega
 have HI:=Lib.hid (instr_end h hT hI.inv rfl rfl hk)
 have h13:w.cell? ⟨b,13,none⟩=some (.pointer none):=(h.cell 13).trans rfl
 have hb:=h.ltB
 have HC:Hid (comC x=comC { x with m:=(stepM x.m).1,part:=3 }):=by unfold comC comN;rw [if_neg (by omega),if_neg (by show ¬ (3:Nat)=1;omega)];trivial
 have HX:Hid (x.cell<0):=hc
 clear h hT hk hI hp hc
 go_enter Tryz.func336,Tryz.ntmps336
 go_wp2_with (go_at_call 329;refine HI.out.mono ?_;rintro e w1 ⟨rfl,k⟩;have HQ:=Lib.hid k;have e13:w1.cell? ⟨b,13,none⟩=some (.pointer none):=(k.cell 13).trans rfl;have lb:=k.ltB;clear k HI)
 go_end0
 exact ⟨rfl,none,r,by rw [← HC.out];exact HQ.out,.inl ⟨rfl,HX.out⟩⟩
theorem run_goes (h:Full W G0 b z mb mg w x ws true n) (hT:TabAt W G0) (hI:In0 x) (hp:x.part=2) (hc:x.cell<0) (h1:(stepM x.m).2.kind≠1) (h4:(stepM x.m).2.kind≠4):Calls Tryz.prog 336 #[.pointer (some ⟨b,0,none⟩),.pointer (some ⟨mb,0,none⟩)] w fun e w'=>e=.returned (.tuple #[])∧Full W G0 b z mb mg w' { x with m:=(stepM x.m).1,part:=2 } ws true n:=by
 obtain ⟨q,r,h,hR⟩:=h
 obtain rfl:q=none:=by
  rcases hR with hR | ⟨_,hR,_⟩
  ·exact hR.1
  ·omega
 have HI:=Lib.hid (instr_go h hT hI.inv rfl rfl (by simpa using h1) (by simpa using h4))
 have h13:w.cell? ⟨b,13,none⟩=some (.pointer none):=(h.cell 13).trans rfl
 have hb:=h.ltB
 have HC:Hid (comC x=comC { x with m:=(stepM x.m).1,part:=2 }):=by unfold comC comN;rw [if_neg (by omega),if_neg (by show ¬ (2:Nat)=1;omega)];trivial
 have HX:Hid (x.cell<0∧x.part=2):=⟨hc,hp⟩
 clear h hT h1 h4 hI hp hc
 go_enter Tryz.func336,Tryz.ntmps336
 go_wp2_with (go_at_call 329;refine HI.out.mono ?_;rintro e w1 ⟨rfl,k⟩;have HQ:=Lib.hid k;have e13:w1.cell? ⟨b,13,none⟩=some (.pointer none):=(k.cell 13).trans rfl;have lb:=k.ltB;clear k HI)
 go_end0
 exact ⟨rfl,none,r,by rw [← HC.out];exact HQ.out.like (by unfold xboxV;rw [HX.out.2]) rfl rfl,.inl ⟨rfl,HX.out.1⟩⟩
theorem run_any (h:Full W G0 b z mb mg w x ws true n) (hT:TabAt W G0) (hI:In0 x) (hp:x.part=2) (hl:plW x≤(ws.length:Int)) (hW:okW ws):Calls Tryz.prog 336 #[.pointer (some ⟨b,0,none⟩),.pointer (some ⟨mb,0,none⟩)] w fun e w'=>e=.returned (.tuple #[])∧Full W G0 b z mb mg w' (runX x ws).1 ws (!(runX x ws).2) (if (runX x ws).2 then up n else n):=by
 unfold runX
 by_cases hc:0≤x.cell
 ·rw [if_pos hc];exact run_old h hI hp hc hl hW
 ·rw [if_neg hc]
  by_cases h1:(stepM x.m).2.kind=1
  ·rw [if_pos h1];exact run_new h hT hI hp (by omega) h1 hl hW
  ·rw [if_neg h1]
   by_cases h4:(stepM x.m).2.kind=4
   ·rw [if_pos h4];exact run_ends h hT hI hp (by omega) h4
   ·rw [if_neg h4];exact run_goes h hT hI hp (by omega) h1 h4
theorem Full.mid (h:Full W G0 b z mb mg w x ws o n):∃ q c r,Mid W G0 b z mb mg w x q c r ws o n:=by
 obtain ⟨q,r,h,_⟩:=h
 exact ⟨q,_,r,h⟩
theorem Full.on {w':World} (h:Full W G0 b z mb mg w x ws o n) (k:Below w.heap.size w w'):Full W G0 b z mb mg w' x ws o n:=by
 obtain ⟨q,r,h,h2⟩:=h
 exact ⟨q,r,h.on k,h2⟩
theorem Full.same {w':World} (h:Full W G0 b z mb mg w x ws o n) (k:Same w w'):Full W G0 b z mb mg w' x ws o n:=h.on (k.below _)
theorem step_by {part:Nat} (hpt:x.part=part) (hpp:part=1∨part=2∨part=3) (h:Full W G0 b z mb mg w x ws o n) (hT:TabAt W G0) (hI:InX x) (hl:plW x≤(ws.length:Int)) (hW:okW ws) {y:Rx} {ws':List Int} {ac:Bool} (hy:stepX x ws=(y,ws',ac)) :
  Calls Tryz.prog 328 #[.pointer (some ⟨b,0,none⟩),.pointer (some ⟨mb,0,none⟩)] w fun e w'=>e=.returned (.tuple #[.bool (decide ((y.part:Int)=4)),.int .i64 0])∧Full W G0 b z mb mg w' y ws' (!ac) (if ac then up n else n):=by
 obtain ⟨o',ho⟩:∃ o',o'=!ac:=⟨_,rfl⟩
 obtain ⟨n',hn⟩:∃ n',n'=if ac then up n else n:=⟨_,rfl⟩
 rw [← ho,← hn]
 have HF:Hid (Calls Tryz.prog 333 #[.pointer (some ⟨b,0,none⟩),.pointer (some ⟨mb,0,none⟩)] w fun e w'=>e=.returned (.bool true)∧Same w w'):=by
  obtain ⟨q,c,r,h⟩:=h.mid
  have:=fits_any h
  rwa [decide_eq_true hl] at this
 have HO:Hid (∀ w',Same w w'→Calls Tryz.prog 332 #[.pointer (some ⟨b,0,none⟩)] w' fun e w2=>e=.returned (.bool false)∧w2=w'):=fun w' k=>by
  obtain ⟨q,c,r,h⟩:=(h.same k).mid
  have:=over_any h
  rwa [decide_eq_false (by omega)] at this
 have hfs:=hI.few_steps.1
 have hfu:=hI.inv.fuel
 have HP:Hid (∀ w',Same w w'→Calls Tryz.prog 334 #[.pointer (some ⟨b,0,none⟩),.pointer (some ⟨mb,0,none⟩)] w' fun e w2=>e=.returned (.tuple #[])∧Full W G0 b z mb mg w2 (tickX x) ws true n):=fun w' k=>by
  obtain ⟨q,r,h,hR⟩:=h.same k
  refine (open_any h hI.pos (by omega)).mono ?_
  rintro e w2 ⟨rfl,k2⟩
  exact ⟨rfl,q,r,k2,by rcases hR with hR | ⟨h1,h2,h3⟩;exact .inl hR;exact .inr ⟨h1,h2,⟨h3.p,h3.c,h3.s,h3.k,h3.v,h3.x⟩⟩⟩
 have HZ:Hid (∀ w',Full W G0 b z mb mg w' y ws' o' n'→Calls Tryz.prog 332 #[.pointer (some ⟨b,0,none⟩)] w' fun e w2=>e=.returned (.bool (decide ((y.part:Int)=4)))∧w2=w'):=fun w' k=>by
  obtain ⟨q,c,r,h⟩:=k.mid
  exact over_any h
 have HB:Hid (∀ w',Full W G0 b z mb mg w' (tickX x) ws true n→w'.cell? ⟨b,11,none⟩=some (.int .i64 (part:Int))∧b<w'.heap.size):=fun w' k=>by
  obtain ⟨q,c,r,h⟩:=k.mid
  exact ⟨(h.cell 11).trans (by show some (Value.int .i64 (x.part:Int))=_;rw [hpt]),h.ltB⟩
 have HB0:Hid (b<w.heap.size∧∀ w',Same w w'→b<w'.heap.size):=by
  obtain ⟨q,c,r,h⟩:=h.mid
  exact ⟨h.ltB,fun w' k=>by rw [k.heap];exact h.ltB⟩
 have hb:=HB0.out.1
 rcases hpp with rfl | rfl | rfl
 ·have HC:Hid (∀ w',Full W G0 b z mb mg w' (tickX x) ws true n→Calls Tryz.prog 335 #[.pointer (some ⟨b,0,none⟩),.pointer (some ⟨mb,0,none⟩)] w' fun e w2=>e=.returned (.tuple #[])∧Full W G0 b z mb mg w2 y ws' o' n'):=fun w' k=>by
   have E:stepX x ws=((comeX (tickX x) ws).1,(comeX (tickX x) ws).2,true):=by unfold stepX;rw [if_pos hpt]
   rw [E] at hy
   cases hy
   subst ho hn
   obtain ⟨q,r,h,hR⟩:=k
   have hc1:=(hI.p1 hpt).2.1
   obtain ⟨g1,g2,g3,g4,g5,g6,g7,g8,g9,g10⟩:=come_box (tickX x) ws
   have g8':(comeX (tickX x) ws).1.cell=x.cell:=g8
   refine (come_any h hI.tick hpt hl).mono ?_
   rintro e w2 ⟨rfl,k2⟩
   refine ⟨rfl,q,r,k2,?_⟩
   rcases hR with hR | ⟨_,h2,_⟩
   ·exact .inl ⟨hR.1,by rw [g8'];omega⟩
   ·have h2':0≤x.cell:=h2
    omega
  clear h hT hI hl hW hy hpt hfs hfu ho hn
  go_enter Tryz.func328,Tryz.ntmps328
  go_wp2_with (first
   | (go_at_call 332;refine (HZ.out _ H4.out).mono ?_;rintro e w5 ⟨rfl,hw⟩;subst w5;clear HZ)
   | (go_at_call 335;refine (HC.out _ H3.out).mono ?_;rintro e w4 ⟨rfl,k⟩;have H4:=Lib.hid k;clear k HC H3)
   | (go_at_call 334;refine (HP.out _ H1.out).mono ?_;rintro e w3 ⟨rfl,k⟩;have H3:=Lib.hid k;obtain ⟨e11,lb3⟩:=HB.out _ k;clear k HP HB)
   | (go_at_call 332;refine (HO.out _ H1.out).mono ?_;rintro e w2 ⟨rfl,hw⟩;subst w2;clear HO)
   | (go_at_call 333;refine HF.out.mono ?_;rintro e w1 ⟨rfl,k⟩;have H1:=Lib.hid k;have lb1:=HB0.out.2 _ k;clear k HF))
  go_ret2
  exact ⟨rfl,H4.out⟩
 ·have HC:Hid (∀ w',Full W G0 b z mb mg w' (tickX x) ws true n→Calls Tryz.prog 336 #[.pointer (some ⟨b,0,none⟩),.pointer (some ⟨mb,0,none⟩)] w' fun e w2=>e=.returned (.tuple #[])∧Full W G0 b z mb mg w2 y ws' o' n'):=fun w' k=>by
   have E:stepX x ws=((runX (tickX x) ws).1,ws,(runX (tickX x) ws).2):=by unfold stepX;rw [if_neg (by omega),if_neg (by omega)]
   rw [E] at hy
   cases hy
   subst ho hn
   exact run_any k hT hI.tick hpt hl hW
  clear h hT hI hl hW hy hpt hfs hfu ho hn
  go_enter Tryz.func328,Tryz.ntmps328
  go_wp2_with (first
   | (go_at_call 332;refine (HZ.out _ H4.out).mono ?_;rintro e w5 ⟨rfl,hw⟩;subst w5;clear HZ)
   | (go_at_call 336;refine (HC.out _ H3.out).mono ?_;rintro e w4 ⟨rfl,k⟩;have H4:=Lib.hid k;clear k HC H3)
   | (go_at_call 334;refine (HP.out _ H1.out).mono ?_;rintro e w3 ⟨rfl,k⟩;have H3:=Lib.hid k;obtain ⟨e11,lb3⟩:=HB.out _ k;clear k HP HB)
   | (go_at_call 332;refine (HO.out _ H1.out).mono ?_;rintro e w2 ⟨rfl,hw⟩;subst w2;clear HO)
   | (go_at_call 333;refine HF.out.mono ?_;rintro e w1 ⟨rfl,k⟩;have H1:=Lib.hid k;have lb1:=HB0.out.2 _ k;clear k HF))
  go_ret2
  exact ⟨rfl,H4.out⟩
 ·have HC:Hid (∀ w',Full W G0 b z mb mg w' (tickX x) ws true n→Calls Tryz.prog 337 #[.pointer (some ⟨b,0,none⟩),.pointer (some ⟨mb,0,none⟩)] w' fun e w2=>e=.returned (.tuple #[])∧Full W G0 b z mb mg w2 y ws' o' n'):=fun w' k=>by
   have E:stepX x ws=(leaveX (tickX x),ws.set (3+x.th).toNat 0,true):=by unfold stepX;rw [if_neg (by omega),if_pos hpt]
   rw [E] at hy
   cases hy
   subst ho hn
   obtain ⟨q,r,h,hR⟩:=k
   have hc1:=(hI.p3 (.inl hpt)).2.1
   refine (leave_any h hI.tick hl).mono ?_
   rintro e w2 ⟨rfl,k2⟩
   refine ⟨rfl,q,r,?_,?_⟩
   ·have:comC (leaveX (tickX x))=comC (tickX x):=by
     unfold comC comN
     rw [if_neg (show ¬ (leaveX (tickX x)).part=1 by show ¬ 4=1;omega),if_neg (show ¬ (tickX x).part=1 by show ¬ x.part=1;omega)]
     rfl
    rw [this]
    exact k2
   ·rcases hR with hR | ⟨_,h2,_⟩
    ·exact .inl hR
    ·have h2':0≤x.cell:=h2
     omega
  clear h hT hI hl hW hy hpt hfs hfu ho hn
  go_enter Tryz.func328,Tryz.ntmps328
  go_wp2_with (first
   | (go_at_call 332;refine (HZ.out _ H4.out).mono ?_;rintro e w5 ⟨rfl,hw⟩;subst w5;clear HZ)
   | (go_at_call 337;refine (HC.out _ H3.out).mono ?_;rintro e w4 ⟨rfl,k⟩;have H4:=Lib.hid k;clear k HC H3)
   | (go_at_call 334;refine (HP.out _ H1.out).mono ?_;rintro e w3 ⟨rfl,k⟩;have H3:=Lib.hid k;obtain ⟨e11,lb3⟩:=HB.out _ k;clear k HP HB)
   | (go_at_call 332;refine (HO.out _ H1.out).mono ?_;rintro e w2 ⟨rfl,hw⟩;subst w2;clear HO)
   | (go_at_call 333;refine HF.out.mono ?_;rintro e w1 ⟨rfl,k⟩;have H1:=Lib.hid k;have lb1:=HB0.out.2 _ k;clear k HF))
  go_ret2
  exact ⟨rfl,H4.out⟩
theorem step_any (h:Full W G0 b z mb mg w x ws o n) (hT:TabAt W G0) (hI:InX x) (hp:x.part≠4) (hl:plW x≤(ws.length:Int)) (hW:okW ws) {y:Rx} {ws':List Int} {ac:Bool} (hy:stepX x ws=(y,ws',ac)) :
  Calls Tryz.prog 328 #[.pointer (some ⟨b,0,none⟩),.pointer (some ⟨mb,0,none⟩)] w fun e w'=>e=.returned (.tuple #[.bool (decide ((y.part:Int)=4)),.int .i64 0])∧Full W G0 b z mb mg w' y ws' (!ac) (if ac then up n else n) :=
 step_by rfl (by have:=hI.part;omega) h hT hI hl hW hy
end
end Go.Proofs.YtlkldgopliablaaGreatDoor.Rr
namespace Go.Proofs.YtlkldgopliablaaGreatDoor
open Go.ChangeShapes Go.WideShapes Go.ChangeAt Go.RowKit Num
section
variable {P:Program} {w:World}
theorem wp_append_ex {o:Oper} {a:Act} {K:Act→World→Prop} {Q:Exit→Act→World→Prop} (s x:Operand) (t tx:TypeId)
  (ho:o.op=.call { callee:=.builtin .append,args:=#[s,x],argTypes:=#[t,tx] }) (vs vx:Value) (hs:a.eval s=vs) (hx:a.eval x=vx) {R:Value→World→Prop}
  (hr:∃ v w',(Builtin.append_ #[t,tx] o.type #[vs,vx]).run P w=.ok v w'∧R v w') (h:∀ v w',R v w'→K (a.put o.dst v) w'):o.wp P a w K Q:=by
 obtain ⟨v,w',hr,hR⟩:=hr
 unfold Oper.wp execOp
 simp only [ho,resolve,invoke,builtin,Sem.run_bind,Sem.run_pure,Result.andThen_ok,List.map_toArray,List.map_cons,List.map_nil,hs,hx,hr]
 exact h v w' hR
theorem wpList_append_ex {ops:Array Oper} {rest:List Oper} {o:Oper} {a:Act} {Q:Exit→Act→World→Prop} (hgd:o.guard=none) (s x:Operand) (t tx:TypeId)
  (ho:o.op=.call { callee:=.builtin .append,args:=#[s,x],argTypes:=#[t,tx] }) (vs vx:Value) (hs:a.eval s=vs) (hx:a.eval x=vx) {R:Value→World→Prop}
  (hr:∃ v w',(Builtin.append_ #[t,tx] o.type #[vs,vx]).run P w=.ok v w'∧R v w') (h:∀ v w',R v w'→wpList P ops Q rest (a.put o.dst v) w'):wpList P ops Q (o::rest) a w :=
 wpList_plain hgd fun _ hK=>wp_append_ex s x t tx ho vs vx hs hx hr fun v w' hR=>hK _ _ (h v w' hR)
end
def Ro (w:World) (p:Option Addr) (vs:List Value):Prop:=(p=none∧vs=[])∨∃ g o,p=some ⟨g,o,none⟩∧w.rangeAt g o vs
theorem Ro.get {w:World} {p:Option Addr} {vs:List Value} (h:Ro w p vs) {j:Nat} {v:Value} (hv:vs[j]?=some v):∃ g o,p=some ⟨g,o,none⟩∧w.cell? ⟨g,o+j,none⟩=some v∧g<w.heap.size:=by
 rcases h with ⟨_,rfl⟩ | ⟨g,o,rfl,h⟩
 ·simp at hv
 ·exact ⟨g,o,rfl,h j v hv,World.block_lt_of_cell? w _ (h j v hv)⟩
theorem Ro.nil (w:World):Ro w none []:=.inl ⟨rfl,rfl⟩
end Go.Proofs.YtlkldgopliablaaGreatDoor
namespace Go.Proofs.YtlkldgopliablaaGreatDoor
open Go.ChangeShapes Go.WideShapes Go.ChangeAt Go.RowKit Num
attribute [local go_sem] run_store_float
end Go.Proofs.YtlkldgopliablaaGreatDoor
namespace Go.Proofs.YtlkldgopliablaaGreatDoor
open Go.ChangeShapes Go.WideShapes Go.ChangeAt Go.RowKit Num
attribute [local go_sem] run_store_float
end Go.Proofs.YtlkldgopliablaaGreatDoor
namespace Go.Proofs.YtlkldgopliablaaGreatDoor
open Go.ChangeShapes Go.WideShapes Go.ChangeAt Go.RowKit Num
attribute [local go_sem] run_store_float
end Go.Proofs.YtlkldgopliablaaGreatDoor
namespace Go.Proofs.YtlkldgopliablaaGreatDoor
open Go.ChangeShapes Go.WideShapes Go.ChangeAt Go.RowKit Num
attribute [local go_sem] run_store_float
end Go.Proofs.YtlkldgopliablaaGreatDoor
namespace Go.Proofs.YtlkldgopliablaaGreatDoor
open Go.ChangeShapes Go.WideShapes Go.ChangeAt Go.RowKit Num
attribute [local go_sem] run_store_float
end Go.Proofs.YtlkldgopliablaaGreatDoor
namespace Go.Proofs.YtlkldgopliablaaGreatDoor
open Go.ChangeShapes Go.WideShapes Go.ChangeAt Go.RowKit Num
attribute [local go_sem] run_store_float
end Go.Proofs.YtlkldgopliablaaGreatDoor
namespace Go.Proofs.YtlkldgopliablaaGreatDoor
open Go.ChangeShapes Go.WideShapes Go.ChangeAt Go.RowKit Num
attribute [local go_sem] run_store_float
end Go.Proofs.YtlkldgopliablaaGreatDoor
namespace Go.Proofs.YtlkldgopliablaaGreatDoor
open Go.ChangeShapes Go.WideShapes Go.ChangeAt Go.RowKit Num
attribute [local go_sem] run_store_float
end Go.Proofs.YtlkldgopliablaaGreatDoor
namespace Go.Proofs.YtlkldgopliablaaGreatDoor
open Go.ChangeShapes Go.WideShapes Go.ChangeAt Go.RowKit Num
attribute [local go_sem] run_store_float
end Go.Proofs.YtlkldgopliablaaGreatDoor
namespace Go.Proofs.YtlkldgopliablaaGreatDoor
open Go.ChangeShapes Go.WideShapes Go.ChangeAt Go.RowKit Num
attribute [local go_sem] run_store_float
end Go.Proofs.YtlkldgopliablaaGreatDoor
namespace Go.Proofs.YtlkldgopliablaaGreatDoor
open Go.ChangeShapes Go.WideShapes Go.ChangeAt Go.RowKit Num
attribute [local go_sem] run_store_float
end Go.Proofs.YtlkldgopliablaaGreatDoor
namespace Go.Proofs.YtlkldgopliablaaGreatDoor
open Go.ChangeShapes Go.WideShapes Go.ChangeAt Go.RowKit Num
attribute [local go_sem] run_store_float
end Go.Proofs.YtlkldgopliablaaGreatDoor
namespace Go.Proofs.YtlkldgopliablaaGreatDoor
open Go.ChangeShapes Go.WideShapes Go.ChangeAt Go.RowKit Num
attribute [local go_sem] run_store_float
end Go.Proofs.YtlkldgopliablaaGreatDoor
namespace Go.Proofs.YtlkldgopliablaaGreatDoor
open Go.ChangeShapes Go.WideShapes Go.ChangeAt Go.RowKit Num
attribute [local go_sem] run_store_float
end Go.Proofs.YtlkldgopliablaaGreatDoor
namespace Go.Proofs.YtlkldgopliablaaGreatDoor
open Go.ChangeShapes Go.WideShapes Go.ChangeAt Go.RowKit Num
attribute [local go_sem] run_store_float
end Go.Proofs.YtlkldgopliablaaGreatDoor
namespace Go.Proofs.YtlkldgopliablaaGreatDoor
open Go.ChangeShapes Go.WideShapes Go.ChangeAt Go.RowKit Num
attribute [local go_sem] run_store_float
end Go.Proofs.YtlkldgopliablaaGreatDoor
namespace Go.Proofs.YtlkldgopliablaaGreatDoor
open Go.ChangeShapes Go.WideShapes Go.ChangeAt Go.RowKit Num
end Go.Proofs.YtlkldgopliablaaGreatDoor
namespace Go.Proofs.YtlkldgopliablaaGreatDoor
open Go.ChangeShapes Go.WideShapes Go.ChangeAt Go.RowKit Num
attribute [local go_sem] run_store_float
theorem row_at {w:World} {p:Option Addr} {c n:Nat} {l:List Nat} (h:RowAt 71 w p c (fls l)) (hn:l.length=n) (i:Nat) (hi:i<n):∃ g,p=some ⟨g,0,none⟩∧g<w.heap.size∧w.cell? ⟨g,i,none⟩=some (.float .f64 (l.getD i 0)):=by
 rcases h.own.2 with ⟨hv,_⟩ | ⟨g,cap,cur,hv,_⟩
 ·injection hv with _ h2 _
  rw [fls_len] at h2
  omega
 ·injection hv with h1 _ _
  subst h1
  obtain ⟨r1,_,r2⟩:=row_get h (j:=i) (v:=.float .f64 (l.getD i 0)) (by simp [fls,show i<l.length by omega])
  exact ⟨g,rfl,r2,r1⟩
theorem trow_at {w:World} {p:Option Addr} {c n:Nat} {l:Wr} (h:TRow w p c l) (hn:l.length=n) (i:Nat) (hi:i<n):∃ g,p=some ⟨g,0,none⟩∧g<w.heap.size∧w.cell? ⟨g,i*2,none⟩=some (.int .i64 (l.getD i (0,0)).1)∧w.cell? ⟨g,i*2+1,none⟩=some (.float .f64 (l.getD i (0,0)).2):=by
 obtain ⟨g,r1,r2,r3,r4,_⟩:=h.at i (by omega)
 rw [show l.getD i (0,0)=l[i]'(by omega) by simp [show i<l.length by omega]]
 exact ⟨g,r1,r2,r3,r4⟩
end Go.Proofs.YtlkldgopliablaaGreatDoor
