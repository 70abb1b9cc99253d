import Derived.Test.YteinilmecnlanaaGreatDoorJ4
import Derived.Deep.CutBlock
import Derived.Test.YteinilmecnlanaaGreatDoorJ2
import Derived.Deep.DeepCutAuto
namespace Go.Proofs.YteinilmecnlanaaGreatDoor.Ww
open Go.ChangeShapes Go.WideShapes Go.ChangeAt Go.RowKit Num Rr
attribute [local go_sem] run_store_float
abbrev rowO (T:TypeId) (L:List (Option Addr × Nat × Nat)):Obj:=.cells (L.map fun t=>Value.slice t.1 t.2.1 t.2.2).toArray T
structure Tkn (B w0 w:World) (gs bx:Nat) (o ro:Obj) (L1 L2:List (Option Addr × Nat × Nat)):Prop where
  bel:Below B.heap.size w0 w
  w1:∀ t∈L1,Wide B w 73 1 t
  w2:∀ t∈L2,Wide B w 75 2 t
  new:∀ t∈L1 ++ L2,∀ g,t.1=some ⟨g,0,none⟩→g≠gs∧g≠bx
  row:w.heap[gs]?=some ro
  box:w.heap[bx]?=some o
theorem Tkn.put {B w0 w:World} {gs bx:Nat} {o ro:Obj} {L1 L2:List (Option Addr × Nat × Nat)} (h:Tkn B w0 w gs bx o ro L1 L2) {g:Nat} (hg:B.heap.size≤g) (hn:g≠gs∧g≠bx) (i:Nat) (v:Value):Tkn B w0 (w.setCell ⟨g,i,none⟩ v) gs bx o ro L1 L2 :=
  ⟨h.bel.setCell hg v,fun t ht=>(h.w1 t ht).put g i v,fun t ht=>(h.w2 t ht).put g i v,h.new,(heap_setCell_other _ _ _ _ (by simpa using hn.1.symm)).trans h.row,(heap_setCell_other _ _ _ _ (by simpa using hn.2.symm)).trans h.box⟩
theorem wide_lt {B w:World} {T:TypeId} {sz:Nat} {t:Option Addr × Nat × Nat} (h:Wide B w T sz t) {g:Nat} (hg:t.1=some ⟨g,0,none⟩):g<w.heap.size:=by
  rcases h with ⟨z,_⟩ | ⟨g',arr,z,_,hb,_⟩
  · rw [hg] at z;cases z
  · rw [hg] at z;cases z;exact lt_of_block hb
theorem Tkn.get {B w0 w:World} {gs bx:Nat} {o ro:Obj} {L1 L2 L:List (Option Addr × Nat × Nat)} {T:TypeId} (h:Tkn B w0 w gs bx o ro L1 L2) (e:ro=rowO T L) {j:Nat} {t:Option Addr × Nat × Nat} (hj:L[j]?=some t):w.cell? ⟨gs,j,none⟩=some (.slice t.1 t.2.1 t.2.2)∧gs<w.heap.size:=by
  refine ⟨?_,lt_of_block h.row⟩
  have hr:=h.row
  rw [e] at hr
  rw [cell_of_row _ _ _ _ _ _ hr]
  simp [hj]
theorem Tkn.second {B w0 w:World} {gs bx:Nat} {o ro:Obj} {L1 L2:List (Option Addr × Nat × Nat)} (h:Tkn B w0 w gs bx o ro L1 L2) (ro2:Array Value) (T:TypeId) (hB:B.heap.size≤w0.heap.size):Tkn B w0 (w.alloc (.cells ro2 T)) w.heap.size bx o (.cells ro2 T) L1 L2:=by
  have k:=below_alloc w (.cells ro2 T)
  refine ⟨h.bel.alloc (Nat.le_trans hB h.bel.size) _,fun t ht=>(h.w1 t ht).on k,fun t ht=>(h.w2 t ht).on k,fun t ht g hg=>⟨?_,(h.new t ht g hg).2⟩,heap_alloc_new _ _,(k.block _ (lt_of_block h.box)).trans h.box⟩
  rcases List.mem_append.1 ht with q | q
  · have:=wide_lt (h.w1 t q) hg;omega
  · have:=wide_lt (h.w2 t q) hg;omega
set_option maxRecDepth 100000 in
set_option maxHeartbeats 8000000 in
theorem taken_any {B w:World} {t:Int} {na:Nat} {m:Mac} {D D':Dd} {mk nu e0 e1 e2 st:Int} {args:List Nat} (h:DdAt w B.heap.size D args m) (h2:DdIn w D' args m) (hB:B.heap.size≤w.heap.size) (hn:args.length=na) (b0:na≤9223372036854775807) (b1:m.reads.length≤9223372036854775807) (b2:m.buf.length≤9223372036854775807) (b3:m.out.length≤9223372036854775807):Calls Tryz.prog 19 #[.agg (dC t na m D mk nu e0 e1 e2 st),.agg (dC t na m D' mk nu e0 e1 e2 st)] w fun e w'=>e=.returned (.bool true)∧Below B.heap.size w w':=by
  have k1:=below_alloc w (dO t na m D mk nu e0 e1 e2 st)
  have k2:=below_alloc (w.alloc (dO t na m D mk nu e0 e1 e2 st)) (dO t na m D' mk nu e0 e1 e2 st)
  obtain ⟨u,hu⟩:∃ u,u=(w.alloc (dO t na m D mk nu e0 e1 e2 st)).alloc (dO t na m D' mk nu e0 e1 e2 st):=⟨_,rfl⟩
  have HK:Below w.heap.size w u:=by rw [hu];exact k1.trans (k2.mono k1.size)
  have HB2:Hid (u.heap[w.heap.size]?=some (dO t na m D mk nu e0 e1 e2 st)∧u.heap[w.heap.size+1]?=some (dO t na m D' mk nu e0 e1 e2 st)):=by rw [hu];exact ⟨heap_old (heap_alloc_new _ _),heap_new (by simp)⟩
  have HSD:Hid (Calls Tryz.prog 33 #[.agg (dC t na m D mk nu e0 e1 e2 st),.agg (dC t na m D' mk nu e0 e1 e2 st)] u fun e w'=>e=.returned (.bool true)∧Below u.heap.size u w'):=samedeed_any (h.in_.on HK) (h2.on HK) hn b0 b1 b2 b3
  have HT:Hid (∀ v,Below u.heap.size u v→Tkn B w (v.alloc (rowO 27 [(D.pa,na,D.ca),(D.po,m.out.length,D.co)])) v.heap.size w.heap.size (dO t na m D mk nu e0 e1 e2 st) (rowO 27 [(D.pa,na,D.ca),(D.po,m.out.length,D.co)]) [(D.pa,na,D.ca),(D.po,m.out.length,D.co)] [(D.pr,m.reads.length,D.cr),(D.pw,m.buf.length,D.cw)]):=fun v hv=>by
    have kk:Below w.heap.size w v:=HK.trans (hv.mono HK.size)
    have k3:=below_alloc v (rowO 27 [(D.pa,na,D.ca),(D.po,m.out.length,D.co)])
    have w1:=(h.a.wide (B:=B) h.xa).on kk
    have w2:=(h.o.wide (B:=B) h.xo).on kk
    have w3:=(h.r.wide (B:=B) h.xr).on kk
    have w4:=(h.wr.wide (B:=B) h.xw).on kk
    rw [hn] at w1
    have l1:∀ t∈[(D.pa,na,D.ca),(D.po,m.out.length,D.co)],Wide B v 73 1 t:=fun t ht=>by
      simp only [List.mem_cons,List.not_mem_nil,or_false] at ht
      rcases ht with rfl | rfl
      · exact w1
      · exact w2
    have l2:∀ t∈[(D.pr,m.reads.length,D.cr),(D.pw,m.buf.length,D.cw)],Wide B v 75 2 t:=fun t ht=>by
      simp only [List.mem_cons,List.not_mem_nil,or_false] at ht
      rcases ht with rfl | rfl
      · exact w3
      · exact w4
    have lo1:∀ t∈[(D.pa,na,D.ca),(D.po,m.out.length,D.co)],∀ g,t.1=some ⟨g,0,none⟩→g<w.heap.size:=fun t ht g hg=>by
      simp only [List.mem_cons,List.not_mem_nil,or_false] at ht
      rcases ht with rfl | rfl
      · exact wide_lt (h.a.wide (B:=B) h.xa) hg
      · exact wide_lt (h.o.wide (B:=B) h.xo) hg
    have lo2:∀ t∈[(D.pr,m.reads.length,D.cr),(D.pw,m.buf.length,D.cw)],∀ g,t.1=some ⟨g,0,none⟩→g<w.heap.size:=fun t ht g hg=>by
      simp only [List.mem_cons,List.not_mem_nil,or_false] at ht
      rcases ht with rfl | rfl
      · exact wide_lt (h.r.wide (B:=B) h.xr) hg
      · exact wide_lt (h.wr.wide (B:=B) h.xw) hg
    have hvs:=kk.size
    refine ⟨(kk.trans (k3.mono kk.size)).mono hB,fun t ht=>(l1 t ht).on k3,fun t ht=>(l2 t ht).on k3,fun t ht g hg=>?_,heap_alloc_new _ _,(k3.block _ ?_).trans ((hv.block _ (lt_of_block HB2.out.1)).trans HB2.out.1)⟩
    · rcases List.mem_append.1 ht with q | q
      · have:=lo1 t q g hg;omega
      · have:=lo2 t q g hg;omega
    · exact Nat.lt_of_lt_of_le (lt_of_block HB2.out.1) hv.size
  have HCL:Hid (∀ v:World,v.heap[w.heap.size]?=some (dO t na m D mk nu e0 e1 e2 st)→v.cell? ⟨w.heap.size,4,none⟩=some (.slice D.pa na D.ca)∧v.cell? ⟨w.heap.size,9,none⟩=some (.slice D.po m.out.length D.co)∧v.cell? ⟨w.heap.size,7,none⟩=some (.slice D.pr m.reads.length D.cr)∧v.cell? ⟨w.heap.size,8,none⟩=some (.slice D.pw m.buf.length D.cw)∧w.heap.size<v.heap.size):=fun v hv=>by
    obtain ⟨_,_,_,_,a4,_,_,a7,a8,a9,_,_,_,_,_,_,_,_,_,la⟩:=cells19 hv
    exact ⟨a4,a9,a7,a8,la⟩
  clear k1 k2 h h2 hn b0 b1 b2 b3
  go_enter Tryz.func19,Tryz.ntmps19
  go_upto_region 1 with fail
  rw [← hu]
  clear hu HK
  go_upto_region 2 with (first
    | (refine wpList_load_row rfl 61 _ rfl w.heap.size rfl _ (dC t na m D mk nu e0 e1 e2 st) _ _ HB2.out.1 Tryz.underlying61 rfl deedInfo ?_)
    | (refine wpList_load_row rfl 61 _ rfl (w.heap.size+1) rfl _ (dC t na m D' mk nu e0 e1 e2 st) _ _ HB2.out.2 Tryz.underlying61 rfl deedInfo ?_)
    | (go_at_call 33;refine HSD.out.mono ?_;rintro r u1 ⟨rfl,q⟩;have H1:=Lib.hid q;obtain ⟨a4,a9,_,_,la⟩:=HCL.out _ ((q.block _ (lt_of_block HB2.out.1)).trans HB2.out.1);clear q HSD))
  have HS0:=Lib.hid (HT.out _ H1.out)
  clear HT H1 HB2
  go_wp2_with fail
  obtain ⟨gs,hgs⟩:∃ gs,gs=u1.heap.size:=⟨_,rfl⟩
  rw [← hgs] at HS0 ⊢
  clear hgs
  obtain ⟨L1,hL1⟩:∃ L1,L1=[(D.pa,na,D.ca),(D.po,m.out.length,D.co)]:=⟨_,rfl⟩
  obtain ⟨L2,hL2⟩:∃ L2,L2=[(D.pr,m.reads.length,D.cr),(D.pw,m.buf.length,D.cw)]:=⟨_,rfl⟩
  have n1:L1.length=2:=by rw [hL1];rfl
  have n2:L2.length=2:=by rw [hL2];rfl
  rw [← hL1,← hL2] at HS0
  have HL2:=Lib.hid hL2
  have e1':rowO 27 L1=.cells #[.slice D.pa na D.ca,.slice D.po m.out.length D.co] 27:=by rw [hL1];rfl
  rw [← e1']
  clear e1'
  clear hL1 hL2 a4 a9 la
  go_loopw [7,8,9,23] (fun _ _ _ vi w'=>∃ j:Nat,vi=.int .i64 j∧j≤2∧Hid (Tkn B w w' gs w.heap.size (dO t na m D mk nu e0 e1 e2 st) (rowO 27 L1) L1 L2)) (fun _ _ _ vi _=>2 - (intOf vi).toNat)
  case atStart=>exact ⟨0,rfl,by omega,HS0.out⟩
  case round =>
    obtain ⟨j,rfl,hj,HSN⟩:=hrel
    by_cases hlt:j<2
    · have hlt':(j:Int)<2:=by omega
      obtain ⟨t',ht⟩:∃ t',L1[j]?=some t':=⟨_,List.getElem?_eq_getElem (by omega)⟩
      have hm:t'∈L1:=List.mem_of_getElem? ht
      obtain ⟨g1,g2⟩:=HSN.out.get rfl ht
      obtain ⟨tp,tn,tc⟩:=t'
      rcases HSN.out.w1 _ hm with ⟨hp,hc⟩ | ⟨g,arr,hp,hB2,hg,hs,hmx⟩
      · replace hp:tp=none:=hp
        replace hc:tc=0:=hc
        subst hp hc
        clear ht hm
        go_wp2_with fail
        have HSW:=HSN
        generalize hwr:wr=wz at HSW
        go_loopw [9,33] (fun _ vi w'=>vi=.int .i64 0∧w'=wz) (fun _ vi _=>0)
        case atStart=>exact ⟨rfl,rfl⟩
        case round =>
          obtain ⟨rfl,rfl⟩:=hrel
          go_wp2_with fail
          exact ⟨⟨j+1,by first | rfl | (congr 1),by omega,HSW.out⟩,by simp [intOf];omega⟩
      · replace hp:tp=some ⟨g,0,none⟩:=hp
        replace hmx:tc≤9223372036854775807:=hmx
        have hne:=HSN.out.new _ (List.mem_append.2 (.inl hm)) g hp
        subst hp
        clear ht hg hs
        go_wp2_with fail
        go_loopw [9,33] (fun _ vi w'=>∃ i:Nat,vi=.int .i64 i∧i≤tc∧Hid (Tkn B w w' gs w.heap.size (dO t na m D mk nu e0 e1 e2 st) (rowO 27 L1) L1 L2)) (fun _ vi _=>tc - (intOf vi).toNat)
        case atStart=>exact ⟨0,rfl,by omega,HSN.out⟩
        case round =>
          obtain ⟨i,rfl,hi,HSI⟩:=hrel
          by_cases hil:i<tc
          · have hil':(i:Int)<(tc:Int):=by omega
            rcases HSI.out.w1 _ hm with ⟨hp,_⟩ | ⟨g',arr2,hp,_,hg,hs,_⟩
            · cases hp
            · cases hp
              have hsz:arr2.size=tc:=by have:arr2.size=tc*1:=hs;omega
              have hc0:wr.cell? ⟨g,i,none⟩=some (arr2[i]'(by omega)):=by rw [cell_of_row _ _ _ _ _ _ hg,Array.getElem?_eq_getElem]
              have hfz:=frozen_of_row wr g i _ _ hg
              have hgl:=lt_of_block hg
              have HPT:=Lib.hid (HSI.out.put hB2 hne i (.float .f64 13858490847093325824))
              generalize arr2[i]'(by omega)=old at hc0
              clear hg hs hsz
              go_wp2_with fail
              exact ⟨⟨i+1,by first | rfl | (congr 1),by omega,HPT.out⟩,by simp [intOf];omega⟩
          · have hil':¬ (i:Int)<(tc:Int):=by omega
            go_wp2_with fail
            exact ⟨⟨j+1,by first | rfl | (congr 1),by omega,HSI.out⟩,by simp [intOf];omega⟩
    · have hlt':¬ (j:Int)<2:=by omega
      obtain ⟨_,_,a7,a8,la⟩:=HCL.out _ HSN.out.box
      have HS2:Hid (Tkn B w (wr.alloc (rowO 57 L2)) wr.heap.size w.heap.size (dO t na m D mk nu e0 e1 e2 st) (rowO 57 L2) L1 L2):=HSN.out.second _ _ hB
      have e2':rowO 57 L2=.cells #[.slice D.pr m.reads.length D.cr,.slice D.pw m.buf.length D.cw] 57:=by rw [HL2.out];rfl
      go_wp2_with fail
      rw [← e2']
      clear e2' HS0 HSN HCL a7 a8 la
      obtain ⟨gt,hgt⟩:∃ gt,gt=wr.heap.size:=⟨_,rfl⟩
      rw [← hgt] at HS2 ⊢
      clear hgt
      obtain ⟨wo,rfl⟩:∃ wo,wo=wr:=⟨_,rfl⟩
      have HS0:=HS2
      clear HS2
      go_loopw [11,12,13,47] (fun _ _ _ vi w'=>∃ j:Nat,vi=.int .i64 j∧j≤2∧Hid (Tkn B w w' gt w.heap.size (dO t na m D mk nu e0 e1 e2 st) (rowO 57 L2) L1 L2)) (fun _ _ _ vi _=>2 - (intOf vi).toNat)
      case atStart=>exact ⟨0,rfl,by omega,HS0.out⟩
      case round =>
        obtain ⟨j,rfl,hj,HSN⟩:=hrel
        by_cases hlt:j<2
        · have hlt':(j:Int)<2:=by omega
          obtain ⟨t',ht⟩:∃ t',L2[j]?=some t':=⟨_,List.getElem?_eq_getElem (by omega)⟩
          have hm:t'∈L2:=List.mem_of_getElem? ht
          obtain ⟨g1,g2⟩:=HSN.out.get rfl ht
          obtain ⟨tp,tn,tc⟩:=t'
          rcases HSN.out.w2 _ hm with ⟨hp,hc⟩ | ⟨g,arr,hp,hB2,hg,hs,hmx⟩
          · replace hp:tp=none:=hp
            replace hc:tc=0:=hc
            subst hp hc
            clear ht hm
            go_wp2_with fail
            have HSW:=HSN
            generalize hwr:wr=wz at HSW
            go_loopw [13,57] (fun _ vi w'=>vi=.int .i64 0∧w'=wz) (fun _ vi _=>0)
            case atStart=>exact ⟨rfl,rfl⟩
            case round =>
              obtain ⟨rfl,rfl⟩:=hrel
              go_wp2_with fail
              exact ⟨⟨j+1,by first | rfl | (congr 1),by omega,HSW.out⟩,by simp [intOf];omega⟩
          · replace hp:tp=some ⟨g,0,none⟩:=hp
            replace hmx:tc≤9223372036854775807:=hmx
            have hne:=HSN.out.new _ (List.mem_append.2 (.inr hm)) g hp
            subst hp
            clear ht hg hs
            go_wp2_with fail
            go_loopw [13,57] (fun _ vi w'=>∃ i:Nat,vi=.int .i64 i∧i≤tc∧Hid (Tkn B w w' gt w.heap.size (dO t na m D mk nu e0 e1 e2 st) (rowO 57 L2) L1 L2)) (fun _ vi _=>tc - (intOf vi).toNat)
            case atStart=>exact ⟨0,rfl,by omega,HSN.out⟩
            case round =>
              obtain ⟨i,rfl,hi,HSI⟩:=hrel
              by_cases hil:i<tc
              · have hil':(i:Int)<(tc:Int):=by omega
                rcases HSI.out.w2 _ hm with ⟨hp,_⟩ | ⟨g',arr2,hp,_,hg,hs,_⟩
                · cases hp
                · cases hp
                  have hsz:arr2.size=tc*2:=hs
                  have hc0:wr.cell? ⟨g,i*2,none⟩=some (arr2[i*2]'(by omega)):=by rw [cell_of_row _ _ _ _ _ _ hg,Array.getElem?_eq_getElem]
                  have hc1:wr.cell? ⟨g,i*2+1,none⟩=some (arr2[i*2+1]'(by omega)):=by rw [cell_of_row _ _ _ _ _ _ hg,Array.getElem?_eq_getElem]
                  have hfz:=frozen_of_row wr g (i*2) _ _ hg
                  have hfz1:=frozen_of_row wr g (i*2+1) _ _ hg
                  have hgl:=lt_of_block hg
                  have HPT:=Lib.hid ((HSI.out.put hB2 hne (i*2) (.int .i64 (-77))).put hB2 hne (i*2+1) (.float .f64 13858490847093325824))
                  generalize arr2[i*2]'(by omega)=old at hc0
                  generalize arr2[i*2+1]'(by omega)=old1 at hc1
                  clear hg hs hsz
                  go_wp2_with fail
                  exact ⟨⟨i+1,by first | rfl | (congr 1),by omega,HPT.out⟩,by simp [intOf];omega⟩
              · have hil':¬ (i:Int)<(tc:Int):=by omega
                go_wp2_with fail
                exact ⟨⟨j+1,by first | rfl | (congr 1),by omega,HSI.out⟩,by simp [intOf];omega⟩
        · have hlt':¬ (j:Int)<2:=by omega
          go_wp2_with fail
          go_ret
          exact ⟨rfl,HSN.out.bel⟩
end Go.Proofs.YteinilmecnlanaaGreatDoor.Ww
namespace Go.Proofs.YteinilmecnlanaaGreatDoor.Ww
open Go.ChangeShapes Go.WideShapes Go.ChangeAt Go.RowKit Num Rr
attribute [local go_sem] run_store_float
def greatB (x:Wx):Bool:=decide (4611686018427387904<x.stamp) || decide (4611686018427387904<x.tick)
set_option maxRecDepth 100000 in
theorem great_any {w:World} {bd:Nat} {x:Wx} {z:Dz} {q:Dq} (h:DRaw w bd x z q):Calls Tryz.prog 16 #[.pointer (some ⟨bd,0,none⟩)] w fun r w'=>r=.returned (.bool (greatB x))∧w'=w:=by
  have c11:w.cell? ⟨bd,11,none⟩=some (.int .u64 x.tick):=(h.cell 11).trans rfl
  have c12:w.cell? ⟨bd,12,none⟩=some (.int .u64 x.stamp):=(h.cell 12).trans rfl
  have lb:=h.ltB
  unfold greatB
  generalize x.tick=cl at c11
  generalize x.stamp=sp at c12
  clear h
  by_cases h1:4611686018427387904<sp
  · rw [decide_eq_true h1,Bool.true_or]
    go_enter Tryz.func16,Tryz.ntmps16
    go_wp2_with fail
    go_ret
    exact ⟨rfl,rfl⟩
  · rw [decide_eq_false h1,Bool.false_or]
    by_cases h2:4611686018427387904<cl
    · rw [decide_eq_true h2]
      go_enter Tryz.func16,Tryz.ntmps16
      go_wp2_with fail
      go_ret
      exact ⟨rfl,rfl⟩
    · rw [decide_eq_false h2]
      go_enter Tryz.func16,Tryz.ntmps16
      go_wp2_with fail
      go_ret
      exact ⟨rfl,rfl⟩
set_option maxRecDepth 100000 in
set_option maxHeartbeats 2000000 in
theorem sameWords_any {w:World} {mb mg bw gw:Nat} {ws:List Int} {o:Bool} {n:Int} (h:MemAt 116 w mb mg ws o n) (k:WdAt w bw gw ws n) {N:Nat} (hN:ws.length=N):Calls Tryz.prog 17 #[.pointer (some ⟨mb,0,none⟩),.pointer (some ⟨bw,0,none⟩)] w fun r w'=>r=.returned (.bool true)∧Below w.heap.size w w':=by
  have hm:=k.many
  have HA:=Lib.hid (Md.all_any h)
  rw [hN] at HA hm
  have HCO:Hid (∀ u,Below w.heap.size w u→Calls Tryz.prog 24 #[.pointer (some ⟨mb,0,none⟩)] u fun e w'=>e=.returned (.int .i64 n)∧w'=u):=fun u q=>Md.count_any (h.on q)
  have HW:Hid (∀ u,Below w.heap.size w u→WdAt u bw gw ws n):=fun u q=>k.keep (kept_below q (fun i hi=>by
    have hi':i=bw∨i=gw:=by simpa using hi
    rcases hi' with rfl | rfl
    · exact k.ltB
    · exact k.ltG))
  have HNN:=Lib.hid hN
  clear h k hN
  go_enter Tryz.func17,Tryz.ntmps17
  go_upto_region 2 with (go_at_call 27;refine HA.out.mono ?_;rintro r u1 ⟨rfl,q1,q2⟩;have H1:=Lib.hid (And.intro q1 q2);have c0:=(HW.out _ q2).cell0;have c1:=(HW.out _ q2).cell1;have lb:=(HW.out _ q2).ltB;rw [HNN.out] at c0;clear q1 q2 HA)
  go_cut [25] (fun v25 wc=>v25=.bool false∧Hid (Same u1 wc))
  case first =>
    refine wp_region_seq (fun u=>u.cell? ⟨bw,0,none⟩=some (.slice (some ⟨gw,0,none⟩) N N)∧u.cell? ⟨bw,1,none⟩=some (.int .i64 n) )  ((0,true)::(1,true)::(2,true)::(3,true)::(4,true)::(5,true)::(6,true)::(7,true)::(8,true)::(9,true)::(11,true)::(12,true)::(13,true)::(14,true)::(10,false)::(15,true)::(16,true)::[])  Md.Cv.follows13 (by kernel_rfl) (fun _ _ _ _ _ h=>h)  ⟨c0,c1⟩ ?_
    (repeat ((first | (refine wpSeq_take (v:=?_) rfl (by rfl) (fun wq hSq=>?_) ?_;rotate_left;(focus ((try dsimp only at hSq);go_simp;try with_reducible rfl))) | refine wpSeq_skip rfl (by rfl) ?_);simp only [Act.put,List.setIfInBounds_toArray,List.set_cons_zero,List.set_cons_succ]))
    (refine wpSeq_do rfl (by rfl) (fun KK hK=>?_);go_simp)
    go_at_call 24
    refine (HCO.out _ (H1.out.2.trans ((Same.drew _).below _))).mono ?_
    rintro r u2 ⟨rfl,hw⟩
    subst u2
    refine hK.out _ _ ⟨c0,c1⟩ ?_
    (clear hK KK;try simp only [Act.put,List.setIfInBounds_toArray,List.set_cons_zero,List.set_cons_succ])
    (repeat ((first | (refine wpSeq_take (v:=?_) rfl (by rfl) (fun wq hSq=>?_) ?_;rotate_left;(focus ((try dsimp only at hSq);go_simp;try with_reducible rfl))) | refine wpSeq_skip rfl (by rfl) ?_);simp only [Act.put,List.setIfInBounds_toArray,List.set_cons_zero,List.set_cons_succ]))
    refine wpSeq_nil ?_
    go_wp2_with fail
    go_meet
    exact ⟨rfl,Same.drew _⟩
  case rest =>
    obtain ⟨rfl,H2⟩:=hcut
    clear c0 c1 lb HCO
    go_wp2_with fail
    go_loopw [4,28] (fun v4 vi wr=>∃ i:Nat,vi=.int .i64 i∧i≤N∧Hid (Same u1 wr)) (fun v4 vi _=>N - (intOf vi).toNat)
    case atStart=>exact ⟨0,rfl,Nat.zero_le _,H2.out⟩
    case round =>
      obtain ⟨i,rfl,hi,HR⟩:=hrel
      have HB:Hid (Below w.heap.size w wr):=H1.out.2.trans (HR.out.below _)
      by_cases hlt:i<N
      · have hlt':(i:Int)<(N:Int):=by omega
        have c0:=(HW.out _ HB.out).cell0
        have lb:=(HW.out _ HB.out).ltB
        have lg:=(HW.out _ HB.out).ltG
        have d0:=(HW.out _ HB.out).word (i:=i) (by rw [HNN.out];exact hlt)
        rw [HNN.out] at c0
        have r0:wr.cell? ⟨w.heap.size,i,none⟩=some (.int .u64 (ws.getD i 0)):=by
          have:=(H1.out.1.on (HR.out.below _)).word (i:=i) (by rw [HNN.out];exact hlt)
          rw [this]
          simp [HNN.out,hlt]
        have lr:w.heap.size<wr.heap.size:=by
          have:=H1.out.1.lt
          rw [HR.out.heap]
          exact this
        generalize ws.getD i 0=v at d0 r0
        go_upto_region 7 with fail
        refine wp_region_seq (fun u=>u.cell? ⟨bw,0,none⟩=some (.slice (some ⟨gw,0,none⟩) N N)∧u.cell? ⟨gw,i,none⟩=some (.int .u64 v)∧u.cell? ⟨w.heap.size,i,none⟩=some (.int .u64 v) )  ((0,true)::(1,true)::(2,true)::(3,true)::(4,true)::(5,true)::(6,true)::(7,true)::(8,true)::(9,true)::(10,true)::(11,true)::[])  Md.Cv.follows13 (by kernel_rfl) (fun _ _ _ _ _ h=>h)  ⟨c0,d0,r0⟩ ?_
        (repeat ((first | (refine wpSeq_take (v:=?_) rfl (by rfl) (fun wq hSq=>?_) ?_;rotate_left;(focus ((try dsimp only at hSq);go_simp;try with_reducible rfl))) | refine wpSeq_skip rfl (by rfl) ?_);simp only [Act.put,List.setIfInBounds_toArray,List.set_cons_zero,List.set_cons_succ]))
        refine wpSeq_nil ?_
        go_wp2_with fail
        exact ⟨⟨i+1,by first | rfl | (congr 1),by omega,HR.out.trans (Same.drew _)⟩,by simp [intOf];omega⟩
      · have hlt':¬ (i:Int)<(N:Int):=by omega
        go_wp2_with fail
        go_ret
        exact ⟨rfl,HB.out⟩
end Go.Proofs.YteinilmecnlanaaGreatDoor.Ww
namespace Go.Proofs.YteinilmecnlanaaGreatDoor.Ww
open Go.ChangeShapes Go.WideShapes Go.ChangeAt Go.RowKit Num Rr
theorem end_set {u4:World} {g:Nat} {D:Dd} {m:Mac} {t:Int} {na:Nat} {mk nu st:Int} (h:u4.heap[g]?=some (.cells (dC t na m D mk nu 0 0 0 st) 61)):(((u4.setCell ⟨g,10,none⟩ (.int .i64 m.how)).setCell ⟨g,11,none⟩ (.int .i64 m.cod)).setCell ⟨g,12,none⟩ (.int .i64 m.err)).heap[g]?=some (.cells (dC t na m D mk nu m.how m.cod m.err st) 61):=by
  have a1:=(heap_setCell_same u4 g 10 _ _ (.int .i64 m.how) h).trans (show _=some (Obj.cells (dC t na m D mk nu m.how 0 0 st) 61) from rfl)
  have a2:=(heap_setCell_same _ g 11 _ _ (.int .i64 m.cod) a1).trans (show _=some (Obj.cells (dC t na m D mk nu m.how m.cod 0 st) 61) from rfl)
  exact (heap_setCell_same _ g 12 _ _ (.int .i64 m.err) a2).trans (show _=some (Obj.cells (dC t na m D mk nu m.how m.cod m.err st) 61) from rfl)
theorem end_oth {u4:World} {g y:Nat} {o:Obj} (h:u4.heap[y]?=some o) (hn:y≠g) (a b c:Int):(((u4.setCell ⟨g,10,none⟩ (.int .i64 a)).setCell ⟨g,11,none⟩ (.int .i64 b)).setCell ⟨g,12,none⟩ (.int .i64 c)).heap[y]?=some o:=(heap_setCell_other _ _ _ _ hn).trans ((heap_setCell_other _ _ _ _ hn).trans ((heap_setCell_other _ _ _ _ hn).trans h))
def ddD (z:Dz) (q:Dq):Dd:=⟨z.pa,z.ca,q.q.pr,q.q.cr,q.q.pb,q.q.cb,q.q.pt,q.q.ct⟩
theorem DRaw.ddIn {w:World} {bd:Nat} {x:Wx} {z:Dz} {q:Dq} (h:DRaw w bd x z q):DdIn w (ddD z q) x.args x.m:=⟨h.arg.fl,h.ref.rds.tl,h.ref.buf.tl,h.ref.out.fl⟩
theorem DRaw.rcell {w:World} {bd:Nat} {x:Wx} {z:Dz} {q:Dq} (h:DRaw w bd x z q) (j:Nat):w.cell? ⟨z.br,j,none⟩=(rboxV x.m q.q)[j]?:=h.ref.cell j
set_option maxRecDepth 100000 in
set_option maxHeartbeats 4000000 in
theorem ddeed_any {w:World} {bd:Nat} {x:Wx} {z:Dz} {q:Dq} (h:DRaw w bd x z q) (hpp:1≤x.part) {na:Nat} (hna:x.args.length=na) {m:Mac} (hm:x.m=m) {mk nu e0 e1 e2:Int} (hk:markY x=mk) (hnu:x.num=nu) (h0:endJ x m.how=e0) (h1:endJ x m.cod=e1) (h2:endJ x m.err=e2):Calls Tryz.prog 21 #[.pointer (some ⟨bd,0,none⟩)] w fun e w'=>e=.returned (.agg (dC x.tag na m (ddD z q) mk nu e0 e1 e2 x.steps))∧Below w.heap.size w w':=by
  have HB:Hid (∀ u,Below w.heap.size w u→(u.cell? ⟨bd,6,none⟩=some (.pointer (some ⟨z.br,0,none⟩))∧u.cell? ⟨bd,8,none⟩=some (.int .i64 x.tag)∧u.cell? ⟨bd,9,none⟩=some (.slice z.pa na z.ca)∧u.cell? ⟨bd,16,none⟩=some (.int .i64 x.steps)∧u.cell? ⟨bd,15,none⟩=some (.int .i64 nu)∧u.cell? ⟨z.br,17,none⟩=some (.slice q.q.pt m.out.length q.q.ct)∧u.cell? ⟨z.br,18,none⟩=some (.slice q.q.pr m.reads.length q.q.cr)∧u.cell? ⟨z.br,19,none⟩=some (.slice q.q.pb m.buf.length q.q.cb))∧(u.cell? ⟨bd,10,none⟩=some (.int .i64 (x.part:Int))∧u.cell? ⟨bd,11,none⟩=some (.int .u64 x.tick)∧u.cell? ⟨z.br,14,none⟩=some (.int .i64 m.how)∧u.cell? ⟨z.br,15,none⟩=some (.int .i64 m.cod)∧u.cell? ⟨z.br,16,none⟩=some (.int .i64 m.err))∧bd<u.heap.size∧z.br<u.heap.size):=fun u k=>by
    have d:=h.on k
    subst hna hm hnu
    exact ⟨⟨(d.cell 6).trans rfl,(d.cell 8).trans rfl,(d.cell 9).trans rfl,(d.cell 16).trans rfl,(d.cell 15).trans rfl,(d.rcell 17).trans rfl,(d.rcell 18).trans rfl,(d.rcell 19).trans rfl⟩,⟨(d.cell 10).trans rfl,(d.cell 11).trans rfl,(d.rcell 14).trans rfl,(d.rcell 15).trans rfl,(d.rcell 16).trans rfl⟩,d.ltB,d.ref.ltB⟩
  have H0:Hid (Below w.heap.size w (w.alloc dZ)∧(w.alloc dZ).heap[w.heap.size]?=some dZ):=⟨below_alloc _ _,heap_alloc_new _ _⟩
  have hlt:bd<w.heap.size∧z.br<w.heap.size:=⟨h.ltB,h.ref.ltB⟩
  clear h hna hm hnu
  obtain ⟨⟨c6,c8,c9,c16,c15,r17,r18,r19⟩,_,lb,lr⟩:=HB.out _ H0.out.1
  go_enter Tryz.func21,Tryz.ntmps21
  go_upto_region 1 with fail
  obtain ⟨w1,hw1⟩:∃ w1,w1=w.alloc dZ:=⟨_,rfl⟩
  rw [← hw1] at H0 c6 c8 c9 c16 c15 r17 r18 r19 lb lr
  rw [show w.alloc (.cells #[.int .i64 0,.int .i64 0,.int .i64 0,.int .i64 0,.slice none 0 0,.int .i64 0,.int .i64 0,.slice none 0 0,.slice none 0 0,.slice none 0 0,.int .i64 0,.int .i64 0,.int .i64 0,.int .i64 0,.int .i64 0,.int .i64 0,.int .i64 0,.int .i64 0,.int .i64 0] 61)=w1 from hw1.symm]
  clear hw1
  refine wp_region_seq (fun u=>u.cell? ⟨bd,6,none⟩=some (.pointer (some ⟨z.br,0,none⟩))∧u.cell? ⟨bd,8,none⟩=some (.int .i64 x.tag)∧u.cell? ⟨bd,9,none⟩=some (.slice z.pa na z.ca)∧u.cell? ⟨bd,16,none⟩=some (.int .i64 x.steps)∧u.cell? ⟨bd,15,none⟩=some (.int .i64 nu)∧u.cell? ⟨z.br,17,none⟩=some (.slice q.q.pt m.out.length q.q.ct)∧u.cell? ⟨z.br,18,none⟩=some (.slice q.q.pr m.reads.length q.q.cr)∧u.cell? ⟨z.br,19,none⟩=some (.slice q.q.pb m.buf.length q.q.cb) )  ((0,true)::(1,true)::(2,true)::(3,true)::(4,true)::(5,true)::(6,true)::(7,true)::(8,true)::(9,true)::(10,true)::(11,true)::(12,true)::(13,true)::(14,true)::(15,true)::(16,true)::(17,true)::(18,true)::(19,true)::(20,true)::(21,true)::(22,true)::(23,true)::(24,true)::(25,true)::(26,true)::(27,true)::(28,true)::(29,true)::(30,true)::(31,true)::(32,true)::(33,true)::(34,true)::(35,true)::(36,true)::(37,true)::(38,false)::(39,false)::[])  Md.Cv.follows13 (by kernel_rfl) (fun _ _ _ _ _ h=>h)  ⟨c6,c8,c9,c16,c15,r17,r18,r19⟩ ?_
  (repeat ((first | (refine wpSeq_take (v:=?_) rfl (by rfl) (fun wq hSq=>?_) ?_;rotate_left;(focus ((try dsimp only at hSq);go_simp;try with_reducible rfl))) | refine wpSeq_skip rfl (by rfl) ?_);simp only [Act.put,List.setIfInBounds_toArray,List.set_cons_zero,List.set_cons_succ]))
  (refine wpSeq_do rfl (by rfl) (fun KK hK=>?_);go_simp)
  obtain ⟨⟨a6,a8,a9,a16,a15,b17,b18,b19⟩,_,_,_⟩:=HB.out _ (H0.out.1.alloc H0.out.1.size dZ)
  refine hK.out _ _ ⟨a6,a8,a9,a16,a15,b17,b18,b19⟩ ?_
  (clear hK KK;try simp only [Act.put,List.setIfInBounds_toArray,List.set_cons_zero,List.set_cons_succ])
  refine wpSeq_do rfl (by rfl) (fun KK hK=>?_)
  refine wp_store_row 61 _ _ rfl w1.heap.size (dC x.tag na m (ddD z q) (-1) nu 0 0 0 x.steps) rfl rfl _ _ (heap_alloc_new _ _) deedInfo rfl (deed_one _ _ _ _ _ _ _ _ _ _) ?_
  have HD:Hid (Below w.heap.size w (w1.alloc (dO x.tag na m (ddD z q) (-1) nu 0 0 0 x.steps)).drew):=(H0.out.1.alloc H0.out.1.size _).trans ((Same.drew _).below _)
  have ER:(w1.alloc dZ).drew.setRow w1.heap.size (dC x.tag na m (ddD z q) (-1) nu 0 0 0 x.steps)=(w1.alloc (dO x.tag na m (ddD z q) (-1) nu 0 0 0 x.steps)).drew:=(show _=((w1.alloc dZ).setRow w1.heap.size (dC x.tag na m (ddD z q) (-1) nu 0 0 0 x.steps)).drew from rfl).trans (congrArg World.drew (World.setRow_alloc_new _ _ _ _))
  erw [ER]
  clear ER
  clear a6 a8 a9 a16 a15 b17 b18 b19
  obtain ⟨⟨a6,a8,a9,a16,a15,b17,b18,b19⟩,⟨d10,d13,f14,f15,f16⟩,lb2,lr2⟩:=HB.out _ HD.out
  refine hK.out _ _ ⟨a6,a8,a9,a16,a15,b17,b18,b19⟩ ?_
  (clear hK KK;try simp only [Act.put])
  refine wpSeq_nil ?_
  obtain ⟨w2,hw2⟩:∃ w2,w2=(w1.alloc (dO x.tag na m (ddD z q) (-1) nu 0 0 0 x.steps)).drew:=⟨_,rfl⟩
  have H2:Hid (w2.heap[w1.heap.size]?=some (dO x.tag na m (ddD z q) (-1) nu 0 0 0 x.steps)∧w2.heap[w.heap.size]?=some dZ∧Below w.heap.size w w2∧w.heap.size≤w1.heap.size∧w.heap.size≠w1.heap.size):=by
    have l:=lt_of_block H0.out.2
    rw [hw2]
    exact ⟨heap_alloc_new _ _,(Below.heap_alloc _ _ _ l).trans H0.out.2,HD.out,Nat.le_of_lt l,Nat.ne_of_lt l⟩
  rw [← hw2] at a6 a8 a9 a16 a15 b17 b18 b19 d10 d13 f14 f15 f16 lb2 lr2
  erw [← hw2]
  clear hw2 HD c6 c8 c9 c16 c15 r17 r18 r19 lb lr H0 a8 a9 a16 a15 b17 b18 b19
  by_cases p1:x.part=1
  · have q1:¬ (1:Int)<(x.part:Int):=by omega
    have q4:((x.part:Int) == 9)=false:=by simp;omega
    have em:mk=-1:=by rw [← hk];unfold markY;rw [if_pos p1]
    have z0:e0=0:=by rw [← h0];unfold endJ;rw [if_neg (by omega)]
    have z1:e1=0:=by rw [← h1];unfold endJ;rw [if_neg (by omega)]
    have z2:e2=0:=by rw [← h2];unfold endJ;rw [if_neg (by omega)]
    subst em z0 z1 z2
    clear hk h0 h1 h2 p1
    go_wp2_with (first
      | (refine wpList_store_row rfl 61 _ _ rfl w.heap.size (dC x.tag na m (ddD z q) (-1) nu 0 0 0 x.steps) rfl rfl _ _ H2.out.2.1 deedInfo rfl (deed_one _ _ _ _ _ _ _ _ _ _) ?_)
      | (refine wpList_load_row rfl 61 _ rfl w1.heap.size rfl _ (dC x.tag na m (ddD z q) (-1) nu 0 0 0 x.steps) _ _ H2.out.1 Tryz.underlying61 rfl deedInfo ?_))
    refine deed_back (D:=ddD z q) (m:=m) rfl w.heap.size rfl (setRow_heap _ _ _ _ _ _ H2.out.2.1) rfl ⟨rfl,Md.Ce.bl_setRow H2.out.2.2.1 (Nat.le_refl _) _⟩
  · have q1:(1:Int)<(x.part:Int):=by have:=hpp;omega
    have em:mk=wrap64 x.tick:=by rw [← hk];unfold markY;rw [if_neg p1]
    have NB:bd≠w1.heap.size∧z.br≠w1.heap.size:=⟨fun y=>by have:=hlt.1;have:=H2.out.2.2.2.1;omega,fun y=>by have:=hlt.2;have:=H2.out.2.2.2.1;omega⟩
    obtain ⟨nb1,nb2⟩:=NB
    have m5:w2.cell? ⟨w1.heap.size,5,none⟩=some (.int .i64 (-1)):=(cell_of_row w2 w1.heap.size 5 _ _ _ H2.out.1).trans rfl
    have m5f:=frozen_of_row w2 w1.heap.size 5 _ _ H2.out.1
    have H3:Hid ((w2.setCell ⟨w1.heap.size,5,none⟩ (.int .i64 mk)).heap[w1.heap.size]?=some (dO x.tag na m (ddD z q) mk nu 0 0 0 x.steps)∧(w2.setCell ⟨w1.heap.size,5,none⟩ (.int .i64 mk)).heap[w.heap.size]?=some dZ∧Below w.heap.size w (w2.setCell ⟨w1.heap.size,5,none⟩ (.int .i64 mk))):=⟨(heap_setCell_same _ _ 5 _ _ _ H2.out.1).trans rfl,(heap_setCell_other _ _ _ _ H2.out.2.2.2.2).trans H2.out.2.1,H2.out.2.2.1.setCell H2.out.2.2.2.1 _⟩
    by_cases p4:x.part=9
    · have q4:((x.part:Int) == 9)=true:=by simp;omega
      have z0:e0=m.how:=by rw [← h0];unfold endJ;rw [if_pos p4]
      have z1:e1=m.cod:=by rw [← h1];unfold endJ;rw [if_pos p4]
      have z2:e2=m.err:=by rw [← h2];unfold endJ;rw [if_pos p4]
      subst em z0 z1 z2
      clear hk h0 h1 h2 p1 p4
      go_upto_region 4 with fail
      obtain ⟨w3,hw3⟩:∃ w3,w3=w2.setCell ⟨w1.heap.size,5,none⟩ (.int .i64 (wrap64 x.tick)):=⟨_,rfl⟩
      clear a6 d10 d13 f14 f15 f16 lb2 lr2 m5 m5f
      rw [← hw3] at H3
      erw [← hw3]
      clear hw3
      have N3:w.heap.size≠w1.heap.size∧w.heap.size≤w1.heap.size:=⟨H2.out.2.2.2.2,H2.out.2.2.2.1⟩
      clear H2
      obtain ⟨⟨a6,_,_,_,_,_,_,_⟩,⟨d10,_,f14,f15,f16⟩,lb2,lr2⟩:=HB.out _ H3.out.2.2
      have t10:w3.cell? ⟨w1.heap.size,10,none⟩=some (.int .i64 0):=(cell_of_row _ w1.heap.size 10 _ _ _ H3.out.1).trans rfl
      have t11:w3.cell? ⟨w1.heap.size,11,none⟩=some (.int .i64 0):=(cell_of_row _ w1.heap.size 11 _ _ _ H3.out.1).trans rfl
      have t12:w3.cell? ⟨w1.heap.size,12,none⟩=some (.int .i64 0):=(cell_of_row _ w1.heap.size 12 _ _ _ H3.out.1).trans rfl
      have k10:=frozen_of_row w3 w1.heap.size 10 _ _ H3.out.1
      have k11:=frozen_of_row w3 w1.heap.size 11 _ _ H3.out.1
      have k12:=frozen_of_row w3 w1.heap.size 12 _ _ H3.out.1
      have H4:=Lib.hid (And.intro (end_set H3.out.1) (And.intro (end_oth H3.out.2.1 N3.1 m.how m.cod m.err) (((H3.out.2.2.setCell (p:=⟨w1.heap.size,10,none⟩) N3.2 (.int .i64 m.how)).setCell (p:=⟨w1.heap.size,11,none⟩) N3.2 (.int .i64 m.cod)).setCell (p:=⟨w1.heap.size,12,none⟩) N3.2 (.int .i64 m.err))))
      clear HB H3 hlt nb1 N3
      go_upto_region 6 with fail
      obtain ⟨w4,hw4⟩:∃ w4,w4=((w3.setCell ⟨w1.heap.size,10,none⟩ (.int .i64 m.how)).setCell ⟨w1.heap.size,11,none⟩ (.int .i64 m.cod)).setCell ⟨w1.heap.size,12,none⟩ (.int .i64 m.err):=⟨_,rfl⟩
      rw [← hw4] at H4
      erw [← hw4]
      clear hw4 t10 t11 t12 k10 k11 k12 a6 d10 f14 f15 f16 lb2 lr2 nb2
      go_wp2_with (first
        | (refine wpList_store_row rfl 61 _ _ rfl w.heap.size (dC x.tag na m (ddD z q) (wrap64 x.tick) nu m.how m.cod m.err x.steps) rfl rfl _ _ H4.out.2.1 deedInfo rfl (deed_one _ _ _ _ _ _ _ _ _ _) ?_)
        | (refine wpList_load_row rfl 61 _ rfl w1.heap.size rfl _ (dC x.tag na m (ddD z q) (wrap64 x.tick) nu m.how m.cod m.err x.steps) _ _ H4.out.1 Tryz.underlying61 rfl deedInfo ?_))
      refine deed_back (D:=ddD z q) (m:=m) rfl w.heap.size rfl (setRow_heap _ _ _ _ _ _ H4.out.2.1) rfl ⟨rfl,Md.Ce.bl_setRow H4.out.2.2 (Nat.le_refl _) _⟩
    · have q4:((x.part:Int) == 9)=false:=by simp;omega
      have z0:e0=0:=by rw [← h0];unfold endJ;rw [if_neg (by omega)]
      have z1:e1=0:=by rw [← h1];unfold endJ;rw [if_neg (by omega)]
      have z2:e2=0:=by rw [← h2];unfold endJ;rw [if_neg (by omega)]
      subst em z0 z1 z2
      clear hk h0 h1 h2 p1 p4
      go_wp2_with (first
        | (refine wpList_store_row rfl 61 _ _ rfl w.heap.size (dC x.tag na m (ddD z q) (wrap64 x.tick) nu 0 0 0 x.steps) rfl rfl _ _ H3.out.2.1 deedInfo rfl (deed_one _ _ _ _ _ _ _ _ _ _) ?_)
        | (refine wpList_load_row rfl 61 _ rfl w1.heap.size rfl _ (dC x.tag na m (ddD z q) (wrap64 x.tick) nu 0 0 0 x.steps) _ _ H3.out.1 Tryz.underlying61 rfl deedInfo ?_))
      refine deed_back (D:=ddD z q) (m:=m) rfl w.heap.size rfl (setRow_heap _ _ _ _ _ _ H3.out.2.1) rfl ⟨rfl,Md.Ce.bl_setRow H3.out.2.2 (Nat.le_refl _) _⟩
end Go.Proofs.YteinilmecnlanaaGreatDoor.Ww
namespace Go.Proofs.YteinilmecnlanaaGreatDoor.Ww
open Go.ChangeShapes Go.WideShapes Go.ChangeAt Go.RowKit Num Rr
set_option linter.unusedVariables false
attribute [local go_sem] run_store_float
section
variable {W w:World} {R0:List Nat} {bd bw gw:Nat} {x:Wx} {z:Dz} {ws:List Int} {n:Int}
theorem DMid.all (h:DMid W R0 bd z bw gw w x ws n) {pl pt:Int} (hpl:plY x=pl) (hpt:(x.part:Int)=pt):w.cell? ⟨bd,0,none⟩=some (.int .i64 0)∧w.cell? ⟨bd,1,none⟩=some (.int .i64 1)∧w.cell? ⟨bd,2,none⟩=some (.int .i64 2)∧w.cell? ⟨bd,3,none⟩=some (.int .i64 3)∧w.cell? ⟨bd,4,none⟩=some (.int .i64 (3+x.b))∧w.cell? ⟨bd,5,none⟩=some (.int .i64 pl)∧w.cell? ⟨bd,6,none⟩=some (.pointer (some ⟨z.br,0,none⟩))∧w.cell? ⟨bd,7,none⟩=some (.int .i64 x.b)∧w.cell? ⟨bd,10,none⟩=some (.int .i64 pt)∧w.cell? ⟨bd,11,none⟩=some (.int .u64 x.tick)∧w.cell? ⟨bd,12,none⟩=some (.int .u64 x.stamp)∧w.cell? ⟨bd,14,none⟩=some (.int .i64 (x.at_:Int))∧w.cell? ⟨bd,15,none⟩=some (.int .i64 x.num)∧w.cell? ⟨bd,16,none⟩=some (.int .i64 x.steps)∧bd<w.heap.size:=by
  subst hpl hpt
  exact ⟨h.cell 0 (fun _=>rfl),h.cell 1 (fun _=>rfl),h.cell 2 (fun _=>rfl),h.cell 3 (fun _=>rfl),h.cell 4 (fun _=>rfl),h.cell 5 (fun _=>rfl),h.cell 6 (fun _=>rfl),h.cell 7 (fun _=>rfl),h.cell 10 (fun _=>rfl),h.cell 11 (fun _=>rfl),h.cell 12 (fun _=>rfl),h.cell 14 (fun _=>rfl),h.cell 15 (fun _=>rfl),h.cell 16 (fun _=>rfl),h.ltB⟩
theorem DMid.frees (h:DMid W R0 bd z bw gw w x ws n):w.frozen? ⟨bd,10,none⟩=false∧w.frozen? ⟨bd,11,none⟩=false∧w.frozen? ⟨bd,12,none⟩=false∧w.frozen? ⟨bd,13,none⟩=false∧w.frozen? ⟨bd,14,none⟩=false∧w.frozen? ⟨bd,15,none⟩=false∧w.frozen? ⟨bd,16,none⟩=false:=⟨h.free 10,h.free 11,h.free 12,h.free 13,h.free 14,h.free 15,h.free 16⟩
theorem DMid.how (h:DMid W R0 bd z bw gw w x ws n):w.cell? ⟨z.br,14,none⟩=some (.int .i64 x.m.how)∧z.br<w.heap.size:=by
  obtain ⟨q,h1,_⟩:=h
  exact ⟨(h1.ref.cell 14).trans rfl,h1.ref.ltB⟩
theorem DMid.bufs (h:DMid W R0 bd z bw gw w x ws n):∃ p c,w.cell? ⟨z.br,19,none⟩=some (.slice p x.m.buf.length c)∧z.br<w.heap.size∧TlAt w p x.m.buf:=by
  obtain ⟨q,h1,_⟩:=h
  exact ⟨_,_,(h1.ref.cell 19).trans rfl,h1.ref.ltB,h1.ref.buf.tl⟩
theorem DMid.hads (h:DMid W R0 bd z bw gw w x ws n):∃ p c,w.cell? ⟨bd,13,none⟩=some (.slice p x.was.length c)∧Ro w p (u64s (natI x.was))∧x.was.length≤c:=by
  obtain ⟨q,h1,_⟩:=h
  exact ⟨_,_,(h1.cell 13).trans rfl,h1.was,h1.cw⟩
theorem DMid.setW (h:DMid W R0 bd z bw gw w x ws n) (i:Nat) (v:Int):DMid W R0 bd z bw gw (w.setCell ⟨gw,i,none⟩ (.int .u64 v)) x (ws.set i v) n:=h.wrds ((turn_set w gw i _).wide (by simp)) (h.words.setW i v)
theorem DMid.tick (h:DMid W R0 bd z bw gw w x ws n):DMid W R0 bd z bw gw (w.setCell ⟨bd,16,none⟩ (.int .i64 (x.steps+1))).drew (tickY x) ws n:=(h.put 16 (.int .i64 (x.steps+1)) (tickY x) (fun _=>rfl) rfl rfl rfl).drew
set_option maxRecDepth 100000 in
set_option maxHeartbeats 2000000 in
theorem dstep_over (h:DMid W R0 bd z bw gw w x ws n) (hl:plY x≤(ws.length:Int)) (hp:x.part=9):Calls Tryz.prog 15 #[.pointer (some ⟨bd,0,none⟩),.pointer (some ⟨bw,0,none⟩)] w fun e w'=>e=.returned (.tuple #[.bool false,.int .i64 3])∧Same w w':=by
  obtain ⟨c0,c1,c2,c3,c4,c5,c6,c7,c10,c11,c12,c14,c15,c16,lb⟩:=h.all (pt:=9) rfl (by omega)
  obtain ⟨f10,f11,f12,f13,f14,f15,f16⟩:=h.frees
  have w0:=h.words.cell0
  have lw:=h.words.ltB
  have hlt:¬ (ws.length:Int)<plY x:=by omega
  clear h hl
  generalize plY x=pl at *
  go_enter Tryz.func15,Tryz.ntmps15
  go_wp2_with fail
  refine wp_region_seq (fun u=>u.cell? ⟨bw,0,none⟩=some (.slice (some ⟨gw,0,none⟩) ws.length ws.length)∧u.cell? ⟨bd,5,none⟩=some (.int .i64 pl) )  ((0,true)::(1,true)::(2,true)::(3,true)::(4,true)::(5,true)::(6,true)::(7,true)::(8,true)::(9,true)::(10,true)::[])  Md.Cv.follows13 (by kernel_rfl) (fun _ _ _ _ _ h=>h)  ⟨w0,c5⟩ ?_
  (repeat ((first | (refine wpSeq_take (v:=?_) rfl (by rfl) (fun wq hSq=>?_) ?_;rotate_left;(focus ((try dsimp only at hSq);go_simp;try with_reducible rfl))) | refine wpSeq_skip rfl (by rfl) ?_);simp only [Act.put,List.setIfInBounds_toArray,List.set_cons_zero,List.set_cons_succ]))
  refine wpSeq_nil ?_
  go_wp2_with fail
  go_ret2
  exact ⟨rfl,Same.drew _⟩
set_option maxRecDepth 100000 in
set_option maxHeartbeats 2000000 in
theorem dstep_draw (h:DMid W R0 bd z bw gw w x ws n) (hI:InY x) (hst:0≤x.steps∧x.steps≤1000000) (hl:plY x≤(ws.length:Int)) (hp:x.part=1):Calls Tryz.prog 15 #[.pointer (some ⟨bd,0,none⟩),.pointer (some ⟨bw,0,none⟩)] w fun e w'=>e=.returned (.tuple #[.bool false,.int .i64 0])∧DMid W R0 bd z bw gw w' { tickY x with tick:=wordAt ws 0,part:=2 } (ws.set 0 (Md.Cv.passV (wordAt ws 0))) (up n):=by
  obtain ⟨c0,c1,c2,c3,c4,c5,c6,c7,c10,c11,c12,c14,c15,c16,lb⟩:=h.all (pt:=1) rfl (by omega)
  obtain ⟨f10,f11,f12,f13,f14,f15,f16⟩:=h.frees
  have w0:=h.words.cell0
  have lw:=h.words.ltB
  have hlt:¬ (ws.length:Int)<plY x:=by omega
  have h2:0<ws.length:=by have:=hI.ca;have:=hI.cb;unfold plY at hl;omega
  have HL:=Lib.hid (h.tick.load (i:=0) (by omega) (by omega))
  have HW0:Hid (wordAt ws 0=ws.getD 0 0):=rfl
  generalize wordAt ws 0=u at *
  have HP1:Hid (∀ w',DMid W R0 bd z bw gw w' (tickY x) ws (up n)→DMid W R0 bd z bw gw (w'.setCell ⟨bd,11,none⟩ (.int .u64 u)) { tickY x with tick:=u } ws (up n)):=fun w' k=>k.put 11 (.int .u64 u) { tickY x with tick:=u } (fun _=>rfl) rfl rfl rfl
  have HC:Hid (∀ w',DMid W R0 bd z bw gw w' { tickY x with tick:=u } ws (up n)→w'.cell? ⟨bd,0,none⟩=some (.int .i64 0)∧bd<w'.heap.size∧w'.cell? ⟨bw,0,none⟩=some (.slice (some ⟨gw,0,none⟩) ws.length ws.length)∧w'.cell? ⟨gw,0,none⟩=some (.int .u64 u)∧w'.frozen? ⟨gw,0,none⟩=false∧bw<w'.heap.size∧gw<w'.heap.size):=fun w' k=>by
    have k2:=k.words
    exact ⟨k.cell 0 (fun _=>rfl),k.ltB,k2.cell0,by rw [HW0.out];exact k2.word h2,k2.freeG 0,k2.ltB,k2.ltG⟩
  have h2i:(0:Int)<(ws.length:Int):=by omega
  clear h hl hI
  generalize plY x=pl at *
  go_enter Tryz.func15,Tryz.ntmps15
  go_wp2_with fail
  refine wp_region_seq (fun u=>u.cell? ⟨bw,0,none⟩=some (.slice (some ⟨gw,0,none⟩) ws.length ws.length)∧u.cell? ⟨bd,5,none⟩=some (.int .i64 pl) )  ((0,true)::(1,true)::(2,true)::(3,true)::(4,true)::(5,true)::(6,true)::(7,true)::(8,true)::(9,true)::(10,true)::[])  Md.Cv.follows13 (by kernel_rfl) (fun _ _ _ _ _ h=>h)  ⟨w0,c5⟩ ?_
  (repeat ((first | (refine wpSeq_take (v:=?_) rfl (by rfl) (fun wq hSq=>?_) ?_;rotate_left;(focus ((try dsimp only at hSq);go_simp;try with_reducible rfl))) | refine wpSeq_skip rfl (by rfl) ?_);simp only [Act.put,List.setIfInBounds_toArray,List.set_cons_zero,List.set_cons_succ]))
  refine wpSeq_nil ?_
  go_wp2_with (go_at_call 41;refine HL.out.mono ?_;rintro e w1 ⟨rfl,k⟩;have HQ:=Lib.hid (HP1.out _ k);have g11:w1.cell? ⟨bd,11,none⟩=some (.int .u64 x.tick):=k.cell 11 (fun _=>rfl);have l1:=k.ltB;have g11f:=k.free 11;clear k HL HP1)
  obtain ⟨w2,hw2⟩:∃ w2,w2=w1.setCell ⟨bd,11,none⟩ (.int .u64 u):=⟨_,rfl⟩
  rw [← hw2] at HQ ⊢
  clear hw2 g11 g11f l1
  obtain ⟨d0,lb2,v0,v1,v2,v3,v4⟩:=HC.out _ HQ.out
  have HQ3:=Lib.hid ((HQ.out.setW 0 (Md.Cv.passV u)).drew)
  unfold Md.Cv.passV at HQ3
  refine wp_region_seqE (fun v=>v.cell? ⟨bw,0,none⟩=some (.slice (some ⟨gw,0,none⟩) ws.length ws.length)∧v.cell? ⟨bd,0,none⟩=some (.int .i64 0)∧v.cell? ⟨gw,0,none⟩=some (.int .u64 u) )  ((0,true)::(1,true)::(2,true)::(3,true)::(4,true)::(5,true)::(6,true)::(7,true)::(8,true)::(9,true)::(10,true)::(11,true)::(12,true)::(13,false)::[])  Md.Cv.follows13 (by kernel_rfl) (fun _ _ _ _ _ h=>h)  ⟨v0,d0,v1⟩ ?_
  (repeat (refine wpSeqE_take (v:=?_) rfl (by rfl) (fun wq hSq=>?_) ?_;rotate_left;(focus ((try dsimp only at hSq);go_simp;try with_reducible rfl));simp only [Act.put,List.setIfInBounds_toArray,List.set_cons_zero,List.set_cons_succ]))
  (refine wpSeqE_do rfl (by rfl) (fun KK hK=>?_);go_simp)
  refine hK.out _ _ (fun hn=>absurd rfl hn) ?_
  (clear hK KK;try simp only [Act.put])
  refine wpSeqE_nil ?_
  obtain ⟨w3,hw3⟩:∃ w3,w3=(w2.setCell ⟨gw,0,none⟩ (.int .u64 (IntKind.u64.wrap (u+1)))).drew:=⟨_,rfl⟩
  rw [← hw3] at HQ3 ⊢
  clear hw3 HQ d0 lb2 v0 v1 v2 v3 v4
  have e10:w3.cell? ⟨bd,10,none⟩=some (.int .i64 (x.part:Int)):=HQ3.out.cell 10 (fun _=>rfl)
  have f10':=HQ3.out.free 10
  have lb3:=HQ3.out.ltB
  have HZ:=Lib.hid (HQ3.out.put 10 (.int .i64 2) { tickY x with tick:=u,part:=2 } (fun _=>rfl) rfl rfl rfl)
  clear HQ3
  go_wp2_with fail
  go_ret2
  exact ⟨rfl,HZ.out⟩
set_option maxRecDepth 100000 in
set_option maxHeartbeats 2000000 in
theorem dstep_wait (h:DMid W R0 bd z bw gw w x ws n) (hI:InY x) (hst:0≤x.steps∧x.steps≤1000000) (hl:plY x≤(ws.length:Int)) (hp:x.part=2):Calls Tryz.prog 15 #[.pointer (some ⟨bd,0,none⟩),.pointer (some ⟨bw,0,none⟩)] w fun e w'=>e=.returned (.tuple #[.bool false,.int .i64 0])∧DMid W R0 bd z bw gw w' (if wordAt ws 1=x.tick then { tickY x with part:=3 } else tickY x) ws (up n):=by
  obtain ⟨c0,c1,c2,c3,c4,c5,c6,c7,c10,c11,c12,c14,c15,c16,lb⟩:=h.all (pt:=2) rfl (by omega)
  obtain ⟨f10,f11,f12,f13,f14,f15,f16⟩:=h.frees
  have w0:=h.words.cell0
  have lw:=h.words.ltB
  have hlt:¬ (ws.length:Int)<plY x:=by omega
  have h2:(1:Int)<(ws.length:Int):=by have:=hI.ca;have:=hI.cb;unfold plY at hl;omega
  have HL:=Lib.hid (h.tick.drew.load (i:=1) (by omega) h2)
  generalize wordAt ws 1=u at *
  have HP:Hid (∀ w',DMid W R0 bd z bw gw w' (tickY x) ws (up n)→DMid W R0 bd z bw gw (w'.setCell ⟨bd,10,none⟩ (.int .i64 3)) { tickY x with part:=3 } ws (up n)):=fun w' k=>k.put 10 (.int .i64 3) { tickY x with part:=3 } (fun _=>rfl) rfl rfl rfl
  have HC:Hid (∀ w',DMid W R0 bd z bw gw w' (tickY x) ws (up n)→w'.cell? ⟨bd,11,none⟩=some (.int .u64 x.tick)∧w'.cell? ⟨bd,10,none⟩=some (.int .i64 (x.part:Int))∧w'.cell? ⟨bd,1,none⟩=some (.int .i64 1)∧bd<w'.heap.size):=fun w' k=>⟨k.cell 11 (fun _=>rfl),k.cell 10 (fun _=>rfl),k.cell 1 (fun _=>rfl),k.ltB⟩
  clear h hl hI
  by_cases hu:u=x.tick
  · have hu':(u == x.tick)=true:=by simpa using hu
    rw [if_pos hu]
    clear hu
    generalize plY x=pl at *
    go_enter Tryz.func15,Tryz.ntmps15
    go_wp2_with fail
    refine wp_region_seq (fun u=>u.cell? ⟨bw,0,none⟩=some (.slice (some ⟨gw,0,none⟩) ws.length ws.length)∧u.cell? ⟨bd,5,none⟩=some (.int .i64 pl) )  ((0,true)::(1,true)::(2,true)::(3,true)::(4,true)::(5,true)::(6,true)::(7,true)::(8,true)::(9,true)::(10,true)::[])  Md.Cv.follows13 (by kernel_rfl) (fun _ _ _ _ _ h=>h)  ⟨w0,c5⟩ ?_
    (repeat ((first | (refine wpSeq_take (v:=?_) rfl (by rfl) (fun wq hSq=>?_) ?_;rotate_left;(focus ((try dsimp only at hSq);go_simp;try with_reducible rfl))) | refine wpSeq_skip rfl (by rfl) ?_);simp only [Act.put,List.setIfInBounds_toArray,List.set_cons_zero,List.set_cons_succ]))
    refine wpSeq_nil ?_
    go_wp2_with fail
    obtain ⟨w2,hw2⟩:∃ w2,w2=(w.setCell ⟨bd,16,none⟩ (.int .i64 (x.steps+1))).drew:=⟨_,rfl⟩
    have k1:w2.cell? ⟨bd,1,none⟩=some (.int .i64 1):=by rw [hw2];simp [go_sem,c1]
    have k11:w2.cell? ⟨bd,11,none⟩=some (.int .u64 x.tick):=by rw [hw2];simp [go_sem,c11]
    have kb:bd<w2.heap.size:=by rw [hw2];simpa using lb
    rw [← hw2] at HL ⊢
    clear hw2
    refine wp_region_seq (fun v=>v.cell? ⟨bd,1,none⟩=some (.int .i64 1)∧v.cell? ⟨bd,11,none⟩=some (.int .u64 x.tick) )  ((0,true)::(1,true)::(2,true)::(3,true)::(4,true)::(5,true)::(7,true)::(8,true)::(9,true)::(10,true)::(6,false)::(11,true)::[])  Md.Cv.follows13 (by kernel_rfl) (fun _ _ _ _ _ h=>h)  ⟨k1,k11⟩ ?_
    (repeat ((first | (refine wpSeq_take (v:=?_) rfl (by rfl) (fun wq hSq=>?_) ?_;rotate_left;(focus ((try dsimp only at hSq);go_simp;try with_reducible rfl))) | refine wpSeq_skip rfl (by rfl) ?_);simp only [Act.put,List.setIfInBounds_toArray,List.set_cons_zero,List.set_cons_succ]))
    (refine wpSeq_do rfl (by rfl) (fun KK hK=>?_);go_simp)
    refine HL.out.mono ?_
    rintro e w1 ⟨rfl,k⟩
    have HZ:=Lib.hid (HP.out _ k)
    have HY0:=Lib.hid k
    obtain ⟨g11,g10,g1,l1⟩:=HC.out _ k
    have g10f:=k.free 10
    refine hK.out _ _ ⟨g1,g11⟩ ?_
    clear k
    (clear hK KK;try simp only [Act.put,List.setIfInBounds_toArray,List.set_cons_zero,List.set_cons_succ])
    (repeat ((first | (refine wpSeq_take (v:=?_) rfl (by rfl) (fun wq hSq=>?_) ?_;rotate_left;(focus ((try dsimp only at hSq);go_simp;try with_reducible rfl))) | refine wpSeq_skip rfl (by rfl) ?_);simp only [Act.put,List.setIfInBounds_toArray,List.set_cons_zero,List.set_cons_succ]))
    refine wpSeq_nil ?_
    go_wp2_with fail
    go_ret2
    exact ⟨rfl,HZ.out⟩
  · have hu':(u == x.tick)=false:=by simpa using hu
    rw [if_neg hu]
    clear hu
    generalize plY x=pl at *
    go_enter Tryz.func15,Tryz.ntmps15
    go_wp2_with fail
    refine wp_region_seq (fun u=>u.cell? ⟨bw,0,none⟩=some (.slice (some ⟨gw,0,none⟩) ws.length ws.length)∧u.cell? ⟨bd,5,none⟩=some (.int .i64 pl) )  ((0,true)::(1,true)::(2,true)::(3,true)::(4,true)::(5,true)::(6,true)::(7,true)::(8,true)::(9,true)::(10,true)::[])  Md.Cv.follows13 (by kernel_rfl) (fun _ _ _ _ _ h=>h)  ⟨w0,c5⟩ ?_
    (repeat ((first | (refine wpSeq_take (v:=?_) rfl (by rfl) (fun wq hSq=>?_) ?_;rotate_left;(focus ((try dsimp only at hSq);go_simp;try with_reducible rfl))) | refine wpSeq_skip rfl (by rfl) ?_);simp only [Act.put,List.setIfInBounds_toArray,List.set_cons_zero,List.set_cons_succ]))
    refine wpSeq_nil ?_
    go_wp2_with fail
    obtain ⟨w2,hw2⟩:∃ w2,w2=(w.setCell ⟨bd,16,none⟩ (.int .i64 (x.steps+1))).drew:=⟨_,rfl⟩
    have k1:w2.cell? ⟨bd,1,none⟩=some (.int .i64 1):=by rw [hw2];simp [go_sem,c1]
    have k11:w2.cell? ⟨bd,11,none⟩=some (.int .u64 x.tick):=by rw [hw2];simp [go_sem,c11]
    have kb:bd<w2.heap.size:=by rw [hw2];simpa using lb
    rw [← hw2] at HL ⊢
    clear hw2
    refine wp_region_seq (fun v=>v.cell? ⟨bd,1,none⟩=some (.int .i64 1)∧v.cell? ⟨bd,11,none⟩=some (.int .u64 x.tick) )  ((0,true)::(1,true)::(2,true)::(3,true)::(4,true)::(5,true)::(7,true)::(8,true)::(9,true)::(10,true)::(6,false)::(11,true)::[])  Md.Cv.follows13 (by kernel_rfl) (fun _ _ _ _ _ h=>h)  ⟨k1,k11⟩ ?_
    (repeat ((first | (refine wpSeq_take (v:=?_) rfl (by rfl) (fun wq hSq=>?_) ?_;rotate_left;(focus ((try dsimp only at hSq);go_simp;try with_reducible rfl))) | refine wpSeq_skip rfl (by rfl) ?_);simp only [Act.put,List.setIfInBounds_toArray,List.set_cons_zero,List.set_cons_succ]))
    (refine wpSeq_do rfl (by rfl) (fun KK hK=>?_);go_simp)
    refine HL.out.mono ?_
    rintro e w1 ⟨rfl,k⟩
    have HZ:=Lib.hid (HP.out _ k)
    have HY0:=Lib.hid k
    obtain ⟨g11,g10,g1,l1⟩:=HC.out _ k
    have g10f:=k.free 10
    refine hK.out _ _ ⟨g1,g11⟩ ?_
    clear k
    (clear hK KK;try simp only [Act.put,List.setIfInBounds_toArray,List.set_cons_zero,List.set_cons_succ])
    (repeat ((first | (refine wpSeq_take (v:=?_) rfl (by rfl) (fun wq hSq=>?_) ?_;rotate_left;(focus ((try dsimp only at hSq);go_simp;try with_reducible rfl))) | refine wpSeq_skip rfl (by rfl) ?_);simp only [Act.put,List.setIfInBounds_toArray,List.set_cons_zero,List.set_cons_succ]))
    refine wpSeq_nil ?_
    go_wp2_with fail
    go_ret2
    exact ⟨rfl,HY0.out⟩
set_option maxRecDepth 100000 in
set_option maxHeartbeats 2000000 in
theorem dstep_mark (h:DMid W R0 bd z bw gw w x ws n) (hI:InY x) (hst:0≤x.steps∧x.steps≤1000000) (hl:plY x≤(ws.length:Int)) (hp:x.part=3):Calls Tryz.prog 15 #[.pointer (some ⟨bd,0,none⟩),.pointer (some ⟨bw,0,none⟩)] w fun e w'=>e=.returned (.tuple #[.bool false,.int .i64 0])∧DMid W R0 bd z bw gw w' { tickY x with stamp:=wordAt ws 2,part:=4 } ws (up n):=by
  obtain ⟨c0,c1,c2,c3,c4,c5,c6,c7,c10,c11,c12,c14,c15,c16,lb⟩:=h.all (pt:=3) rfl (by omega)
  obtain ⟨f10,f11,f12,f13,f14,f15,f16⟩:=h.frees
  have w0:=h.words.cell0
  have lw:=h.words.ltB
  have hlt:¬ (ws.length:Int)<plY x:=by omega
  have h2:(2:Int)<(ws.length:Int):=by have:=hI.ca;have:=hI.cb;unfold plY at hl;omega
  have HL:=Lib.hid (h.tick.load (i:=2) (by omega) h2)
  generalize wordAt ws 2=u at *
  have HP:Hid (∀ w',DMid W R0 bd z bw gw w' (tickY x) ws (up n)→DMid W R0 bd z bw gw ((w'.setCell ⟨bd,12,none⟩ (.int .u64 u)).setCell ⟨bd,10,none⟩ (.int .i64 4)) { tickY x with stamp:=u,part:=4 } ws (up n)):=fun w' k=>(k.put 12 (.int .u64 u) { tickY x with stamp:=u } (fun _=>rfl) rfl rfl rfl).put 10 (.int .i64 4) { tickY x with stamp:=u,part:=4 } (fun _=>rfl) rfl rfl rfl
  have HC:Hid (∀ w',DMid W R0 bd z bw gw w' (tickY x) ws (up n)→w'.cell? ⟨bd,12,none⟩=some (.int .u64 x.stamp)∧w'.cell? ⟨bd,10,none⟩=some (.int .i64 (x.part:Int))∧bd<w'.heap.size):=fun w' k=>⟨k.cell 12 (fun _=>rfl),k.cell 10 (fun _=>rfl),k.ltB⟩
  clear h hl hI
  generalize plY x=pl at *
  go_enter Tryz.func15,Tryz.ntmps15
  go_wp2_with fail
  refine wp_region_seq (fun u=>u.cell? ⟨bw,0,none⟩=some (.slice (some ⟨gw,0,none⟩) ws.length ws.length)∧u.cell? ⟨bd,5,none⟩=some (.int .i64 pl) )  ((0,true)::(1,true)::(2,true)::(3,true)::(4,true)::(5,true)::(6,true)::(7,true)::(8,true)::(9,true)::(10,true)::[])  Md.Cv.follows13 (by kernel_rfl) (fun _ _ _ _ _ h=>h)  ⟨w0,c5⟩ ?_
  (repeat ((first | (refine wpSeq_take (v:=?_) rfl (by rfl) (fun wq hSq=>?_) ?_;rotate_left;(focus ((try dsimp only at hSq);go_simp;try with_reducible rfl))) | refine wpSeq_skip rfl (by rfl) ?_);simp only [Act.put,List.setIfInBounds_toArray,List.set_cons_zero,List.set_cons_succ]))
  refine wpSeq_nil ?_
  go_wp2_with (go_at_call 41;refine HL.out.mono ?_;rintro e w1 ⟨rfl,k⟩;have HZ:=Lib.hid (HP.out _ k);obtain ⟨g12,g10,l1⟩:=HC.out _ k;have g10f:=k.free 10;have g12f:=k.free 12;clear k HL HP HC)
  go_ret2
  exact ⟨rfl,HZ.out⟩
set_option maxRecDepth 100000 in
set_option maxHeartbeats 2000000 in
theorem dstep_run (h:DMid W R0 bd z bw gw w x ws n) (hI:InY x) (hst:0≤x.steps∧x.steps≤1000000) (hl:plY x≤(ws.length:Int)) (hp:x.part=4) {Q:World→Prop} (HR:Hid (∀ u,DMid W R0 bd z bw gw u (tickY x) ws n→Calls Tryz.prog 42 #[.pointer (some ⟨bd,0,none⟩),.pointer (some ⟨bw,0,none⟩)] u fun e w'=>e=.returned (.tuple #[])∧Q w')):Calls Tryz.prog 15 #[.pointer (some ⟨bd,0,none⟩),.pointer (some ⟨bw,0,none⟩)] w fun e w'=>e=.returned (.tuple #[.bool false,.int .i64 0])∧Q w':=by
  obtain ⟨c0,c1,c2,c3,c4,c5,c6,c7,c10,c11,c12,c14,c15,c16,lb⟩:=h.all (pt:=4) rfl (by omega)
  obtain ⟨f10,f11,f12,f13,f14,f15,f16⟩:=h.frees
  have w0:=h.words.cell0
  have lw:=h.words.ltB
  have hlt:¬ (ws.length:Int)<plY x:=by omega
  have HT:=Lib.hid h.tick
  clear h hl hI
  generalize plY x=pl at *
  go_enter Tryz.func15,Tryz.ntmps15
  go_wp2_with fail
  refine wp_region_seq (fun u=>u.cell? ⟨bw,0,none⟩=some (.slice (some ⟨gw,0,none⟩) ws.length ws.length)∧u.cell? ⟨bd,5,none⟩=some (.int .i64 pl) )  ((0,true)::(1,true)::(2,true)::(3,true)::(4,true)::(5,true)::(6,true)::(7,true)::(8,true)::(9,true)::(10,true)::[])  Md.Cv.follows13 (by kernel_rfl) (fun _ _ _ _ _ h=>h)  ⟨w0,c5⟩ ?_
  (repeat ((first | (refine wpSeq_take (v:=?_) rfl (by rfl) (fun wq hSq=>?_) ?_;rotate_left;(focus ((try dsimp only at hSq);go_simp;try with_reducible rfl))) | refine wpSeq_skip rfl (by rfl) ?_);simp only [Act.put,List.setIfInBounds_toArray,List.set_cons_zero,List.set_cons_succ]))
  refine wpSeq_nil ?_
  go_wp2_with (go_at_call 42;refine (HR.out _ HT.out).mono ?_;rintro e w1 ⟨rfl,k⟩;have HZ:=Lib.hid k;clear k HR)
  go_ret2
  exact ⟨rfl,HZ.out⟩
set_option maxRecDepth 100000 in
set_option maxHeartbeats 2000000 in
theorem dstep_back (h:DMid W R0 bd z bw gw w x ws n) (hI:InY x) (hst:0≤x.steps∧x.steps≤1000000) (hl:plY x≤(ws.length:Int)) (hp:x.part=6) {Q:World→Prop} (HR:Hid (∀ u,DMid W R0 bd z bw gw u (tickY x) ws n→Calls Tryz.prog 43 #[.pointer (some ⟨bd,0,none⟩),.pointer (some ⟨bw,0,none⟩)] u fun e w'=>e=.returned (.tuple #[])∧Q w')):Calls Tryz.prog 15 #[.pointer (some ⟨bd,0,none⟩),.pointer (some ⟨bw,0,none⟩)] w fun e w'=>e=.returned (.tuple #[.bool false,.int .i64 0])∧Q w':=by
  obtain ⟨c0,c1,c2,c3,c4,c5,c6,c7,c10,c11,c12,c14,c15,c16,lb⟩:=h.all (pt:=6) rfl (by omega)
  obtain ⟨f10,f11,f12,f13,f14,f15,f16⟩:=h.frees
  have w0:=h.words.cell0
  have lw:=h.words.ltB
  have hlt:¬ (ws.length:Int)<plY x:=by omega
  have HT:=Lib.hid h.tick
  clear h hl hI
  generalize plY x=pl at *
  go_enter Tryz.func15,Tryz.ntmps15
  go_wp2_with fail
  refine wp_region_seq (fun u=>u.cell? ⟨bw,0,none⟩=some (.slice (some ⟨gw,0,none⟩) ws.length ws.length)∧u.cell? ⟨bd,5,none⟩=some (.int .i64 pl) )  ((0,true)::(1,true)::(2,true)::(3,true)::(4,true)::(5,true)::(6,true)::(7,true)::(8,true)::(9,true)::(10,true)::[])  Md.Cv.follows13 (by kernel_rfl) (fun _ _ _ _ _ h=>h)  ⟨w0,c5⟩ ?_
  (repeat ((first | (refine wpSeq_take (v:=?_) rfl (by rfl) (fun wq hSq=>?_) ?_;rotate_left;(focus ((try dsimp only at hSq);go_simp;try with_reducible rfl))) | refine wpSeq_skip rfl (by rfl) ?_);simp only [Act.put,List.setIfInBounds_toArray,List.set_cons_zero,List.set_cons_succ]))
  refine wpSeq_nil ?_
  go_wp2_with (go_at_call 43;refine (HR.out _ HT.out).mono ?_;rintro e w1 ⟨rfl,k⟩;have HZ:=Lib.hid k;clear k HR)
  go_ret2
  exact ⟨rfl,HZ.out⟩
set_option maxRecDepth 100000 in
set_option maxHeartbeats 2000000 in
theorem dstep_pub (h:DMid W R0 bd z bw gw w x ws n) (hI:InY x) (hst:0≤x.steps∧x.steps≤1000000) (hl:plY x≤(ws.length:Int)) (hp:x.part=7):Calls Tryz.prog 15 #[.pointer (some ⟨bd,0,none⟩),.pointer (some ⟨bw,0,none⟩)] w fun e w'=>e=.returned (.tuple #[.bool false,.int .i64 0])∧DMid W R0 bd z bw gw w' { tickY x with num:=wrap64 (Md.Cv.passV x.stamp),part:=8 } (ws.set 2 (Md.Cv.passV x.stamp)) (up n):=by
  obtain ⟨c0,c1,c2,c3,c4,c5,c6,c7,c10,c11,c12,c14,c15,c16,lb⟩:=h.all (pt:=7) rfl (by omega)
  obtain ⟨f10,f11,f12,f13,f14,f15,f16⟩:=h.frees
  have w0:=h.words.cell0
  have lw:=h.words.ltB
  have hlt:¬ (ws.length:Int)<plY x:=by omega
  have h2:(2:Int)<(ws.length:Int):=by have:=hI.ca;have:=hI.cb;unfold plY at hl;omega
  have HS:=Lib.hid (h.tick.drew.store (i:=2) (Md.Cv.passV x.stamp) (by omega) h2)
  have HC:Hid (∀ w',DMid W R0 bd z bw gw w' (tickY x) (ws.set 2 (Md.Cv.passV x.stamp)) (up n)→w'.cell? ⟨bd,2,none⟩=some (.int .i64 2)∧w'.cell? ⟨bd,12,none⟩=some (.int .u64 x.stamp)∧bd<w'.heap.size):=fun w' k=>⟨k.cell 2 (fun _=>rfl),k.cell 12 (fun _=>rfl),k.ltB⟩
  have hS:(ws.set ((2:Int)).toNat (Md.Cv.passV x.stamp))=ws.set 2 (Md.Cv.passV x.stamp):=rfl
  rw [hS] at HS
  clear hS
  generalize ws.set 2 (Md.Cv.passV x.stamp)=ws' at *
  clear h hl hI
  generalize plY x=pl at *
  go_enter Tryz.func15,Tryz.ntmps15
  go_wp2_with fail
  refine wp_region_seq (fun u=>u.cell? ⟨bw,0,none⟩=some (.slice (some ⟨gw,0,none⟩) ws.length ws.length)∧u.cell? ⟨bd,5,none⟩=some (.int .i64 pl) )  ((0,true)::(1,true)::(2,true)::(3,true)::(4,true)::(5,true)::(6,true)::(7,true)::(8,true)::(9,true)::(10,true)::[])  Md.Cv.follows13 (by kernel_rfl) (fun _ _ _ _ _ h=>h)  ⟨w0,c5⟩ ?_
  (repeat ((first | (refine wpSeq_take (v:=?_) rfl (by rfl) (fun wq hSq=>?_) ?_;rotate_left;(focus ((try dsimp only at hSq);go_simp;try with_reducible rfl))) | refine wpSeq_skip rfl (by rfl) ?_);simp only [Act.put,List.setIfInBounds_toArray,List.set_cons_zero,List.set_cons_succ]))
  refine wpSeq_nil ?_
  unfold Md.Cv.passV at *
  go_wp2_with fail
  obtain ⟨w2,hw2⟩:∃ w2,w2=(w.setCell ⟨bd,16,none⟩ (.int .i64 (x.steps+1))).drew:=⟨_,rfl⟩
  have k1:w2.cell? ⟨bd,2,none⟩=some (.int .i64 2):=by rw [hw2];simp [go_sem,c2]
  have k2:w2.cell? ⟨bd,12,none⟩=some (.int .u64 x.stamp):=by rw [hw2];simp [go_sem,c12]
  have kb:bd<w2.heap.size:=by rw [hw2];simpa using lb
  rw [← hw2] at HS ⊢
  clear hw2
  refine wp_region_seq (fun v=>v.cell? ⟨bd,2,none⟩=some (.int .i64 2)∧v.cell? ⟨bd,12,none⟩=some (.int .u64 x.stamp) )  ((0,true)::(1,true)::(2,true)::(3,true)::(4,true)::(5,true)::(6,true)::(7,true)::(8,true)::(9,true)::(10,true)::(11,false)::[])  Md.Cv.follows13 (by kernel_rfl) (fun _ _ _ _ _ h=>h)  ⟨k1,k2⟩ ?_
  (repeat ((first | (refine wpSeq_take (v:=?_) rfl (by rfl) (fun wq hSq=>?_) ?_;rotate_left;(focus ((try dsimp only at hSq);go_simp;try with_reducible rfl))) | refine wpSeq_skip rfl (by rfl) ?_);simp only [Act.put,List.setIfInBounds_toArray,List.set_cons_zero,List.set_cons_succ]))
  (refine wpSeq_do rfl (by rfl) (fun KK hK=>?_);go_simp)
  refine HS.out.mono ?_
  rintro e w3 ⟨rfl,k⟩
  obtain ⟨q1,q2,l3⟩:=HC.out _ k
  have HQ:=Lib.hid k
  refine hK.out _ _ ⟨q1,q2⟩ ?_
  clear k HS HC k1 k2
  (clear hK KK;try simp only [Act.put,List.setIfInBounds_toArray,List.set_cons_zero,List.set_cons_succ])
  refine wpSeq_nil ?_
  have e10:w3.cell? ⟨bd,10,none⟩=some (.int .i64 (x.part:Int)):=HQ.out.cell 10 (fun _=>rfl)
  have f10':=HQ.out.free 10
  have e15:w3.cell? ⟨bd,15,none⟩=some (.int .i64 x.num):=HQ.out.cell 15 (fun _=>rfl)
  have f15':=HQ.out.free 15
  have HZ:Hid (DMid W R0 bd z bw gw ((w3.setCell ⟨bd,15,none⟩ (.int .i64 (wrap64 (IntKind.u64.wrap (x.stamp+1))))).setCell ⟨bd,10,none⟩ (.int .i64 8)) { tickY x with num:=wrap64 (IntKind.u64.wrap (x.stamp+1)),part:=8 } ws' (up n)):=(HQ.out.put 15 (.int .i64 (wrap64 (IntKind.u64.wrap (x.stamp+1)))) { tickY x with num:=wrap64 (IntKind.u64.wrap (x.stamp+1)) } (fun _=>rfl) rfl rfl rfl).put 10 (.int .i64 8) { tickY x with num:=wrap64 (IntKind.u64.wrap (x.stamp+1)),part:=8 } (fun _=>rfl) rfl rfl rfl
  clear HQ
  go_wp2_with fail
  go_ret2
  exact ⟨rfl,HZ.out⟩
set_option maxRecDepth 100000 in
set_option maxHeartbeats 2000000 in
theorem dstep_pass (h:DMid W R0 bd z bw gw w x ws n) (hI:InY x) (hst:0≤x.steps∧x.steps≤1000000) (hl:plY x≤(ws.length:Int)) (hp:x.part=8):Calls Tryz.prog 15 #[.pointer (some ⟨bd,0,none⟩),.pointer (some ⟨bw,0,none⟩)] w fun e w'=>e=.returned (.tuple #[.bool true,.int .i64 0])∧DMid W R0 bd z bw gw w' { tickY x with part:=9 } (ws.set 1 (Md.Cv.passV x.tick)) (up n):=by
  obtain ⟨c0,c1,c2,c3,c4,c5,c6,c7,c10,c11,c12,c14,c15,c16,lb⟩:=h.all (pt:=8) rfl (by omega)
  obtain ⟨f10,f11,f12,f13,f14,f15,f16⟩:=h.frees
  have w0:=h.words.cell0
  have lw:=h.words.ltB
  have hlt:¬ (ws.length:Int)<plY x:=by omega
  have h2:(1:Int)<(ws.length:Int):=by have:=hI.ca;have:=hI.cb;unfold plY at hl;omega
  have HS:=Lib.hid (h.tick.drew.store (i:=1) (Md.Cv.passV x.tick) (by omega) h2)
  have HC:Hid (∀ w',DMid W R0 bd z bw gw w' (tickY x) (ws.set 1 (Md.Cv.passV x.tick)) (up n)→w'.cell? ⟨bd,1,none⟩=some (.int .i64 1)∧w'.cell? ⟨bd,11,none⟩=some (.int .u64 x.tick)∧bd<w'.heap.size):=fun w' k=>⟨k.cell 1 (fun _=>rfl),k.cell 11 (fun _=>rfl),k.ltB⟩
  have hS:(ws.set ((1:Int)).toNat (Md.Cv.passV x.tick))=ws.set 1 (Md.Cv.passV x.tick):=rfl
  rw [hS] at HS
  clear hS
  generalize ws.set 1 (Md.Cv.passV x.tick)=ws' at *
  clear h hl hI
  generalize plY x=pl at *
  go_enter Tryz.func15,Tryz.ntmps15
  go_wp2_with fail
  refine wp_region_seq (fun u=>u.cell? ⟨bw,0,none⟩=some (.slice (some ⟨gw,0,none⟩) ws.length ws.length)∧u.cell? ⟨bd,5,none⟩=some (.int .i64 pl) )  ((0,true)::(1,true)::(2,true)::(3,true)::(4,true)::(5,true)::(6,true)::(7,true)::(8,true)::(9,true)::(10,true)::[])  Md.Cv.follows13 (by kernel_rfl) (fun _ _ _ _ _ h=>h)  ⟨w0,c5⟩ ?_
  (repeat ((first | (refine wpSeq_take (v:=?_) rfl (by rfl) (fun wq hSq=>?_) ?_;rotate_left;(focus ((try dsimp only at hSq);go_simp;try with_reducible rfl))) | refine wpSeq_skip rfl (by rfl) ?_);simp only [Act.put,List.setIfInBounds_toArray,List.set_cons_zero,List.set_cons_succ]))
  refine wpSeq_nil ?_
  unfold Md.Cv.passV at *
  go_wp2_with fail
  obtain ⟨w2,hw2⟩:∃ w2,w2=(w.setCell ⟨bd,16,none⟩ (.int .i64 (x.steps+1))).drew:=⟨_,rfl⟩
  have k1:w2.cell? ⟨bd,1,none⟩=some (.int .i64 1):=by rw [hw2];simp [go_sem,c1]
  have k2:w2.cell? ⟨bd,11,none⟩=some (.int .u64 x.tick):=by rw [hw2];simp [go_sem,c11]
  have kb:bd<w2.heap.size:=by rw [hw2];simpa using lb
  rw [← hw2] at HS ⊢
  clear hw2
  refine wp_region_seq (fun v=>v.cell? ⟨bd,1,none⟩=some (.int .i64 1)∧v.cell? ⟨bd,11,none⟩=some (.int .u64 x.tick) )  ((0,true)::(1,true)::(2,true)::(3,true)::(4,true)::(5,true)::(6,true)::(7,true)::(8,true)::(9,true)::(10,true)::(11,false)::[])  Md.Cv.follows13 (by kernel_rfl) (fun _ _ _ _ _ h=>h)  ⟨k1,k2⟩ ?_
  (repeat ((first | (refine wpSeq_take (v:=?_) rfl (by rfl) (fun wq hSq=>?_) ?_;rotate_left;(focus ((try dsimp only at hSq);go_simp;try with_reducible rfl))) | refine wpSeq_skip rfl (by rfl) ?_);simp only [Act.put,List.setIfInBounds_toArray,List.set_cons_zero,List.set_cons_succ]))
  (refine wpSeq_do rfl (by rfl) (fun KK hK=>?_);go_simp)
  refine HS.out.mono ?_
  rintro e w3 ⟨rfl,k⟩
  obtain ⟨q1,q2,l3⟩:=HC.out _ k
  have HQ:=Lib.hid k
  refine hK.out _ _ ⟨q1,q2⟩ ?_
  clear k HS HC k1 k2
  (clear hK KK;try simp only [Act.put,List.setIfInBounds_toArray,List.set_cons_zero,List.set_cons_succ])
  refine wpSeq_nil ?_
  have e10:w3.cell? ⟨bd,10,none⟩=some (.int .i64 (x.part:Int)):=HQ.out.cell 10 (fun _=>rfl)
  have f10':=HQ.out.free 10
  have HZ:=Lib.hid (HQ.out.put 10 (.int .i64 9) { tickY x with part:=9 } (fun _=>rfl) rfl rfl rfl)
  clear HQ
  go_wp2_with fail
  go_ret2
  exact ⟨rfl,HZ.out⟩
end
end Go.Proofs.YteinilmecnlanaaGreatDoor.Ww
namespace Go.Proofs.YteinilmecnlanaaGreatDoor.Ww
open Go.ChangeShapes Go.WideShapes Go.ChangeAt Go.RowKit Num Rr
set_option linter.unusedVariables false
attribute [local go_sem] run_store_float
section
variable {W w:World} {R0:List Nat} {bd bw gw:Nat} {x:Wx} {z:Dz} {ws:List Int} {n:Int}
set_option maxRecDepth 100000 in
set_option maxHeartbeats 2000000 in
theorem dscan_no (h:DMid W R0 bd z bw gw w x ws n) (hI:InY x) (hst:0≤x.steps∧x.steps≤1000000) (hl:plY x≤(ws.length:Int)) (hp:x.part=5) {u:Int} (hw:wordAt ws (3+(x.at_:Int))=u) {a:Nat} (ha:x.at_=a) (hu1:(u == 0)=false) (hu2:¬ x.stamp<u):Calls Tryz.prog 15 #[.pointer (some ⟨bd,0,none⟩),.pointer (some ⟨bw,0,none⟩)] w fun e w'=>e=.returned (.tuple #[.bool false,.int .i64 0])∧DMid W R0 bd z bw gw w' (tickY x) ws (up n):=by
  obtain ⟨c0,c1,c2,c3,c4,c5,c6,c7,c10,c11,c12,c14,c15,c16,lb⟩:=h.all (pt:=5) rfl (by omega)
  obtain ⟨f10,f11,f12,f13,f14,f15,f16⟩:=h.frees
  have w0:=h.words.cell0
  have lw:=h.words.ltB
  have hlt:¬ (ws.length:Int)<plY x:=by omega
  have h5:=hI.at5 hp
  have hcb:=hI.cb
  have h2:3+(x.at_:Int)<(ws.length:Int):=by have:=hI.ca;unfold plY at hl;omega
  have HL:=Lib.hid (h.tick.drew.load (i:=3+(x.at_:Int)) (by omega) h2)
  have HV:=Lib.hid (Go.IntWalk.i64_in (3+(x.at_:Int)) (by omega))
  rw [hw] at HL
  rw [ha] at c14 h5 h2 HL HV
  have HA:=Lib.hid ha
  have hab:(a:Int)<8:=by omega
  clear h hl hI ha hw h2
  generalize plY x=pl at *
  go_enter Tryz.func15,Tryz.ntmps15
  go_wp2_with fail
  refine wp_region_seq (fun u=>u.cell? ⟨bw,0,none⟩=some (.slice (some ⟨gw,0,none⟩) ws.length ws.length)∧u.cell? ⟨bd,5,none⟩=some (.int .i64 pl) )  ((0,true)::(1,true)::(2,true)::(3,true)::(4,true)::(5,true)::(6,true)::(7,true)::(8,true)::(9,true)::(10,true)::[])  Md.Cv.follows13 (by kernel_rfl) (fun _ _ _ _ _ h=>h)  ⟨w0,c5⟩ ?_
  (repeat ((first | (refine wpSeq_take (v:=?_) rfl (by rfl) (fun wq hSq=>?_) ?_;rotate_left;(focus ((try dsimp only at hSq);go_simp;try with_reducible rfl))) | refine wpSeq_skip rfl (by rfl) ?_);simp only [Act.put,List.setIfInBounds_toArray,List.set_cons_zero,List.set_cons_succ]))
  refine wpSeq_nil ?_
  go_wp2_with fail
  obtain ⟨w2,hw2⟩:∃ w2,w2=(w.setCell ⟨bd,16,none⟩ (.int .i64 (x.steps+1))).drew:=⟨_,rfl⟩
  have k3:w2.cell? ⟨bd,3,none⟩=some (.int .i64 3):=by rw [hw2];simp [go_sem,c3]
  have k14:w2.cell? ⟨bd,14,none⟩=some (.int .i64 (a:Int)):=by rw [hw2];simp [go_sem,c14]
  have kb:bd<w2.heap.size:=by rw [hw2];simpa using lb
  rw [← hw2] at HL ⊢
  clear hw2
  refine wp_region_seq (fun v=>v.cell? ⟨bd,3,none⟩=some (.int .i64 3)∧v.cell? ⟨bd,14,none⟩=some (.int .i64 (a:Int)) )  ((0,true)::(1,true)::(2,true)::(3,true)::(4,true)::(5,true)::(6,true)::(7,true)::(8,true)::(9,true)::(10,true)::(11,false)::(12,true)::[])  Md.Cv.follows13 (by kernel_rfl) (fun _ _ _ _ _ h=>h)  ⟨k3,k14⟩ ?_
  (repeat ((first | (refine wpSeq_take (v:=?_) rfl (by rfl) (fun wq hSq=>?_) ?_;rotate_left;(focus ((try dsimp only at hSq);go_simp;try with_reducible rfl))) | refine wpSeq_skip rfl (by rfl) ?_);simp only [Act.put,List.setIfInBounds_toArray,List.set_cons_zero,List.set_cons_succ]))
  rw [HV.out]
  (refine wpSeq_do rfl (by rfl) (fun KK hK=>?_);go_simp)
  refine HL.out.mono ?_
  rintro e w3 ⟨rfl,k⟩
  have HQ:=Lib.hid k
  have g3:w3.cell? ⟨bd,3,none⟩=some (.int .i64 3):=k.cell 3 (fun _=>rfl)
  have g14:w3.cell? ⟨bd,14,none⟩=some (.int .i64 (a:Int)):=by rw [← HA.out];exact k.cell 14 (fun _=>rfl)
  have g12:w3.cell? ⟨bd,12,none⟩=some (.int .u64 x.stamp):=k.cell 12 (fun _=>rfl)
  have g7:w3.cell? ⟨bd,7,none⟩=some (.int .i64 x.b):=k.cell 7 (fun _=>rfl)
  have l3:=k.ltB
  refine hK.out _ _ ⟨g3,g14⟩ ?_
  clear k HL k3 k14 kb
  (clear hK KK;try simp only [Act.put,List.setIfInBounds_toArray,List.set_cons_zero,List.set_cons_succ])
  (repeat ((first | (refine wpSeq_take (v:=?_) rfl (by rfl) (fun wq hSq=>?_) ?_;rotate_left;(focus ((try dsimp only at hSq);go_simp;try with_reducible rfl))) | refine wpSeq_skip rfl (by rfl) ?_);simp only [Act.put,List.setIfInBounds_toArray,List.set_cons_zero,List.set_cons_succ]))
  refine wpSeq_nil ?_
  have hab3:((a:Int) == x.b)=false:=by simp;omega
  have HZ:=Lib.hid HQ.out.drew
  clear HQ
  go_upto_region 23 with fail
  refine wp_region_seq (fun v=>v.cell? ⟨bd,14,none⟩=some (.int .i64 (a:Int))∧v.cell? ⟨bd,7,none⟩=some (.int .i64 x.b) )  ((0,true)::(1,true)::(2,true)::(3,true)::(4,true)::(5,true)::(6,true)::(7,true)::(8,true)::[])  Md.Cv.follows13 (by kernel_rfl) (fun _ _ _ _ _ h=>h)  ⟨g14,g7⟩ ?_
  (repeat ((first | (refine wpSeq_take (v:=?_) rfl (by rfl) (fun wq hSq=>?_) ?_;rotate_left;(focus ((try dsimp only at hSq);go_simp;try with_reducible rfl))) | refine wpSeq_skip rfl (by rfl) ?_);simp only [Act.put,List.setIfInBounds_toArray,List.set_cons_zero,List.set_cons_succ]))
  refine wpSeq_nil ?_
  go_wp2_with fail
  go_ret2
  exact ⟨rfl,HZ.out⟩
set_option maxRecDepth 100000 in
set_option maxHeartbeats 2000000 in
theorem dscan_on0 (h:DMid W R0 bd z bw gw w x ws n) (hI:InY x) (hst:0≤x.steps∧x.steps≤1000000) (hl:plY x≤(ws.length:Int)) (hp:x.part=5) {u:Int} (hw:wordAt ws (3+(x.at_:Int))=u) {a:Nat} (ha:x.at_=a) (hu1:(u == 0)=true) (heb:((a:Int)+1 == x.b)=false):Calls Tryz.prog 15 #[.pointer (some ⟨bd,0,none⟩),.pointer (some ⟨bw,0,none⟩)] w fun e w'=>e=.returned (.tuple #[.bool false,.int .i64 0])∧DMid W R0 bd z bw gw w' { tickY x with at_:=a+1 } ws (up n):=by
  obtain ⟨c0,c1,c2,c3,c4,c5,c6,c7,c10,c11,c12,c14,c15,c16,lb⟩:=h.all (pt:=5) rfl (by omega)
  obtain ⟨f10,f11,f12,f13,f14,f15,f16⟩:=h.frees
  have w0:=h.words.cell0
  have lw:=h.words.ltB
  have hlt:¬ (ws.length:Int)<plY x:=by omega
  have h5:=hI.at5 hp
  have hcb:=hI.cb
  have h2:3+(x.at_:Int)<(ws.length:Int):=by have:=hI.ca;unfold plY at hl;omega
  have HL:=Lib.hid (h.tick.drew.load (i:=3+(x.at_:Int)) (by omega) h2)
  have HV:=Lib.hid (Go.IntWalk.i64_in (3+(x.at_:Int)) (by omega))
  rw [hw] at HL
  rw [ha] at c14 h5 h2 HL HV
  have HA:=Lib.hid ha
  have hab:(a:Int)<8:=by omega
  clear h hl hI ha hw h2
  generalize plY x=pl at *
  go_enter Tryz.func15,Tryz.ntmps15
  go_wp2_with fail
  refine wp_region_seq (fun u=>u.cell? ⟨bw,0,none⟩=some (.slice (some ⟨gw,0,none⟩) ws.length ws.length)∧u.cell? ⟨bd,5,none⟩=some (.int .i64 pl) )  ((0,true)::(1,true)::(2,true)::(3,true)::(4,true)::(5,true)::(6,true)::(7,true)::(8,true)::(9,true)::(10,true)::[])  Md.Cv.follows13 (by kernel_rfl) (fun _ _ _ _ _ h=>h)  ⟨w0,c5⟩ ?_
  (repeat ((first | (refine wpSeq_take (v:=?_) rfl (by rfl) (fun wq hSq=>?_) ?_;rotate_left;(focus ((try dsimp only at hSq);go_simp;try with_reducible rfl))) | refine wpSeq_skip rfl (by rfl) ?_);simp only [Act.put,List.setIfInBounds_toArray,List.set_cons_zero,List.set_cons_succ]))
  refine wpSeq_nil ?_
  go_wp2_with fail
  obtain ⟨w2,hw2⟩:∃ w2,w2=(w.setCell ⟨bd,16,none⟩ (.int .i64 (x.steps+1))).drew:=⟨_,rfl⟩
  have k3:w2.cell? ⟨bd,3,none⟩=some (.int .i64 3):=by rw [hw2];simp [go_sem,c3]
  have k14:w2.cell? ⟨bd,14,none⟩=some (.int .i64 (a:Int)):=by rw [hw2];simp [go_sem,c14]
  have kb:bd<w2.heap.size:=by rw [hw2];simpa using lb
  rw [← hw2] at HL ⊢
  clear hw2
  refine wp_region_seq (fun v=>v.cell? ⟨bd,3,none⟩=some (.int .i64 3)∧v.cell? ⟨bd,14,none⟩=some (.int .i64 (a:Int)) )  ((0,true)::(1,true)::(2,true)::(3,true)::(4,true)::(5,true)::(6,true)::(7,true)::(8,true)::(9,true)::(10,true)::(11,false)::(12,true)::[])  Md.Cv.follows13 (by kernel_rfl) (fun _ _ _ _ _ h=>h)  ⟨k3,k14⟩ ?_
  (repeat ((first | (refine wpSeq_take (v:=?_) rfl (by rfl) (fun wq hSq=>?_) ?_;rotate_left;(focus ((try dsimp only at hSq);go_simp;try with_reducible rfl))) | refine wpSeq_skip rfl (by rfl) ?_);simp only [Act.put,List.setIfInBounds_toArray,List.set_cons_zero,List.set_cons_succ]))
  rw [HV.out]
  (refine wpSeq_do rfl (by rfl) (fun KK hK=>?_);go_simp)
  refine HL.out.mono ?_
  rintro e w3 ⟨rfl,k⟩
  have HQ:=Lib.hid k
  have g3:w3.cell? ⟨bd,3,none⟩=some (.int .i64 3):=k.cell 3 (fun _=>rfl)
  have g14:w3.cell? ⟨bd,14,none⟩=some (.int .i64 (a:Int)):=by rw [← HA.out];exact k.cell 14 (fun _=>rfl)
  have g12:w3.cell? ⟨bd,12,none⟩=some (.int .u64 x.stamp):=k.cell 12 (fun _=>rfl)
  have g7:w3.cell? ⟨bd,7,none⟩=some (.int .i64 x.b):=k.cell 7 (fun _=>rfl)
  have l3:=k.ltB
  refine hK.out _ _ ⟨g3,g14⟩ ?_
  clear k HL k3 k14 kb
  (clear hK KK;try simp only [Act.put,List.setIfInBounds_toArray,List.set_cons_zero,List.set_cons_succ])
  (repeat ((first | (refine wpSeq_take (v:=?_) rfl (by rfl) (fun wq hSq=>?_) ?_;rotate_left;(focus ((try dsimp only at hSq);go_simp;try with_reducible rfl))) | refine wpSeq_skip rfl (by rfl) ?_);simp only [Act.put,List.setIfInBounds_toArray,List.set_cons_zero,List.set_cons_succ]))
  refine wpSeq_nil ?_
  have f14':=HQ.out.free 14
  have H4:=Lib.hid (HQ.out.put 14 (.int .i64 ((a:Int)+1)) { tickY x with at_:=a+1 } (fun _=>rfl) rfl rfl rfl)
  clear HQ
  go_upto_region 23 with fail
  obtain ⟨w4,hw4⟩:∃ w4,w4=w3.setCell ⟨bd,14,none⟩ (.int .i64 ((a:Int)+1)):=⟨_,rfl⟩
  rw [← hw4] at H4 ⊢
  clear hw4 g3 g14 g12 g7 l3 f14'
  have g14:w4.cell? ⟨bd,14,none⟩=some (.int .i64 ((a:Int)+1)):=H4.out.cell 14 (fun _=>rfl)
  have g7:w4.cell? ⟨bd,7,none⟩=some (.int .i64 x.b):=H4.out.cell 7 (fun _=>rfl)
  have l4:=H4.out.ltB
  refine wp_region_seq (fun v=>v.cell? ⟨bd,14,none⟩=some (.int .i64 ((a:Int)+1))∧v.cell? ⟨bd,7,none⟩=some (.int .i64 x.b) )  ((0,true)::(1,true)::(2,true)::(3,true)::(4,true)::(5,true)::(6,true)::(7,true)::(8,true)::[])  Md.Cv.follows13 (by kernel_rfl) (fun _ _ _ _ _ h=>h)  ⟨g14,g7⟩ ?_
  (repeat ((first | (refine wpSeq_take (v:=?_) rfl (by rfl) (fun wq hSq=>?_) ?_;rotate_left;(focus ((try dsimp only at hSq);go_simp;try with_reducible rfl))) | refine wpSeq_skip rfl (by rfl) ?_);simp only [Act.put,List.setIfInBounds_toArray,List.set_cons_zero,List.set_cons_succ]))
  refine wpSeq_nil ?_
  have HZ:=Lib.hid H4.out.drew
  clear H4
  go_wp2_with fail
  go_ret2
  exact ⟨rfl,HZ.out⟩
set_option maxRecDepth 100000 in
set_option maxHeartbeats 2000000 in
theorem dscan_six0 (h:DMid W R0 bd z bw gw w x ws n) (hI:InY x) (hst:0≤x.steps∧x.steps≤1000000) (hl:plY x≤(ws.length:Int)) (hp:x.part=5) {u:Int} (hw:wordAt ws (3+(x.at_:Int))=u) {a:Nat} (ha:x.at_=a) (hu1:(u == 0)=true) (heb:((a:Int)+1 == x.b)=true) {L:Nat} (HLE:Hid (x.m.buf.length=L)) (hL:((L:Int) == 0)=false):Calls Tryz.prog 15 #[.pointer (some ⟨bd,0,none⟩),.pointer (some ⟨bw,0,none⟩)] w fun e w'=>e=.returned (.tuple #[.bool false,.int .i64 0])∧DMid W R0 bd z bw gw w' { tickY x with at_:=0,part:=6 } ws (up n):=by
  obtain ⟨c0,c1,c2,c3,c4,c5,c6,c7,c10,c11,c12,c14,c15,c16,lb⟩:=h.all (pt:=5) rfl (by omega)
  obtain ⟨f10,f11,f12,f13,f14,f15,f16⟩:=h.frees
  have w0:=h.words.cell0
  have lw:=h.words.ltB
  have hlt:¬ (ws.length:Int)<plY x:=by omega
  have h5:=hI.at5 hp
  have hcb:=hI.cb
  have h2:3+(x.at_:Int)<(ws.length:Int):=by have:=hI.ca;unfold plY at hl;omega
  have HL:=Lib.hid (h.tick.drew.load (i:=3+(x.at_:Int)) (by omega) h2)
  have HV:=Lib.hid (Go.IntWalk.i64_in (3+(x.at_:Int)) (by omega))
  rw [hw] at HL
  rw [ha] at c14 h5 h2 HL HV
  have HA:=Lib.hid ha
  have hab:(a:Int)<8:=by omega
  clear h hl hI ha hw h2
  generalize plY x=pl at *
  go_enter Tryz.func15,Tryz.ntmps15
  go_wp2_with fail
  refine wp_region_seq (fun u=>u.cell? ⟨bw,0,none⟩=some (.slice (some ⟨gw,0,none⟩) ws.length ws.length)∧u.cell? ⟨bd,5,none⟩=some (.int .i64 pl) )  ((0,true)::(1,true)::(2,true)::(3,true)::(4,true)::(5,true)::(6,true)::(7,true)::(8,true)::(9,true)::(10,true)::[])  Md.Cv.follows13 (by kernel_rfl) (fun _ _ _ _ _ h=>h)  ⟨w0,c5⟩ ?_
  (repeat ((first | (refine wpSeq_take (v:=?_) rfl (by rfl) (fun wq hSq=>?_) ?_;rotate_left;(focus ((try dsimp only at hSq);go_simp;try with_reducible rfl))) | refine wpSeq_skip rfl (by rfl) ?_);simp only [Act.put,List.setIfInBounds_toArray,List.set_cons_zero,List.set_cons_succ]))
  refine wpSeq_nil ?_
  go_wp2_with fail
  obtain ⟨w2,hw2⟩:∃ w2,w2=(w.setCell ⟨bd,16,none⟩ (.int .i64 (x.steps+1))).drew:=⟨_,rfl⟩
  have k3:w2.cell? ⟨bd,3,none⟩=some (.int .i64 3):=by rw [hw2];simp [go_sem,c3]
  have k14:w2.cell? ⟨bd,14,none⟩=some (.int .i64 (a:Int)):=by rw [hw2];simp [go_sem,c14]
  have kb:bd<w2.heap.size:=by rw [hw2];simpa using lb
  rw [← hw2] at HL ⊢
  clear hw2
  refine wp_region_seq (fun v=>v.cell? ⟨bd,3,none⟩=some (.int .i64 3)∧v.cell? ⟨bd,14,none⟩=some (.int .i64 (a:Int)) )  ((0,true)::(1,true)::(2,true)::(3,true)::(4,true)::(5,true)::(6,true)::(7,true)::(8,true)::(9,true)::(10,true)::(11,false)::(12,true)::[])  Md.Cv.follows13 (by kernel_rfl) (fun _ _ _ _ _ h=>h)  ⟨k3,k14⟩ ?_
  (repeat ((first | (refine wpSeq_take (v:=?_) rfl (by rfl) (fun wq hSq=>?_) ?_;rotate_left;(focus ((try dsimp only at hSq);go_simp;try with_reducible rfl))) | refine wpSeq_skip rfl (by rfl) ?_);simp only [Act.put,List.setIfInBounds_toArray,List.set_cons_zero,List.set_cons_succ]))
  rw [HV.out]
  (refine wpSeq_do rfl (by rfl) (fun KK hK=>?_);go_simp)
  refine HL.out.mono ?_
  rintro e w3 ⟨rfl,k⟩
  have HQ:=Lib.hid k
  have g3:w3.cell? ⟨bd,3,none⟩=some (.int .i64 3):=k.cell 3 (fun _=>rfl)
  have g14:w3.cell? ⟨bd,14,none⟩=some (.int .i64 (a:Int)):=by rw [← HA.out];exact k.cell 14 (fun _=>rfl)
  have g12:w3.cell? ⟨bd,12,none⟩=some (.int .u64 x.stamp):=k.cell 12 (fun _=>rfl)
  have g7:w3.cell? ⟨bd,7,none⟩=some (.int .i64 x.b):=k.cell 7 (fun _=>rfl)
  have l3:=k.ltB
  refine hK.out _ _ ⟨g3,g14⟩ ?_
  clear k HL k3 k14 kb
  (clear hK KK;try simp only [Act.put,List.setIfInBounds_toArray,List.set_cons_zero,List.set_cons_succ])
  (repeat ((first | (refine wpSeq_take (v:=?_) rfl (by rfl) (fun wq hSq=>?_) ?_;rotate_left;(focus ((try dsimp only at hSq);go_simp;try with_reducible rfl))) | refine wpSeq_skip rfl (by rfl) ?_);simp only [Act.put,List.setIfInBounds_toArray,List.set_cons_zero,List.set_cons_succ]))
  refine wpSeq_nil ?_
  have f14':=HQ.out.free 14
  have H4:=Lib.hid (HQ.out.put 14 (.int .i64 ((a:Int)+1)) { tickY x with at_:=a+1 } (fun _=>rfl) rfl rfl rfl)
  clear HQ
  go_upto_region 23 with fail
  obtain ⟨w4,hw4⟩:∃ w4,w4=w3.setCell ⟨bd,14,none⟩ (.int .i64 ((a:Int)+1)):=⟨_,rfl⟩
  rw [← hw4] at H4 ⊢
  clear hw4 g3 g14 g12 g7 l3 f14'
  have g14:w4.cell? ⟨bd,14,none⟩=some (.int .i64 ((a:Int)+1)):=H4.out.cell 14 (fun _=>rfl)
  have g7:w4.cell? ⟨bd,7,none⟩=some (.int .i64 x.b):=H4.out.cell 7 (fun _=>rfl)
  have l4:=H4.out.ltB
  refine wp_region_seq (fun v=>v.cell? ⟨bd,14,none⟩=some (.int .i64 ((a:Int)+1))∧v.cell? ⟨bd,7,none⟩=some (.int .i64 x.b) )  ((0,true)::(1,true)::(2,true)::(3,true)::(4,true)::(5,true)::(6,true)::(7,true)::(8,true)::[])  Md.Cv.follows13 (by kernel_rfl) (fun _ _ _ _ _ h=>h)  ⟨g14,g7⟩ ?_
  (repeat ((first | (refine wpSeq_take (v:=?_) rfl (by rfl) (fun wq hSq=>?_) ?_;rotate_left;(focus ((try dsimp only at hSq);go_simp;try with_reducible rfl))) | refine wpSeq_skip rfl (by rfl) ?_);simp only [Act.put,List.setIfInBounds_toArray,List.set_cons_zero,List.set_cons_succ]))
  refine wpSeq_nil ?_
  obtain ⟨w5,hw5⟩:∃ w5,w5=w4.drew:=⟨_,rfl⟩
  have H5:=Lib.hid H4.out.drew
  rw [← hw5] at H5 ⊢
  clear hw5 H4 g14 g7 l4
  have g14:w5.cell? ⟨bd,14,none⟩=some (.int .i64 ((a:Int)+1)):=H5.out.cell 14 (fun _=>rfl)
  have g10:w5.cell? ⟨bd,10,none⟩=some (.int .i64 (x.part:Int)):=H5.out.cell 10 (fun _=>rfl)
  have l5:=H5.out.ltB
  have f10':=H5.out.free 10
  have f14':=H5.out.free 14
  have H6:Hid (DMid W R0 bd z bw gw ((w5.setCell ⟨bd,14,none⟩ (.int .i64 0)).setCell ⟨bd,10,none⟩ (.int .i64 6)) { tickY x with at_:=0,part:=6 } ws (up n)):=(H5.out.put 14 (.int .i64 0) { tickY x with at_:=0 } (fun _=>rfl) rfl rfl rfl).put 10 (.int .i64 6) { tickY x with at_:=0,part:=6 } (fun _=>rfl) rfl rfl rfl
  clear H5
  go_upto_region 26 with fail
  obtain ⟨w6,hw6⟩:∃ w6,w6=(w5.setCell ⟨bd,14,none⟩ (.int .i64 0)).setCell ⟨bd,10,none⟩ (.int .i64 6):=⟨_,rfl⟩
  rw [← hw6] at H6 ⊢
  clear hw6 g14 g10 l5 f10' f14'
  obtain ⟨pb,cb2,gB,lB,_⟩:=H6.out.bufs
  have gB':w6.cell? ⟨z.br,19,none⟩=some (.slice pb L cb2):=by rw [← HLE.out];exact gB
  have g6:w6.cell? ⟨bd,6,none⟩=some (.pointer (some ⟨z.br,0,none⟩)):=H6.out.cell 6 (fun _=>rfl)
  have g10:w6.cell? ⟨bd,10,none⟩=some (.int .i64 6):=H6.out.cell 10 (fun _=>rfl)
  have l6:=H6.out.ltB
  have f10':=H6.out.free 10
  clear gB
  have HZ:=Lib.hid H6.out
  clear H6
  go_wp2_with fail
  go_ret2
  exact ⟨rfl,HZ.out⟩
set_option maxRecDepth 100000 in
set_option maxHeartbeats 2000000 in
theorem dscan_seven0 (h:DMid W R0 bd z bw gw w x ws n) (hI:InY x) (hst:0≤x.steps∧x.steps≤1000000) (hl:plY x≤(ws.length:Int)) (hp:x.part=5) {u:Int} (hw:wordAt ws (3+(x.at_:Int))=u) {a:Nat} (ha:x.at_=a) (hu1:(u == 0)=true) (heb:((a:Int)+1 == x.b)=true) {L:Nat} (HLE:Hid (x.m.buf.length=L)) (hL:((L:Int) == 0)=true):Calls Tryz.prog 15 #[.pointer (some ⟨bd,0,none⟩),.pointer (some ⟨bw,0,none⟩)] w fun e w'=>e=.returned (.tuple #[.bool false,.int .i64 0])∧DMid W R0 bd z bw gw w' { tickY x with at_:=0,part:=7 } ws (up n):=by
  obtain ⟨c0,c1,c2,c3,c4,c5,c6,c7,c10,c11,c12,c14,c15,c16,lb⟩:=h.all (pt:=5) rfl (by omega)
  obtain ⟨f10,f11,f12,f13,f14,f15,f16⟩:=h.frees
  have w0:=h.words.cell0
  have lw:=h.words.ltB
  have hlt:¬ (ws.length:Int)<plY x:=by omega
  have h5:=hI.at5 hp
  have hcb:=hI.cb
  have h2:3+(x.at_:Int)<(ws.length:Int):=by have:=hI.ca;unfold plY at hl;omega
  have HL:=Lib.hid (h.tick.drew.load (i:=3+(x.at_:Int)) (by omega) h2)
  have HV:=Lib.hid (Go.IntWalk.i64_in (3+(x.at_:Int)) (by omega))
  rw [hw] at HL
  rw [ha] at c14 h5 h2 HL HV
  have HA:=Lib.hid ha
  have hab:(a:Int)<8:=by omega
  clear h hl hI ha hw h2
  generalize plY x=pl at *
  go_enter Tryz.func15,Tryz.ntmps15
  go_wp2_with fail
  refine wp_region_seq (fun u=>u.cell? ⟨bw,0,none⟩=some (.slice (some ⟨gw,0,none⟩) ws.length ws.length)∧u.cell? ⟨bd,5,none⟩=some (.int .i64 pl) )  ((0,true)::(1,true)::(2,true)::(3,true)::(4,true)::(5,true)::(6,true)::(7,true)::(8,true)::(9,true)::(10,true)::[])  Md.Cv.follows13 (by kernel_rfl) (fun _ _ _ _ _ h=>h)  ⟨w0,c5⟩ ?_
  (repeat ((first | (refine wpSeq_take (v:=?_) rfl (by rfl) (fun wq hSq=>?_) ?_;rotate_left;(focus ((try dsimp only at hSq);go_simp;try with_reducible rfl))) | refine wpSeq_skip rfl (by rfl) ?_);simp only [Act.put,List.setIfInBounds_toArray,List.set_cons_zero,List.set_cons_succ]))
  refine wpSeq_nil ?_
  go_wp2_with fail
  obtain ⟨w2,hw2⟩:∃ w2,w2=(w.setCell ⟨bd,16,none⟩ (.int .i64 (x.steps+1))).drew:=⟨_,rfl⟩
  have k3:w2.cell? ⟨bd,3,none⟩=some (.int .i64 3):=by rw [hw2];simp [go_sem,c3]
  have k14:w2.cell? ⟨bd,14,none⟩=some (.int .i64 (a:Int)):=by rw [hw2];simp [go_sem,c14]
  have kb:bd<w2.heap.size:=by rw [hw2];simpa using lb
  rw [← hw2] at HL ⊢
  clear hw2
  refine wp_region_seq (fun v=>v.cell? ⟨bd,3,none⟩=some (.int .i64 3)∧v.cell? ⟨bd,14,none⟩=some (.int .i64 (a:Int)) )  ((0,true)::(1,true)::(2,true)::(3,true)::(4,true)::(5,true)::(6,true)::(7,true)::(8,true)::(9,true)::(10,true)::(11,false)::(12,true)::[])  Md.Cv.follows13 (by kernel_rfl) (fun _ _ _ _ _ h=>h)  ⟨k3,k14⟩ ?_
  (repeat ((first | (refine wpSeq_take (v:=?_) rfl (by rfl) (fun wq hSq=>?_) ?_;rotate_left;(focus ((try dsimp only at hSq);go_simp;try with_reducible rfl))) | refine wpSeq_skip rfl (by rfl) ?_);simp only [Act.put,List.setIfInBounds_toArray,List.set_cons_zero,List.set_cons_succ]))
  rw [HV.out]
  (refine wpSeq_do rfl (by rfl) (fun KK hK=>?_);go_simp)
  refine HL.out.mono ?_
  rintro e w3 ⟨rfl,k⟩
  have HQ:=Lib.hid k
  have g3:w3.cell? ⟨bd,3,none⟩=some (.int .i64 3):=k.cell 3 (fun _=>rfl)
  have g14:w3.cell? ⟨bd,14,none⟩=some (.int .i64 (a:Int)):=by rw [← HA.out];exact k.cell 14 (fun _=>rfl)
  have g12:w3.cell? ⟨bd,12,none⟩=some (.int .u64 x.stamp):=k.cell 12 (fun _=>rfl)
  have g7:w3.cell? ⟨bd,7,none⟩=some (.int .i64 x.b):=k.cell 7 (fun _=>rfl)
  have l3:=k.ltB
  refine hK.out _ _ ⟨g3,g14⟩ ?_
  clear k HL k3 k14 kb
  (clear hK KK;try simp only [Act.put,List.setIfInBounds_toArray,List.set_cons_zero,List.set_cons_succ])
  (repeat ((first | (refine wpSeq_take (v:=?_) rfl (by rfl) (fun wq hSq=>?_) ?_;rotate_left;(focus ((try dsimp only at hSq);go_simp;try with_reducible rfl))) | refine wpSeq_skip rfl (by rfl) ?_);simp only [Act.put,List.setIfInBounds_toArray,List.set_cons_zero,List.set_cons_succ]))
  refine wpSeq_nil ?_
  have f14':=HQ.out.free 14
  have H4:=Lib.hid (HQ.out.put 14 (.int .i64 ((a:Int)+1)) { tickY x with at_:=a+1 } (fun _=>rfl) rfl rfl rfl)
  clear HQ
  go_upto_region 23 with fail
  obtain ⟨w4,hw4⟩:∃ w4,w4=w3.setCell ⟨bd,14,none⟩ (.int .i64 ((a:Int)+1)):=⟨_,rfl⟩
  rw [← hw4] at H4 ⊢
  clear hw4 g3 g14 g12 g7 l3 f14'
  have g14:w4.cell? ⟨bd,14,none⟩=some (.int .i64 ((a:Int)+1)):=H4.out.cell 14 (fun _=>rfl)
  have g7:w4.cell? ⟨bd,7,none⟩=some (.int .i64 x.b):=H4.out.cell 7 (fun _=>rfl)
  have l4:=H4.out.ltB
  refine wp_region_seq (fun v=>v.cell? ⟨bd,14,none⟩=some (.int .i64 ((a:Int)+1))∧v.cell? ⟨bd,7,none⟩=some (.int .i64 x.b) )  ((0,true)::(1,true)::(2,true)::(3,true)::(4,true)::(5,true)::(6,true)::(7,true)::(8,true)::[])  Md.Cv.follows13 (by kernel_rfl) (fun _ _ _ _ _ h=>h)  ⟨g14,g7⟩ ?_
  (repeat ((first | (refine wpSeq_take (v:=?_) rfl (by rfl) (fun wq hSq=>?_) ?_;rotate_left;(focus ((try dsimp only at hSq);go_simp;try with_reducible rfl))) | refine wpSeq_skip rfl (by rfl) ?_);simp only [Act.put,List.setIfInBounds_toArray,List.set_cons_zero,List.set_cons_succ]))
  refine wpSeq_nil ?_
  obtain ⟨w5,hw5⟩:∃ w5,w5=w4.drew:=⟨_,rfl⟩
  have H5:=Lib.hid H4.out.drew
  rw [← hw5] at H5 ⊢
  clear hw5 H4 g14 g7 l4
  have g14:w5.cell? ⟨bd,14,none⟩=some (.int .i64 ((a:Int)+1)):=H5.out.cell 14 (fun _=>rfl)
  have g10:w5.cell? ⟨bd,10,none⟩=some (.int .i64 (x.part:Int)):=H5.out.cell 10 (fun _=>rfl)
  have l5:=H5.out.ltB
  have f10':=H5.out.free 10
  have f14':=H5.out.free 14
  have H6:Hid (DMid W R0 bd z bw gw ((w5.setCell ⟨bd,14,none⟩ (.int .i64 0)).setCell ⟨bd,10,none⟩ (.int .i64 6)) { tickY x with at_:=0,part:=6 } ws (up n)):=(H5.out.put 14 (.int .i64 0) { tickY x with at_:=0 } (fun _=>rfl) rfl rfl rfl).put 10 (.int .i64 6) { tickY x with at_:=0,part:=6 } (fun _=>rfl) rfl rfl rfl
  clear H5
  go_upto_region 26 with fail
  obtain ⟨w6,hw6⟩:∃ w6,w6=(w5.setCell ⟨bd,14,none⟩ (.int .i64 0)).setCell ⟨bd,10,none⟩ (.int .i64 6):=⟨_,rfl⟩
  rw [← hw6] at H6 ⊢
  clear hw6 g14 g10 l5 f10' f14'
  obtain ⟨pb,cb2,gB,lB,_⟩:=H6.out.bufs
  have gB':w6.cell? ⟨z.br,19,none⟩=some (.slice pb L cb2):=by rw [← HLE.out];exact gB
  have g6:w6.cell? ⟨bd,6,none⟩=some (.pointer (some ⟨z.br,0,none⟩)):=H6.out.cell 6 (fun _=>rfl)
  have g10:w6.cell? ⟨bd,10,none⟩=some (.int .i64 6):=H6.out.cell 10 (fun _=>rfl)
  have l6:=H6.out.ltB
  have f10':=H6.out.free 10
  clear gB
  have HZ:=Lib.hid (H6.out.put 10 (.int .i64 7) { tickY x with at_:=0,part:=7 } (fun _=>rfl) rfl rfl rfl)
  clear H6
  go_wp2_with fail
  go_ret2
  exact ⟨rfl,HZ.out⟩
set_option maxRecDepth 100000 in
set_option maxHeartbeats 2000000 in
theorem dscan_on1 (h:DMid W R0 bd z bw gw w x ws n) (hI:InY x) (hst:0≤x.steps∧x.steps≤1000000) (hl:plY x≤(ws.length:Int)) (hp:x.part=5) {u:Int} (hw:wordAt ws (3+(x.at_:Int))=u) {a:Nat} (ha:x.at_=a) (hu1:(u == 0)=false) (hu2:x.stamp<u) (heb:((a:Int)+1 == x.b)=false):Calls Tryz.prog 15 #[.pointer (some ⟨bd,0,none⟩),.pointer (some ⟨bw,0,none⟩)] w fun e w'=>e=.returned (.tuple #[.bool false,.int .i64 0])∧DMid W R0 bd z bw gw w' { tickY x with at_:=a+1 } ws (up n):=by
  obtain ⟨c0,c1,c2,c3,c4,c5,c6,c7,c10,c11,c12,c14,c15,c16,lb⟩:=h.all (pt:=5) rfl (by omega)
  obtain ⟨f10,f11,f12,f13,f14,f15,f16⟩:=h.frees
  have w0:=h.words.cell0
  have lw:=h.words.ltB
  have hlt:¬ (ws.length:Int)<plY x:=by omega
  have h5:=hI.at5 hp
  have hcb:=hI.cb
  have h2:3+(x.at_:Int)<(ws.length:Int):=by have:=hI.ca;unfold plY at hl;omega
  have HL:=Lib.hid (h.tick.drew.load (i:=3+(x.at_:Int)) (by omega) h2)
  have HV:=Lib.hid (Go.IntWalk.i64_in (3+(x.at_:Int)) (by omega))
  rw [hw] at HL
  rw [ha] at c14 h5 h2 HL HV
  have HA:=Lib.hid ha
  have hab:(a:Int)<8:=by omega
  clear h hl hI ha hw h2
  generalize plY x=pl at *
  go_enter Tryz.func15,Tryz.ntmps15
  go_wp2_with fail
  refine wp_region_seq (fun u=>u.cell? ⟨bw,0,none⟩=some (.slice (some ⟨gw,0,none⟩) ws.length ws.length)∧u.cell? ⟨bd,5,none⟩=some (.int .i64 pl) )  ((0,true)::(1,true)::(2,true)::(3,true)::(4,true)::(5,true)::(6,true)::(7,true)::(8,true)::(9,true)::(10,true)::[])  Md.Cv.follows13 (by kernel_rfl) (fun _ _ _ _ _ h=>h)  ⟨w0,c5⟩ ?_
  (repeat ((first | (refine wpSeq_take (v:=?_) rfl (by rfl) (fun wq hSq=>?_) ?_;rotate_left;(focus ((try dsimp only at hSq);go_simp;try with_reducible rfl))) | refine wpSeq_skip rfl (by rfl) ?_);simp only [Act.put,List.setIfInBounds_toArray,List.set_cons_zero,List.set_cons_succ]))
  refine wpSeq_nil ?_
  go_wp2_with fail
  obtain ⟨w2,hw2⟩:∃ w2,w2=(w.setCell ⟨bd,16,none⟩ (.int .i64 (x.steps+1))).drew:=⟨_,rfl⟩
  have k3:w2.cell? ⟨bd,3,none⟩=some (.int .i64 3):=by rw [hw2];simp [go_sem,c3]
  have k14:w2.cell? ⟨bd,14,none⟩=some (.int .i64 (a:Int)):=by rw [hw2];simp [go_sem,c14]
  have kb:bd<w2.heap.size:=by rw [hw2];simpa using lb
  rw [← hw2] at HL ⊢
  clear hw2
  refine wp_region_seq (fun v=>v.cell? ⟨bd,3,none⟩=some (.int .i64 3)∧v.cell? ⟨bd,14,none⟩=some (.int .i64 (a:Int)) )  ((0,true)::(1,true)::(2,true)::(3,true)::(4,true)::(5,true)::(6,true)::(7,true)::(8,true)::(9,true)::(10,true)::(11,false)::(12,true)::[])  Md.Cv.follows13 (by kernel_rfl) (fun _ _ _ _ _ h=>h)  ⟨k3,k14⟩ ?_
  (repeat ((first | (refine wpSeq_take (v:=?_) rfl (by rfl) (fun wq hSq=>?_) ?_;rotate_left;(focus ((try dsimp only at hSq);go_simp;try with_reducible rfl))) | refine wpSeq_skip rfl (by rfl) ?_);simp only [Act.put,List.setIfInBounds_toArray,List.set_cons_zero,List.set_cons_succ]))
  rw [HV.out]
  (refine wpSeq_do rfl (by rfl) (fun KK hK=>?_);go_simp)
  refine HL.out.mono ?_
  rintro e w3 ⟨rfl,k⟩
  have HQ:=Lib.hid k
  have g3:w3.cell? ⟨bd,3,none⟩=some (.int .i64 3):=k.cell 3 (fun _=>rfl)
  have g14:w3.cell? ⟨bd,14,none⟩=some (.int .i64 (a:Int)):=by rw [← HA.out];exact k.cell 14 (fun _=>rfl)
  have g12:w3.cell? ⟨bd,12,none⟩=some (.int .u64 x.stamp):=k.cell 12 (fun _=>rfl)
  have g7:w3.cell? ⟨bd,7,none⟩=some (.int .i64 x.b):=k.cell 7 (fun _=>rfl)
  have l3:=k.ltB
  refine hK.out _ _ ⟨g3,g14⟩ ?_
  clear k HL k3 k14 kb
  (clear hK KK;try simp only [Act.put,List.setIfInBounds_toArray,List.set_cons_zero,List.set_cons_succ])
  (repeat ((first | (refine wpSeq_take (v:=?_) rfl (by rfl) (fun wq hSq=>?_) ?_;rotate_left;(focus ((try dsimp only at hSq);go_simp;try with_reducible rfl))) | refine wpSeq_skip rfl (by rfl) ?_);simp only [Act.put,List.setIfInBounds_toArray,List.set_cons_zero,List.set_cons_succ]))
  refine wpSeq_nil ?_
  have f14':=HQ.out.free 14
  have H4:=Lib.hid (HQ.out.put 14 (.int .i64 ((a:Int)+1)) { tickY x with at_:=a+1 } (fun _=>rfl) rfl rfl rfl)
  clear HQ
  go_upto_region 23 with fail
  obtain ⟨w4,hw4⟩:∃ w4,w4=w3.setCell ⟨bd,14,none⟩ (.int .i64 ((a:Int)+1)):=⟨_,rfl⟩
  rw [← hw4] at H4 ⊢
  clear hw4 g3 g14 g12 g7 l3 f14'
  have g14:w4.cell? ⟨bd,14,none⟩=some (.int .i64 ((a:Int)+1)):=H4.out.cell 14 (fun _=>rfl)
  have g7:w4.cell? ⟨bd,7,none⟩=some (.int .i64 x.b):=H4.out.cell 7 (fun _=>rfl)
  have l4:=H4.out.ltB
  refine wp_region_seq (fun v=>v.cell? ⟨bd,14,none⟩=some (.int .i64 ((a:Int)+1))∧v.cell? ⟨bd,7,none⟩=some (.int .i64 x.b) )  ((0,true)::(1,true)::(2,true)::(3,true)::(4,true)::(5,true)::(6,true)::(7,true)::(8,true)::[])  Md.Cv.follows13 (by kernel_rfl) (fun _ _ _ _ _ h=>h)  ⟨g14,g7⟩ ?_
  (repeat ((first | (refine wpSeq_take (v:=?_) rfl (by rfl) (fun wq hSq=>?_) ?_;rotate_left;(focus ((try dsimp only at hSq);go_simp;try with_reducible rfl))) | refine wpSeq_skip rfl (by rfl) ?_);simp only [Act.put,List.setIfInBounds_toArray,List.set_cons_zero,List.set_cons_succ]))
  refine wpSeq_nil ?_
  have HZ:=Lib.hid H4.out.drew
  clear H4
  go_wp2_with fail
  go_ret2
  exact ⟨rfl,HZ.out⟩
set_option maxRecDepth 100000 in
set_option maxHeartbeats 2000000 in
theorem dscan_six1 (h:DMid W R0 bd z bw gw w x ws n) (hI:InY x) (hst:0≤x.steps∧x.steps≤1000000) (hl:plY x≤(ws.length:Int)) (hp:x.part=5) {u:Int} (hw:wordAt ws (3+(x.at_:Int))=u) {a:Nat} (ha:x.at_=a) (hu1:(u == 0)=false) (hu2:x.stamp<u) (heb:((a:Int)+1 == x.b)=true) {L:Nat} (HLE:Hid (x.m.buf.length=L)) (hL:((L:Int) == 0)=false):Calls Tryz.prog 15 #[.pointer (some ⟨bd,0,none⟩),.pointer (some ⟨bw,0,none⟩)] w fun e w'=>e=.returned (.tuple #[.bool false,.int .i64 0])∧DMid W R0 bd z bw gw w' { tickY x with at_:=0,part:=6 } ws (up n):=by
  obtain ⟨c0,c1,c2,c3,c4,c5,c6,c7,c10,c11,c12,c14,c15,c16,lb⟩:=h.all (pt:=5) rfl (by omega)
  obtain ⟨f10,f11,f12,f13,f14,f15,f16⟩:=h.frees
  have w0:=h.words.cell0
  have lw:=h.words.ltB
  have hlt:¬ (ws.length:Int)<plY x:=by omega
  have h5:=hI.at5 hp
  have hcb:=hI.cb
  have h2:3+(x.at_:Int)<(ws.length:Int):=by have:=hI.ca;unfold plY at hl;omega
  have HL:=Lib.hid (h.tick.drew.load (i:=3+(x.at_:Int)) (by omega) h2)
  have HV:=Lib.hid (Go.IntWalk.i64_in (3+(x.at_:Int)) (by omega))
  rw [hw] at HL
  rw [ha] at c14 h5 h2 HL HV
  have HA:=Lib.hid ha
  have hab:(a:Int)<8:=by omega
  clear h hl hI ha hw h2
  generalize plY x=pl at *
  go_enter Tryz.func15,Tryz.ntmps15
  go_wp2_with fail
  refine wp_region_seq (fun u=>u.cell? ⟨bw,0,none⟩=some (.slice (some ⟨gw,0,none⟩) ws.length ws.length)∧u.cell? ⟨bd,5,none⟩=some (.int .i64 pl) )  ((0,true)::(1,true)::(2,true)::(3,true)::(4,true)::(5,true)::(6,true)::(7,true)::(8,true)::(9,true)::(10,true)::[])  Md.Cv.follows13 (by kernel_rfl) (fun _ _ _ _ _ h=>h)  ⟨w0,c5⟩ ?_
  (repeat ((first | (refine wpSeq_take (v:=?_) rfl (by rfl) (fun wq hSq=>?_) ?_;rotate_left;(focus ((try dsimp only at hSq);go_simp;try with_reducible rfl))) | refine wpSeq_skip rfl (by rfl) ?_);simp only [Act.put,List.setIfInBounds_toArray,List.set_cons_zero,List.set_cons_succ]))
  refine wpSeq_nil ?_
  go_wp2_with fail
  obtain ⟨w2,hw2⟩:∃ w2,w2=(w.setCell ⟨bd,16,none⟩ (.int .i64 (x.steps+1))).drew:=⟨_,rfl⟩
  have k3:w2.cell? ⟨bd,3,none⟩=some (.int .i64 3):=by rw [hw2];simp [go_sem,c3]
  have k14:w2.cell? ⟨bd,14,none⟩=some (.int .i64 (a:Int)):=by rw [hw2];simp [go_sem,c14]
  have kb:bd<w2.heap.size:=by rw [hw2];simpa using lb
  rw [← hw2] at HL ⊢
  clear hw2
  refine wp_region_seq (fun v=>v.cell? ⟨bd,3,none⟩=some (.int .i64 3)∧v.cell? ⟨bd,14,none⟩=some (.int .i64 (a:Int)) )  ((0,true)::(1,true)::(2,true)::(3,true)::(4,true)::(5,true)::(6,true)::(7,true)::(8,true)::(9,true)::(10,true)::(11,false)::(12,true)::[])  Md.Cv.follows13 (by kernel_rfl) (fun _ _ _ _ _ h=>h)  ⟨k3,k14⟩ ?_
  (repeat ((first | (refine wpSeq_take (v:=?_) rfl (by rfl) (fun wq hSq=>?_) ?_;rotate_left;(focus ((try dsimp only at hSq);go_simp;try with_reducible rfl))) | refine wpSeq_skip rfl (by rfl) ?_);simp only [Act.put,List.setIfInBounds_toArray,List.set_cons_zero,List.set_cons_succ]))
  rw [HV.out]
  (refine wpSeq_do rfl (by rfl) (fun KK hK=>?_);go_simp)
  refine HL.out.mono ?_
  rintro e w3 ⟨rfl,k⟩
  have HQ:=Lib.hid k
  have g3:w3.cell? ⟨bd,3,none⟩=some (.int .i64 3):=k.cell 3 (fun _=>rfl)
  have g14:w3.cell? ⟨bd,14,none⟩=some (.int .i64 (a:Int)):=by rw [← HA.out];exact k.cell 14 (fun _=>rfl)
  have g12:w3.cell? ⟨bd,12,none⟩=some (.int .u64 x.stamp):=k.cell 12 (fun _=>rfl)
  have g7:w3.cell? ⟨bd,7,none⟩=some (.int .i64 x.b):=k.cell 7 (fun _=>rfl)
  have l3:=k.ltB
  refine hK.out _ _ ⟨g3,g14⟩ ?_
  clear k HL k3 k14 kb
  (clear hK KK;try simp only [Act.put,List.setIfInBounds_toArray,List.set_cons_zero,List.set_cons_succ])
  (repeat ((first | (refine wpSeq_take (v:=?_) rfl (by rfl) (fun wq hSq=>?_) ?_;rotate_left;(focus ((try dsimp only at hSq);go_simp;try with_reducible rfl))) | refine wpSeq_skip rfl (by rfl) ?_);simp only [Act.put,List.setIfInBounds_toArray,List.set_cons_zero,List.set_cons_succ]))
  refine wpSeq_nil ?_
  have f14':=HQ.out.free 14
  have H4:=Lib.hid (HQ.out.put 14 (.int .i64 ((a:Int)+1)) { tickY x with at_:=a+1 } (fun _=>rfl) rfl rfl rfl)
  clear HQ
  go_upto_region 23 with fail
  obtain ⟨w4,hw4⟩:∃ w4,w4=w3.setCell ⟨bd,14,none⟩ (.int .i64 ((a:Int)+1)):=⟨_,rfl⟩
  rw [← hw4] at H4 ⊢
  clear hw4 g3 g14 g12 g7 l3 f14'
  have g14:w4.cell? ⟨bd,14,none⟩=some (.int .i64 ((a:Int)+1)):=H4.out.cell 14 (fun _=>rfl)
  have g7:w4.cell? ⟨bd,7,none⟩=some (.int .i64 x.b):=H4.out.cell 7 (fun _=>rfl)
  have l4:=H4.out.ltB
  refine wp_region_seq (fun v=>v.cell? ⟨bd,14,none⟩=some (.int .i64 ((a:Int)+1))∧v.cell? ⟨bd,7,none⟩=some (.int .i64 x.b) )  ((0,true)::(1,true)::(2,true)::(3,true)::(4,true)::(5,true)::(6,true)::(7,true)::(8,true)::[])  Md.Cv.follows13 (by kernel_rfl) (fun _ _ _ _ _ h=>h)  ⟨g14,g7⟩ ?_
  (repeat ((first | (refine wpSeq_take (v:=?_) rfl (by rfl) (fun wq hSq=>?_) ?_;rotate_left;(focus ((try dsimp only at hSq);go_simp;try with_reducible rfl))) | refine wpSeq_skip rfl (by rfl) ?_);simp only [Act.put,List.setIfInBounds_toArray,List.set_cons_zero,List.set_cons_succ]))
  refine wpSeq_nil ?_
  obtain ⟨w5,hw5⟩:∃ w5,w5=w4.drew:=⟨_,rfl⟩
  have H5:=Lib.hid H4.out.drew
  rw [← hw5] at H5 ⊢
  clear hw5 H4 g14 g7 l4
  have g14:w5.cell? ⟨bd,14,none⟩=some (.int .i64 ((a:Int)+1)):=H5.out.cell 14 (fun _=>rfl)
  have g10:w5.cell? ⟨bd,10,none⟩=some (.int .i64 (x.part:Int)):=H5.out.cell 10 (fun _=>rfl)
  have l5:=H5.out.ltB
  have f10':=H5.out.free 10
  have f14':=H5.out.free 14
  have H6:Hid (DMid W R0 bd z bw gw ((w5.setCell ⟨bd,14,none⟩ (.int .i64 0)).setCell ⟨bd,10,none⟩ (.int .i64 6)) { tickY x with at_:=0,part:=6 } ws (up n)):=(H5.out.put 14 (.int .i64 0) { tickY x with at_:=0 } (fun _=>rfl) rfl rfl rfl).put 10 (.int .i64 6) { tickY x with at_:=0,part:=6 } (fun _=>rfl) rfl rfl rfl
  clear H5
  go_upto_region 26 with fail
  obtain ⟨w6,hw6⟩:∃ w6,w6=(w5.setCell ⟨bd,14,none⟩ (.int .i64 0)).setCell ⟨bd,10,none⟩ (.int .i64 6):=⟨_,rfl⟩
  rw [← hw6] at H6 ⊢
  clear hw6 g14 g10 l5 f10' f14'
  obtain ⟨pb,cb2,gB,lB,_⟩:=H6.out.bufs
  have gB':w6.cell? ⟨z.br,19,none⟩=some (.slice pb L cb2):=by rw [← HLE.out];exact gB
  have g6:w6.cell? ⟨bd,6,none⟩=some (.pointer (some ⟨z.br,0,none⟩)):=H6.out.cell 6 (fun _=>rfl)
  have g10:w6.cell? ⟨bd,10,none⟩=some (.int .i64 6):=H6.out.cell 10 (fun _=>rfl)
  have l6:=H6.out.ltB
  have f10':=H6.out.free 10
  clear gB
  have HZ:=Lib.hid H6.out
  clear H6
  go_wp2_with fail
  go_ret2
  exact ⟨rfl,HZ.out⟩
set_option maxRecDepth 100000 in
set_option maxHeartbeats 2000000 in
theorem dscan_seven1 (h:DMid W R0 bd z bw gw w x ws n) (hI:InY x) (hst:0≤x.steps∧x.steps≤1000000) (hl:plY x≤(ws.length:Int)) (hp:x.part=5) {u:Int} (hw:wordAt ws (3+(x.at_:Int))=u) {a:Nat} (ha:x.at_=a) (hu1:(u == 0)=false) (hu2:x.stamp<u) (heb:((a:Int)+1 == x.b)=true) {L:Nat} (HLE:Hid (x.m.buf.length=L)) (hL:((L:Int) == 0)=true):Calls Tryz.prog 15 #[.pointer (some ⟨bd,0,none⟩),.pointer (some ⟨bw,0,none⟩)] w fun e w'=>e=.returned (.tuple #[.bool false,.int .i64 0])∧DMid W R0 bd z bw gw w' { tickY x with at_:=0,part:=7 } ws (up n):=by
  obtain ⟨c0,c1,c2,c3,c4,c5,c6,c7,c10,c11,c12,c14,c15,c16,lb⟩:=h.all (pt:=5) rfl (by omega)
  obtain ⟨f10,f11,f12,f13,f14,f15,f16⟩:=h.frees
  have w0:=h.words.cell0
  have lw:=h.words.ltB
  have hlt:¬ (ws.length:Int)<plY x:=by omega
  have h5:=hI.at5 hp
  have hcb:=hI.cb
  have h2:3+(x.at_:Int)<(ws.length:Int):=by have:=hI.ca;unfold plY at hl;omega
  have HL:=Lib.hid (h.tick.drew.load (i:=3+(x.at_:Int)) (by omega) h2)
  have HV:=Lib.hid (Go.IntWalk.i64_in (3+(x.at_:Int)) (by omega))
  rw [hw] at HL
  rw [ha] at c14 h5 h2 HL HV
  have HA:=Lib.hid ha
  have hab:(a:Int)<8:=by omega
  clear h hl hI ha hw h2
  generalize plY x=pl at *
  go_enter Tryz.func15,Tryz.ntmps15
  go_wp2_with fail
  refine wp_region_seq (fun u=>u.cell? ⟨bw,0,none⟩=some (.slice (some ⟨gw,0,none⟩) ws.length ws.length)∧u.cell? ⟨bd,5,none⟩=some (.int .i64 pl) )  ((0,true)::(1,true)::(2,true)::(3,true)::(4,true)::(5,true)::(6,true)::(7,true)::(8,true)::(9,true)::(10,true)::[])  Md.Cv.follows13 (by kernel_rfl) (fun _ _ _ _ _ h=>h)  ⟨w0,c5⟩ ?_
  (repeat ((first | (refine wpSeq_take (v:=?_) rfl (by rfl) (fun wq hSq=>?_) ?_;rotate_left;(focus ((try dsimp only at hSq);go_simp;try with_reducible rfl))) | refine wpSeq_skip rfl (by rfl) ?_);simp only [Act.put,List.setIfInBounds_toArray,List.set_cons_zero,List.set_cons_succ]))
  refine wpSeq_nil ?_
  go_wp2_with fail
  obtain ⟨w2,hw2⟩:∃ w2,w2=(w.setCell ⟨bd,16,none⟩ (.int .i64 (x.steps+1))).drew:=⟨_,rfl⟩
  have k3:w2.cell? ⟨bd,3,none⟩=some (.int .i64 3):=by rw [hw2];simp [go_sem,c3]
  have k14:w2.cell? ⟨bd,14,none⟩=some (.int .i64 (a:Int)):=by rw [hw2];simp [go_sem,c14]
  have kb:bd<w2.heap.size:=by rw [hw2];simpa using lb
  rw [← hw2] at HL ⊢
  clear hw2
  refine wp_region_seq (fun v=>v.cell? ⟨bd,3,none⟩=some (.int .i64 3)∧v.cell? ⟨bd,14,none⟩=some (.int .i64 (a:Int)) )  ((0,true)::(1,true)::(2,true)::(3,true)::(4,true)::(5,true)::(6,true)::(7,true)::(8,true)::(9,true)::(10,true)::(11,false)::(12,true)::[])  Md.Cv.follows13 (by kernel_rfl) (fun _ _ _ _ _ h=>h)  ⟨k3,k14⟩ ?_
  (repeat ((first | (refine wpSeq_take (v:=?_) rfl (by rfl) (fun wq hSq=>?_) ?_;rotate_left;(focus ((try dsimp only at hSq);go_simp;try with_reducible rfl))) | refine wpSeq_skip rfl (by rfl) ?_);simp only [Act.put,List.setIfInBounds_toArray,List.set_cons_zero,List.set_cons_succ]))
  rw [HV.out]
  (refine wpSeq_do rfl (by rfl) (fun KK hK=>?_);go_simp)
  refine HL.out.mono ?_
  rintro e w3 ⟨rfl,k⟩
  have HQ:=Lib.hid k
  have g3:w3.cell? ⟨bd,3,none⟩=some (.int .i64 3):=k.cell 3 (fun _=>rfl)
  have g14:w3.cell? ⟨bd,14,none⟩=some (.int .i64 (a:Int)):=by rw [← HA.out];exact k.cell 14 (fun _=>rfl)
  have g12:w3.cell? ⟨bd,12,none⟩=some (.int .u64 x.stamp):=k.cell 12 (fun _=>rfl)
  have g7:w3.cell? ⟨bd,7,none⟩=some (.int .i64 x.b):=k.cell 7 (fun _=>rfl)
  have l3:=k.ltB
  refine hK.out _ _ ⟨g3,g14⟩ ?_
  clear k HL k3 k14 kb
  (clear hK KK;try simp only [Act.put,List.setIfInBounds_toArray,List.set_cons_zero,List.set_cons_succ])
  (repeat ((first | (refine wpSeq_take (v:=?_) rfl (by rfl) (fun wq hSq=>?_) ?_;rotate_left;(focus ((try dsimp only at hSq);go_simp;try with_reducible rfl))) | refine wpSeq_skip rfl (by rfl) ?_);simp only [Act.put,List.setIfInBounds_toArray,List.set_cons_zero,List.set_cons_succ]))
  refine wpSeq_nil ?_
  have f14':=HQ.out.free 14
  have H4:=Lib.hid (HQ.out.put 14 (.int .i64 ((a:Int)+1)) { tickY x with at_:=a+1 } (fun _=>rfl) rfl rfl rfl)
  clear HQ
  go_upto_region 23 with fail
  obtain ⟨w4,hw4⟩:∃ w4,w4=w3.setCell ⟨bd,14,none⟩ (.int .i64 ((a:Int)+1)):=⟨_,rfl⟩
  rw [← hw4] at H4 ⊢
  clear hw4 g3 g14 g12 g7 l3 f14'
  have g14:w4.cell? ⟨bd,14,none⟩=some (.int .i64 ((a:Int)+1)):=H4.out.cell 14 (fun _=>rfl)
  have g7:w4.cell? ⟨bd,7,none⟩=some (.int .i64 x.b):=H4.out.cell 7 (fun _=>rfl)
  have l4:=H4.out.ltB
  refine wp_region_seq (fun v=>v.cell? ⟨bd,14,none⟩=some (.int .i64 ((a:Int)+1))∧v.cell? ⟨bd,7,none⟩=some (.int .i64 x.b) )  ((0,true)::(1,true)::(2,true)::(3,true)::(4,true)::(5,true)::(6,true)::(7,true)::(8,true)::[])  Md.Cv.follows13 (by kernel_rfl) (fun _ _ _ _ _ h=>h)  ⟨g14,g7⟩ ?_
  (repeat ((first | (refine wpSeq_take (v:=?_) rfl (by rfl) (fun wq hSq=>?_) ?_;rotate_left;(focus ((try dsimp only at hSq);go_simp;try with_reducible rfl))) | refine wpSeq_skip rfl (by rfl) ?_);simp only [Act.put,List.setIfInBounds_toArray,List.set_cons_zero,List.set_cons_succ]))
  refine wpSeq_nil ?_
  obtain ⟨w5,hw5⟩:∃ w5,w5=w4.drew:=⟨_,rfl⟩
  have H5:=Lib.hid H4.out.drew
  rw [← hw5] at H5 ⊢
  clear hw5 H4 g14 g7 l4
  have g14:w5.cell? ⟨bd,14,none⟩=some (.int .i64 ((a:Int)+1)):=H5.out.cell 14 (fun _=>rfl)
  have g10:w5.cell? ⟨bd,10,none⟩=some (.int .i64 (x.part:Int)):=H5.out.cell 10 (fun _=>rfl)
  have l5:=H5.out.ltB
  have f10':=H5.out.free 10
  have f14':=H5.out.free 14
  have H6:Hid (DMid W R0 bd z bw gw ((w5.setCell ⟨bd,14,none⟩ (.int .i64 0)).setCell ⟨bd,10,none⟩ (.int .i64 6)) { tickY x with at_:=0,part:=6 } ws (up n)):=(H5.out.put 14 (.int .i64 0) { tickY x with at_:=0 } (fun _=>rfl) rfl rfl rfl).put 10 (.int .i64 6) { tickY x with at_:=0,part:=6 } (fun _=>rfl) rfl rfl rfl
  clear H5
  go_upto_region 26 with fail
  obtain ⟨w6,hw6⟩:∃ w6,w6=(w5.setCell ⟨bd,14,none⟩ (.int .i64 0)).setCell ⟨bd,10,none⟩ (.int .i64 6):=⟨_,rfl⟩
  rw [← hw6] at H6 ⊢
  clear hw6 g14 g10 l5 f10' f14'
  obtain ⟨pb,cb2,gB,lB,_⟩:=H6.out.bufs
  have gB':w6.cell? ⟨z.br,19,none⟩=some (.slice pb L cb2):=by rw [← HLE.out];exact gB
  have g6:w6.cell? ⟨bd,6,none⟩=some (.pointer (some ⟨z.br,0,none⟩)):=H6.out.cell 6 (fun _=>rfl)
  have g10:w6.cell? ⟨bd,10,none⟩=some (.int .i64 6):=H6.out.cell 10 (fun _=>rfl)
  have l6:=H6.out.ltB
  have f10':=H6.out.free 10
  clear gB
  have HZ:=Lib.hid (H6.out.put 10 (.int .i64 7) { tickY x with at_:=0,part:=7 } (fun _=>rfl) rfl rfl rfl)
  clear H6
  go_wp2_with fail
  go_ret2
  exact ⟨rfl,HZ.out⟩
theorem dstep_scan (h:DMid W R0 bd z bw gw w x ws n) (hI:InY x) (hst:0≤x.steps∧x.steps≤1000000) (hl:plY x≤(ws.length:Int)) (hp:x.part=5):Calls Tryz.prog 15 #[.pointer (some ⟨bd,0,none⟩),.pointer (some ⟨bw,0,none⟩)] w fun e w'=>e=.returned (.tuple #[.bool false,.int .i64 0])∧DMid W R0 bd z bw gw w' (scanY (tickY x) ws) ws (up n):=by
  obtain ⟨u,hu⟩:∃ u,wordAt ws (3+(x.at_:Int))=u:=⟨_,rfl⟩
  unfold scanY
  rw [show wordAt ws (3+((tickY x).at_:Int))=u from hu,show (tickY x).stamp=x.stamp from rfl,show (tickY x).at_=x.at_ from rfl,show (tickY x).b=x.b from rfl,show (tickY x).m=x.m from rfl]
  have eb:∀ q:Bool,decide (((x.at_+1:Nat):Int)=x.b)=q→((x.at_:Int)+1 == x.b)=q:=fun q e=>by rw [← e];rfl
  by_cases hl0:u=0∨x.stamp<u
  · rw [if_pos hl0]
    have hc:((u == 0)=true)∨((u == 0)=false∧x.stamp<u):=by
      by_cases q:u=0
      · exact .inl (by simpa using q)
      · exact .inr ⟨by simpa using q,hl0.resolve_left q⟩
    by_cases e:((x.at_+1:Nat):Int)=x.b
    · rw [if_pos e]
      have e':=eb true (decide_eq_true e)
      by_cases hL:x.m.buf.length=0
      · rw [if_pos hL]
        rcases hc with q | ⟨q1,q2⟩
        · exact dscan_seven0 h hI hst hl hp hu rfl q e' (Lib.hid rfl) (by rw [hL];rfl)
        · exact dscan_seven1 h hI hst hl hp hu rfl q1 q2 e' (Lib.hid rfl) (by rw [hL];rfl)
      · rw [if_neg hL]
        have hL':((x.m.buf.length:Int) == 0)=false:=by rw [beq_eq_false_iff_ne];omega
        rcases hc with q | ⟨q1,q2⟩
        · exact dscan_six0 h hI hst hl hp hu rfl q e' (Lib.hid rfl) hL'
        · exact dscan_six1 h hI hst hl hp hu rfl q1 q2 e' (Lib.hid rfl) hL'
    · rw [if_neg e]
      have e':=eb false (decide_eq_false e)
      rcases hc with q | ⟨q1,q2⟩
      · exact dscan_on0 h hI hst hl hp hu rfl q e'
      · exact dscan_on1 h hI hst hl hp hu rfl q1 q2 e'
  · rw [if_neg hl0]
    exact dscan_no h hI hst hl hp hu rfl (by simpa using fun q=>hl0 (.inl q)) (fun q=>hl0 (.inr q))
end
end Go.Proofs.YteinilmecnlanaaGreatDoor.Ww
namespace Go.Proofs.YteinilmecnlanaaGreatDoor.Ww
open Go.ChangeShapes Go.WideShapes Go.ChangeAt Go.RowKit Num Rr
set_option linter.unusedVariables false
attribute [local go_sem] run_store_float
section
variable {W w:World} {R0:List Nat} {bd bw gw:Nat} {x:Wx} {z:Dz} {ws:List Int} {n:Int}
theorem app_u64 {u:World} {p:Option Addr} {l:List Int} {k g0:Nat} {x:Int} (hr:Ro u p (u64s l)) (hk:l.length=k) (hk2:k≤1024) (h0:u.cell? ⟨g0,0,none⟩=some (.int .u64 x)) (ty:TypeId):∃ v u',(Builtin.append_ #[28,28] ty #[.slice p k k,.slice (some ⟨g0,0,none⟩) 1 1]).run Tryz.prog u=.ok v u'∧AppOne u k (u64s (l ++ [x])) v u':=by
  obtain ⟨i0,hi,hz0,hz1,hz2⟩:=info_parts Md.wordInfo
  unfold AppOne
  have e:u64s (l ++ [x])=u64s l ++ [.int .u64 x]:=by simp [u64s]
  rw [e]
  refine app_new Tryz.underlying28 hi hz0 hr (by simp [u64s,hk,hz1]) ?_ (by omega) (by omega) (by rw [hz2];omega)
  rw [hz1]
  refine Src.ofSlice u Tryz.underlying28 ⟨g0,0,none⟩ 1 1 [.int .u64 x] rfl (fun j v hv=>?_) (fun v hv=>by simp at hv;subst hv;rfl)
  rw [Addr.add_mid,Nat.zero_add]
  match j,hv with
  | 0,hv=>rw [h0];simpa using hv
  | j+1,hv=>simp at hv
theorem DMid.load2 (h:DMid W R0 bd z bw gw w x ws n) {i:Int} (h0:0≤i) (h1:i<(ws.length:Int)):Calls Tryz.prog 41 #[.pointer (some ⟨bw,0,none⟩),.int .i64 i] w fun e w'=>e=.returned (.int .u64 (wordAt ws i))∧DMid W R0 bd z bw gw w' x ws (up n)∧∀ j,w'.cell? ⟨bd,j,none⟩=w.cell? ⟨bd,j,none⟩:=by
  refine (wload_any h.words h0 h1).mono ?_
  rintro e w' ⟨rfl,k1,k2⟩
  have nb:bd∉[bw]:=fun y=>by
    obtain ⟨q,_,_,h3,_⟩:=h
    simp only [List.mem_cons,List.not_mem_nil,or_false] at y
    exact h3 bw (by simp) (by simp [dAll,y])
  exact ⟨rfl,h.wrds (turn_of (L:=[bw]) k2.os k2.tape k2.output k2.size (fun k hk=>by simp at hk;simp [hk]) k2.block) k1,fun j=>World.cell?_of_block (a:=⟨bd,j,none⟩) (k2.block bd h.ltB nb)⟩
theorem DMid.app (h:DMid W R0 bd z bw gw w x ws n) (hl:x.was.length≤1000) (y:Nat):∃ p k c,w.cell? ⟨bd,13,none⟩=some (.slice p k c)∧(k:Int)≤(c:Int)∧x.was.length=k∧((p=none∧k=0)∨∃ g o,p=some ⟨g,o,none⟩) ∧
    ∀ u,Below w.heap.size w u→(u.cell? ⟨bd,13,none⟩=some (.slice p k c)∧bd<u.heap.size)∧∀ g0 ty,u.cell? ⟨g0,0,none⟩=some (.int .u64 (y:Int))→∃ v u',(Builtin.append_ #[28,28] ty #[.slice p k k,.slice (some ⟨g0,0,none⟩) 1 1]).run Tryz.prog u=.ok v u'∧∃ g1 n1 c1,v=.slice (some ⟨g1,0,none⟩) n1 c1∧(Hid (DMid W R0 bd z bw gw (u'.setCell ⟨bd,13,none⟩ (.slice (some ⟨g1,0,none⟩) n1 c1)) { x with was:=x.was ++ [y] } ws n)∧u'.cell? ⟨bd,13,none⟩=some (.slice p k c)∧u'.frozen? ⟨bd,13,none⟩=false∧bd<u'.heap.size):=by
  obtain ⟨q,h1,h2,h3,h4,h5⟩:=id h
  have hpl:=h1.was.plain
  have el:(u64s (natI x.was)).length=x.was.length:=by simp [u64s,natI]
  have nl:(natI x.was).length=x.was.length:=by simp [natI]
  rw [el] at hpl
  refine ⟨q.pw,x.was.length,q.cw,(h1.cell 13).trans rfl,by have:=h1.cw;omega,rfl,hpl,fun u hu=>⟨⟨((h1.on hu).cell 13).trans rfl,(h1.on hu).ltB⟩,fun g0 ty c0=>?_⟩⟩
  obtain ⟨v,u',e1,⟨c',rfl,e2⟩,e3,e4,e5⟩:=app_u64 (h1.on hu).was nl (by omega) c0 ty
  have hb:=hu.trans (e4.mono hu.size)
  have k3:=h1.on hb
  have hna:natI x.was ++ [(y:Int)]=natI (x.was ++ [y]):=by simp [natI]
  rw [hna] at e3
  exact ⟨_,u',e1,_,_,c',rfl,h.wass hb hu.size e5 e2 e3,(k3.cell 13).trans rfl,k3.free 13,k3.ltB⟩
set_option maxRecDepth 100000 in
set_option maxHeartbeats 2000000 in
theorem drun_go (h:DMid W R0 bd z bw gw w x ws n) (hI:Inv x.m) {M:Mac} {A:Ask} (hM:(stepM x.m).1=M) (hA:(stepM x.m).2=A) (h1:(A.kind == 1)=false) (h3:(A.kind == 3)=false∨((A.kind == 3)=true∧A.first=false)) (h4:(A.kind == 4)=false):Calls Tryz.prog 42 #[.pointer (some ⟨bd,0,none⟩),.pointer (some ⟨bw,0,none⟩)] w fun e w'=>e=.returned (.tuple #[])∧DMid W R0 bd z bw gw w' { x with m:=M } ws n:=by
  have HS:=Lib.hid (h.step hI hM hA)
  have c6:w.cell? ⟨bd,6,none⟩=some (.pointer (some ⟨z.br,0,none⟩)):=h.cell 6 (fun _=>rfl)
  have lb:=h.ltB
  obtain ⟨p4,hp4⟩:∃ p4,3+x.b=p4:=⟨_,rfl⟩
  have HC4:Hid (∀ u ws n,DMid W R0 bd z bw gw u { x with m:=M } ws n→u.cell? ⟨bd,4,none⟩=some (.int .i64 p4)∧u.cell? ⟨bd,6,none⟩=some (.pointer (some ⟨z.br,0,none⟩))∧u.cell? ⟨bd,10,none⟩=some (.int .i64 (x.part:Int))∧bd<u.heap.size):=fun u ws n k=>⟨by rw [← hp4];exact k.cell 4 (fun _=>rfl),k.cell 6 (fun _=>rfl),k.cell 10 (fun _=>rfl),k.ltB⟩
  clear h hM hA hI hp4
  obtain ⟨ak,ac,ax,af⟩:=A
  dsimp only at *
  go_enter Tryz.func42,Tryz.ntmps42
  go_wp2_with (go_at_call 74;refine HS.out.mono ?_;rintro e w1 ⟨rfl,k⟩;have HQ:=Lib.hid k;have l1:=k.ltB;clear k HS)
  clear c6 lb
  obtain ⟨w2,hw2⟩:∃ w2,w2=w1.alloc (.cells #[.int .i64 ak,.int .i64 ac,.float .f64 ax,.bool af] 139):=⟨_,rfl⟩
  have HB2:Hid (w2.heap[w1.heap.size]?=some (.cells #[.int .i64 ak,.int .i64 ac,.float .f64 ax,.bool af] 139 (0,0))∧DMid W R0 bd z bw gw w2 { x with m:=M } ws n):=by rw [hw2];exact ⟨heap_alloc_new _ _,HQ.out.alloc _⟩
  rw [← hw2]
  clear hw2
  have HNA:Hid (w1.heap.size≠bd∧w1.heap.size≠bw∧w1.heap.size≠gw):=by
    have a1:=HQ.out.ltB
    have a2:=HQ.out.words.ltB
    have a3:=HQ.out.words.ltG
    exact ⟨by omega,by omega,by omega⟩
  obtain ⟨ga,hga⟩:∃ ga,w1.heap.size=ga:=⟨_,rfl⟩
  rw [hga] at HB2 HNA ⊢
  clear hga HQ l1
  obtain ⟨d4,d6,d10,db⟩:=HC4.out _ _ _ HB2.out.2
  have a1:w2.cell? ⟨ga,1,none⟩=some (.int .i64 ac):=(cell_of_row _ _ 1 _ _ _ HB2.out.1).trans rfl
  have al:=lt_of_block HB2.out.1
  refine wp_region_seq (fun v=>v.cell? ⟨bd,4,none⟩=some (.int .i64 p4)∧v.cell? ⟨ga,1,none⟩=some (.int .i64 ac) )  ((0,true)::(1,true)::(2,true)::(3,true)::(4,true)::(5,true)::(6,true)::(7,true)::(8,true)::(9,true)::(10,true)::[])  Md.Cv.follows13 (by kernel_rfl) (fun _ _ _ _ _ h=>h)  ⟨d4,a1⟩ ?_
  (repeat ((first | (refine wpSeq_take (v:=?_) rfl (by rfl) (fun wq hSq=>?_) ?_;rotate_left;(focus ((try dsimp only at hSq);go_simp;try with_reducible rfl))) | refine wpSeq_skip rfl (by rfl) ?_);simp only [Act.put,List.setIfInBounds_toArray,List.set_cons_zero,List.set_cons_succ]))
  refine wpSeq_nil ?_
  obtain ⟨w3,hw3⟩:∃ w3,w3=w2.drew:=⟨_,rfl⟩
  have HB3:Hid (w3.heap[ga]?=some (.cells #[.int .i64 ak,.int .i64 ac,.float .f64 ax,.bool af] 139 (0,0))∧DMid W R0 bd z bw gw w3 { x with m:=M } ws n):=by rw [hw3];exact ⟨HB2.out.1,HB2.out.2.drew⟩
  rw [← hw3]
  clear hw3 d4 d6 d10 db a1 al HB2
  obtain ⟨d4,d6,d10,db⟩:=HC4.out _ _ _ HB3.out.2
  have a0:w3.cell? ⟨ga,0,none⟩=some (.int .i64 ak):=(cell_of_row _ _ 0 _ _ _ HB3.out.1).trans rfl
  have a3:w3.cell? ⟨ga,3,none⟩=some (.bool af):=(cell_of_row _ _ 3 _ _ _ HB3.out.1).trans rfl
  have al:=lt_of_block HB3.out.1
  rcases h3 with h3 | ⟨h3,rfl⟩
  · go_wp2_with fail
    go_end0
    exact ⟨rfl,HB3.out.2⟩
  · go_wp2_with fail
    go_end0
    exact ⟨rfl,HB3.out.2⟩
set_option maxRecDepth 100000 in
set_option maxHeartbeats 2000000 in
theorem drun_end (h:DMid W R0 bd z bw gw w x ws n) (hI:Inv x.m) {M:Mac} {A:Ask} (hM:(stepM x.m).1=M) (hA:(stepM x.m).2=A) (hk:A.kind=4) {pt:Nat} (hh:((M.how == 1)=true∧pt=5)∨((M.how == 1)=false∧pt=8)):Calls Tryz.prog 42 #[.pointer (some ⟨bd,0,none⟩),.pointer (some ⟨bw,0,none⟩)] w fun e w'=>e=.returned (.tuple #[])∧DMid W R0 bd z bw gw w' { x with m:=M,part:=pt } ws n:=by
  have HS:=Lib.hid (h.step hI hM hA)
  rw [hk] at HS
  have c6:w.cell? ⟨bd,6,none⟩=some (.pointer (some ⟨z.br,0,none⟩)):=h.cell 6 (fun _=>rfl)
  have lb:=h.ltB
  obtain ⟨p4,hp4⟩:∃ p4,3+x.b=p4:=⟨_,rfl⟩
  have HC4:Hid (∀ u ws n,DMid W R0 bd z bw gw u { x with m:=M } ws n→u.cell? ⟨bd,4,none⟩=some (.int .i64 p4)∧u.cell? ⟨bd,6,none⟩=some (.pointer (some ⟨z.br,0,none⟩))∧u.cell? ⟨bd,10,none⟩=some (.int .i64 (x.part:Int))∧bd<u.heap.size):=fun u ws n k=>⟨by rw [← hp4];exact k.cell 4 (fun _=>rfl),k.cell 6 (fun _=>rfl),k.cell 10 (fun _=>rfl),k.ltB⟩
  have HHW:Hid (∀ u,DMid W R0 bd z bw gw u { x with m:=M } ws n→u.cell? ⟨z.br,14,none⟩=some (.int .i64 M.how)∧z.br<u.heap.size):=fun u k=>k.how
  clear h hM hA hI hp4 hk
  obtain ⟨ak,ac,ax,af⟩:=A
  dsimp only at *
  go_enter Tryz.func42,Tryz.ntmps42
  go_wp2_with (go_at_call 74;refine HS.out.mono ?_;rintro e w1 ⟨rfl,k⟩;have HQ:=Lib.hid k;have l1:=k.ltB;clear k HS)
  clear c6 lb
  obtain ⟨w2,hw2⟩:∃ w2,w2=w1.alloc (.cells #[.int .i64 4,.int .i64 ac,.float .f64 ax,.bool af] 139):=⟨_,rfl⟩
  have HB2:Hid (w2.heap[w1.heap.size]?=some (.cells #[.int .i64 4,.int .i64 ac,.float .f64 ax,.bool af] 139 (0,0))∧DMid W R0 bd z bw gw w2 { x with m:=M } ws n):=by rw [hw2];exact ⟨heap_alloc_new _ _,HQ.out.alloc _⟩
  rw [← hw2]
  clear hw2
  have HNA:Hid (w1.heap.size≠bd∧w1.heap.size≠bw∧w1.heap.size≠gw):=by
    have a1:=HQ.out.ltB
    have a2:=HQ.out.words.ltB
    have a3:=HQ.out.words.ltG
    exact ⟨by omega,by omega,by omega⟩
  obtain ⟨ga,hga⟩:∃ ga,w1.heap.size=ga:=⟨_,rfl⟩
  rw [hga] at HB2 HNA ⊢
  clear hga HQ l1
  obtain ⟨d4,d6,d10,db⟩:=HC4.out _ _ _ HB2.out.2
  have a1:w2.cell? ⟨ga,1,none⟩=some (.int .i64 ac):=(cell_of_row _ _ 1 _ _ _ HB2.out.1).trans rfl
  have al:=lt_of_block HB2.out.1
  refine wp_region_seq (fun v=>v.cell? ⟨bd,4,none⟩=some (.int .i64 p4)∧v.cell? ⟨ga,1,none⟩=some (.int .i64 ac) )  ((0,true)::(1,true)::(2,true)::(3,true)::(4,true)::(5,true)::(6,true)::(7,true)::(8,true)::(9,true)::(10,true)::[])  Md.Cv.follows13 (by kernel_rfl) (fun _ _ _ _ _ h=>h)  ⟨d4,a1⟩ ?_
  (repeat ((first | (refine wpSeq_take (v:=?_) rfl (by rfl) (fun wq hSq=>?_) ?_;rotate_left;(focus ((try dsimp only at hSq);go_simp;try with_reducible rfl))) | refine wpSeq_skip rfl (by rfl) ?_);simp only [Act.put,List.setIfInBounds_toArray,List.set_cons_zero,List.set_cons_succ]))
  refine wpSeq_nil ?_
  obtain ⟨w3,hw3⟩:∃ w3,w3=w2.drew:=⟨_,rfl⟩
  have HB3:Hid (w3.heap[ga]?=some (.cells #[.int .i64 4,.int .i64 ac,.float .f64 ax,.bool af] 139 (0,0))∧DMid W R0 bd z bw gw w3 { x with m:=M } ws n):=by rw [hw3];exact ⟨HB2.out.1,HB2.out.2.drew⟩
  rw [← hw3]
  clear hw3 d4 d6 d10 db a1 al HB2
  obtain ⟨d4,d6,d10,db⟩:=HC4.out _ _ _ HB3.out.2
  have a0:w3.cell? ⟨ga,0,none⟩=some (.int .i64 4):=(cell_of_row _ _ 0 _ _ _ HB3.out.1).trans rfl
  have a3:w3.cell? ⟨ga,3,none⟩=some (.bool af):=(cell_of_row _ _ 3 _ _ _ HB3.out.1).trans rfl
  have al:=lt_of_block HB3.out.1
  obtain ⟨hw,hwl⟩:=HHW.out _ HB3.out.2
  have HZ:=Lib.hid (HB3.out.2.put 10 (.int .i64 (pt:Int)) { x with m:=M,part:=pt } (fun _=>rfl) rfl rfl rfl)
  have f10:=HB3.out.2.free 10
  generalize M.how=hm at hh hw
  clear HHW HB3 HC4
  rcases hh with ⟨hh,rfl⟩ | ⟨hh,rfl⟩
  · go_wp2_with fail
    go_end0
    exact ⟨rfl,HZ.out⟩
  · go_wp2_with fail
    go_end0
    exact ⟨rfl,HZ.out⟩
set_option maxRecDepth 100000 in
set_option maxHeartbeats 2000000 in
theorem drun_read (h:DMid W R0 bd z bw gw w x ws n) (hI:Inv x.m) (hI2:Inv (stepM x.m).1) (ha:1≤x.a∧x.a≤256) (hb8:1≤x.b∧x.b≤8) (hl:plY x≤(ws.length:Int)) {M:Mac} {A:Ask} (hM:(stepM x.m).1=M) (hA:(stepM x.m).2=A) (hk:A.kind=1) (h0:0≤A.cell) (h1:A.cell<x.a) {y:Nat} (hy:nowN x ws A.cell=y):Calls Tryz.prog 42 #[.pointer (some ⟨bd,0,none⟩),.pointer (some ⟨bw,0,none⟩)] w fun e w'=>e=.returned (.tuple #[])∧DMid W R0 bd z bw gw w' { x with m:=giveM M y } ws (up n):=by
  have HS:=Lib.hid (h.step hI hM hA)
  rw [hk] at HS
  have c6:w.cell? ⟨bd,6,none⟩=some (.pointer (some ⟨z.br,0,none⟩)):=h.cell 6 (fun _=>rfl)
  have lb:=h.ltB
  obtain ⟨p4,hp4⟩:∃ p4,3+x.b=p4:=⟨_,rfl⟩
  have HC4:Hid (∀ u ws n,DMid W R0 bd z bw gw u { x with m:=M } ws n→u.cell? ⟨bd,4,none⟩=some (.int .i64 p4)∧u.cell? ⟨bd,6,none⟩=some (.pointer (some ⟨z.br,0,none⟩))∧u.cell? ⟨bd,10,none⟩=some (.int .i64 (x.part:Int))∧bd<u.heap.size):=fun u ws n k=>⟨by rw [← hp4];exact k.cell 4 (fun _=>rfl),k.cell 6 (fun _=>rfl),k.cell 10 (fun _=>rfl),k.ltB⟩
  have hat:0≤p4+3*A.cell+1∧p4+3*A.cell+1<(ws.length:Int)∧atC x A.cell 1=p4+3*A.cell+1:=by
    unfold plY at hl
    unfold atC
    omega
  have HLD:Hid (∀ u,DMid W R0 bd z bw gw u { x with m:=M } ws n→Calls Tryz.prog 41 #[.pointer (some ⟨bw,0,none⟩),.int .i64 (p4+3*A.cell+1)] u fun e w'=>e=.returned (.int .u64 (wordAt ws (p4+3*A.cell+1)))∧DMid W R0 bd z bw gw w' { x with m:=M } ws (up n)):=fun u k=>k.load hat.1 hat.2.1
  have HNU:Hid (∀ u,Calls Tryz.prog 76 #[.int .u64 (wordAt ws (p4+3*A.cell+1))] u fun e w'=>e=.returned (.float .f64 y)∧w'=u):=fun u=>by
    have:=number_any (wordAt ws (p4+3*A.cell+1)) u
    rw [← hy]
    unfold nowN
    rw [hat.2.2]
    exact this
  generalize wordAt ws (p4+3*A.cell+1)=u0 at HLD HNU
  have hV3:=Go.IntWalk.i64_in (3*A.cell) (by omega)
  have hV4:=Go.IntWalk.i64_in (p4+3*A.cell) (by omega)
  have hV5:=Go.IntWalk.i64_in (p4+3*A.cell+1) (by omega)
  have HV:=Lib.hid (And.intro hV3 (And.intro hV4 hV5))
  have HGV:Hid (∀ u,DMid W R0 bd z bw gw u { x with m:=M } ws (up n)→Calls Tryz.prog 75 #[.pointer (some ⟨z.br,0,none⟩),.float .f64 y] u fun e w'=>e=.returned (.int .i64 (giveE M))∧DMid W R0 bd z bw gw w' { x with m:=giveM M y } ws (up n)):=fun u k=>k.give (hM ▸ hI2) y rfl
  generalize giveE M=gE at HGV
  clear h hM hA hI hp4 hk hI2 ha hb8 hl h0 h1 hy hat hV3 hV4 hV5
  obtain ⟨ak,ac,ax,af⟩:=A
  dsimp only at *
  go_enter Tryz.func42,Tryz.ntmps42
  go_wp2_with (go_at_call 74;refine HS.out.mono ?_;rintro e w1 ⟨rfl,k⟩;have HQ:=Lib.hid k;have l1:=k.ltB;clear k HS)
  clear c6 lb
  obtain ⟨w2,hw2⟩:∃ w2,w2=w1.alloc (.cells #[.int .i64 1,.int .i64 ac,.float .f64 ax,.bool af] 139):=⟨_,rfl⟩
  have HB2:Hid (w2.heap[w1.heap.size]?=some (.cells #[.int .i64 1,.int .i64 ac,.float .f64 ax,.bool af] 139 (0,0))∧DMid W R0 bd z bw gw w2 { x with m:=M } ws n):=by rw [hw2];exact ⟨heap_alloc_new _ _,HQ.out.alloc _⟩
  rw [← hw2]
  clear hw2
  have HNA:Hid (w1.heap.size≠bd∧w1.heap.size≠bw∧w1.heap.size≠gw):=by
    have a1:=HQ.out.ltB
    have a2:=HQ.out.words.ltB
    have a3:=HQ.out.words.ltG
    exact ⟨by omega,by omega,by omega⟩
  obtain ⟨ga,hga⟩:∃ ga,w1.heap.size=ga:=⟨_,rfl⟩
  rw [hga] at HB2 HNA ⊢
  clear hga HQ l1
  obtain ⟨d4,d6,d10,db⟩:=HC4.out _ _ _ HB2.out.2
  have a1:w2.cell? ⟨ga,1,none⟩=some (.int .i64 ac):=(cell_of_row _ _ 1 _ _ _ HB2.out.1).trans rfl
  have al:=lt_of_block HB2.out.1
  refine wp_region_seq (fun v=>v.cell? ⟨bd,4,none⟩=some (.int .i64 p4)∧v.cell? ⟨ga,1,none⟩=some (.int .i64 ac) )  ((0,true)::(1,true)::(2,true)::(3,true)::(4,true)::(5,true)::(6,true)::(7,true)::(8,true)::(9,true)::(10,true)::[])  Md.Cv.follows13 (by kernel_rfl) (fun _ _ _ _ _ h=>h)  ⟨d4,a1⟩ ?_
  (repeat ((first | (refine wpSeq_take (v:=?_) rfl (by rfl) (fun wq hSq=>?_) ?_;rotate_left;(focus ((try dsimp only at hSq);go_simp;try with_reducible rfl))) | refine wpSeq_skip rfl (by rfl) ?_);simp only [Act.put,List.setIfInBounds_toArray,List.set_cons_zero,List.set_cons_succ]))
  refine wpSeq_nil ?_
  obtain ⟨w3,hw3⟩:∃ w3,w3=w2.drew:=⟨_,rfl⟩
  have HB3:Hid (w3.heap[ga]?=some (.cells #[.int .i64 1,.int .i64 ac,.float .f64 ax,.bool af] 139 (0,0))∧DMid W R0 bd z bw gw w3 { x with m:=M } ws n):=by rw [hw3];exact ⟨HB2.out.1,HB2.out.2.drew⟩
  rw [← hw3]
  clear hw3 d4 d6 d10 db a1 al HB2
  obtain ⟨d4,d6,d10,db⟩:=HC4.out _ _ _ HB3.out.2
  have a0:w3.cell? ⟨ga,0,none⟩=some (.int .i64 1):=(cell_of_row _ _ 0 _ _ _ HB3.out.1).trans rfl
  have a3:w3.cell? ⟨ga,3,none⟩=some (.bool af):=(cell_of_row _ _ 3 _ _ _ HB3.out.1).trans rfl
  have al:=lt_of_block HB3.out.1
  rw [HV.out.1,HV.out.2.1,HV.out.2.2]
  clear HV
  go_upto_region 3 with fail
  refine wp_region_seq (fun v=>v.cell? ⟨bd,6,none⟩=some (.pointer (some ⟨z.br,0,none⟩)) )  ((0,true)::(1,true)::(2,true)::(3,true)::(4,true)::(5,true)::(6,false)::(7,false)::(8,false)::[])  Md.Cv.follows13 (by kernel_rfl) (fun _ _ _ _ _ h=>h)  d6 ?_
  (repeat ((first | (refine wpSeq_take (v:=?_) rfl (by rfl) (fun wq hSq=>?_) ?_;rotate_left;(focus ((try dsimp only at hSq);go_simp;try with_reducible rfl))) | refine wpSeq_skip rfl (by rfl) ?_);simp only [Act.put,List.setIfInBounds_toArray,List.set_cons_zero,List.set_cons_succ]))
  (refine wpSeq_do rfl (by rfl) (fun KK hK=>?_);go_simp)
  refine (HLD.out _ HB3.out.2.drew).mono ?_
  rintro e w4 ⟨rfl,k⟩
  have H4:=Lib.hid k
  obtain ⟨_,e6,_,eb⟩:=HC4.out _ _ _ k
  refine hK.out _ _ e6 ?_
  clear k
  (clear hK KK;try simp only [Act.put,List.setIfInBounds_toArray,List.set_cons_zero,List.set_cons_succ])
  (refine wpSeq_do rfl (by rfl) (fun KK hK=>?_);go_simp)
  refine (HNU.out _).mono ?_
  rintro e w5 ⟨rfl,hw⟩
  subst w5
  refine hK.out _ _ e6 ?_
  (clear hK KK;try simp only [Act.put,List.setIfInBounds_toArray,List.set_cons_zero,List.set_cons_succ])
  (refine wpSeq_do rfl (by rfl) (fun KK hK=>?_);go_simp)
  refine (HGV.out _ H4.out).mono ?_
  rintro e w5 ⟨rfl,k⟩
  have H5:=Lib.hid k
  have g6:w5.cell? ⟨bd,6,none⟩=some (.pointer (some ⟨z.br,0,none⟩)):=k.cell 6 (fun _=>rfl)
  refine hK.out _ _ g6 ?_
  clear k
  (clear hK KK;try simp only [Act.put,List.setIfInBounds_toArray,List.set_cons_zero,List.set_cons_succ])
  refine wpSeq_nil ?_
  go_wp2_with fail
  go_end0
  exact ⟨rfl,H5.out⟩
section
attribute [local go_sem] bits_run
set_option maxRecDepth 100000 in
set_option maxHeartbeats 2000000 in
theorem drun_first (h:DMid W R0 bd z bw gw w x ws n) (hI:Inv x.m) (ha:1≤x.a∧x.a≤256) (hb8:1≤x.b∧x.b≤8) (hl:plY x≤(ws.length:Int)) (hfew:x.was.length≤1000) {M:Mac} {A:Ask} (hM:(stepM x.m).1=M) (hA:(stepM x.m).2=A) (hk:A.kind=3) (hf:A.first=true) (h0:0≤A.cell) (h1:A.cell<x.a) {y:Nat} (hy:nowN x ws A.cell=y):Calls Tryz.prog 42 #[.pointer (some ⟨bd,0,none⟩),.pointer (some ⟨bw,0,none⟩)] w fun e w'=>e=.returned (.tuple #[])∧DMid W R0 bd z bw gw w' { x with m:=M,was:=x.was ++ [y] } ws (up n):=by
  have HS:=Lib.hid (h.step hI hM hA)
  rw [hk,hf] at HS
  have c6:w.cell? ⟨bd,6,none⟩=some (.pointer (some ⟨z.br,0,none⟩)):=h.cell 6 (fun _=>rfl)
  have lb:=h.ltB
  obtain ⟨p4,hp4⟩:∃ p4,3+x.b=p4:=⟨_,rfl⟩
  have HC4:Hid (∀ u ws n,DMid W R0 bd z bw gw u { x with m:=M } ws n→u.cell? ⟨bd,4,none⟩=some (.int .i64 p4)∧u.cell? ⟨bd,6,none⟩=some (.pointer (some ⟨z.br,0,none⟩))∧u.cell? ⟨bd,10,none⟩=some (.int .i64 (x.part:Int))∧bd<u.heap.size):=fun u ws n k=>⟨by rw [← hp4];exact k.cell 4 (fun _=>rfl),k.cell 6 (fun _=>rfl),k.cell 10 (fun _=>rfl),k.ltB⟩
  have hat:0≤p4+3*A.cell+1∧p4+3*A.cell+1<(ws.length:Int)∧atC x A.cell 1=p4+3*A.cell+1:=by
    unfold plY at hl
    unfold atC
    omega
  have HLD:Hid (∀ u,DMid W R0 bd z bw gw u { x with m:=M } ws n→Calls Tryz.prog 41 #[.pointer (some ⟨bw,0,none⟩),.int .i64 (p4+3*A.cell+1)] u fun e w'=>e=.returned (.int .u64 (wordAt ws (p4+3*A.cell+1)))∧DMid W R0 bd z bw gw w' { x with m:=M } ws (up n)∧∀ j,w'.cell? ⟨bd,j,none⟩=u.cell? ⟨bd,j,none⟩):=fun u k=>k.load2 hat.1 hat.2.1
  have HNU:Hid (∀ u,Calls Tryz.prog 76 #[.int .u64 (wordAt ws (p4+3*A.cell+1))] u fun e w'=>e=.returned (.float .f64 y)∧w'=u):=fun u=>by
    have:=number_any (wordAt ws (p4+3*A.cell+1)) u
    rw [← hy]
    unfold nowN
    rw [hat.2.2]
    exact this
  generalize wordAt ws (p4+3*A.cell+1)=u0 at HLD HNU
  have hV3:=Go.IntWalk.i64_in (3*A.cell) (by omega)
  have hV4:=Go.IntWalk.i64_in (p4+3*A.cell) (by omega)
  have hV5:=Go.IntWalk.i64_in (p4+3*A.cell+1) (by omega)
  have HV:=Lib.hid (And.intro hV3 (And.intro hV4 hV5))
  have HAP:Hid (∀ u,DMid W R0 bd z bw gw u { x with m:=M } ws (up n)→_):=fun u k=>DMid.app (x:={ x with m:=M }) k hfew y
  have HAP0:Hid (∀ u,DMid W R0 bd z bw gw u { x with m:=M } ws n→_):=fun u k=>DMid.app (x:={ x with m:=M }) k hfew y
  clear h hM hA hI hp4 hk ha hb8 hl h0 h1 hy hat hV3 hV4 hV5 hf
  obtain ⟨ak,ac,ax,af⟩:=A
  dsimp only at *
  go_enter Tryz.func42,Tryz.ntmps42
  go_wp2_with (go_at_call 74;refine HS.out.mono ?_;rintro e w1 ⟨rfl,k⟩;have HQ:=Lib.hid k;have l1:=k.ltB;clear k HS)
  clear c6 lb
  obtain ⟨w2,hw2⟩:∃ w2,w2=w1.alloc (.cells #[.int .i64 3,.int .i64 ac,.float .f64 ax,.bool true] 139):=⟨_,rfl⟩
  have HB2:Hid (w2.heap[w1.heap.size]?=some (.cells #[.int .i64 3,.int .i64 ac,.float .f64 ax,.bool true] 139 (0,0))∧DMid W R0 bd z bw gw w2 { x with m:=M } ws n):=by rw [hw2];exact ⟨heap_alloc_new _ _,HQ.out.alloc _⟩
  rw [← hw2]
  clear hw2
  have HNA:Hid (w1.heap.size≠bd∧w1.heap.size≠bw∧w1.heap.size≠gw):=by
    have a1:=HQ.out.ltB
    have a2:=HQ.out.words.ltB
    have a3:=HQ.out.words.ltG
    exact ⟨by omega,by omega,by omega⟩
  obtain ⟨ga,hga⟩:∃ ga,w1.heap.size=ga:=⟨_,rfl⟩
  rw [hga] at HB2 HNA ⊢
  clear hga HQ l1
  obtain ⟨d4,d6,d10,db⟩:=HC4.out _ _ _ HB2.out.2
  have a1:w2.cell? ⟨ga,1,none⟩=some (.int .i64 ac):=(cell_of_row _ _ 1 _ _ _ HB2.out.1).trans rfl
  have al:=lt_of_block HB2.out.1
  refine wp_region_seq (fun v=>v.cell? ⟨bd,4,none⟩=some (.int .i64 p4)∧v.cell? ⟨ga,1,none⟩=some (.int .i64 ac) )  ((0,true)::(1,true)::(2,true)::(3,true)::(4,true)::(5,true)::(6,true)::(7,true)::(8,true)::(9,true)::(10,true)::[])  Md.Cv.follows13 (by kernel_rfl) (fun _ _ _ _ _ h=>h)  ⟨d4,a1⟩ ?_
  (repeat ((first | (refine wpSeq_take (v:=?_) rfl (by rfl) (fun wq hSq=>?_) ?_;rotate_left;(focus ((try dsimp only at hSq);go_simp;try with_reducible rfl))) | refine wpSeq_skip rfl (by rfl) ?_);simp only [Act.put,List.setIfInBounds_toArray,List.set_cons_zero,List.set_cons_succ]))
  refine wpSeq_nil ?_
  obtain ⟨w3,hw3⟩:∃ w3,w3=w2.drew:=⟨_,rfl⟩
  have HB3:Hid (w3.heap[ga]?=some (.cells #[.int .i64 3,.int .i64 ac,.float .f64 ax,.bool true] 139 (0,0))∧DMid W R0 bd z bw gw w3 { x with m:=M } ws n):=by rw [hw3];exact ⟨HB2.out.1,HB2.out.2.drew⟩
  rw [← hw3]
  clear hw3 d4 d6 d10 db a1 al HB2
  obtain ⟨d4,d6,d10,db⟩:=HC4.out _ _ _ HB3.out.2
  have a0:w3.cell? ⟨ga,0,none⟩=some (.int .i64 3):=(cell_of_row _ _ 0 _ _ _ HB3.out.1).trans rfl
  have a3:w3.cell? ⟨ga,3,none⟩=some (.bool true):=(cell_of_row _ _ 3 _ _ _ HB3.out.1).trans rfl
  have al:=lt_of_block HB3.out.1
  rw [HV.out.1,HV.out.2.1,HV.out.2.2]
  clear HV
  obtain ⟨pq,kq,cq,q1,q2,q3,q4,_⟩:=HAP0.out _ HB3.out.2
  have hkl:kq≤1000:=by have q3':x.was.length=kq:=q3;omega
  have hwr:IntKind.i64.wrap (kq:Int)=kq:=by rw [IntKind.wrap_i64];omega
  clear q3 HAP0
  go_upto_region 5 with fail
  rcases q4 with ⟨rfl,rfl⟩ | ⟨g0,o0,rfl⟩
  · simp only [Int.cast_ofNat_Int] at hwr q2
    refine wp_region_seqE (fun v=>v.cell? ⟨bd,13,none⟩=some (.slice none 0 cq) )  ((0,true)::(1,true)::(2,true)::(3,true)::(4,true)::(5,true)::(6,true)::(7,true)::(8,true)::(9,true)::(10,true)::(11,true)::(12,true)::(13,true)::(14,true)::(15,true)::(16,true)::(17,true)::(18,false)::(19,false)::(20,false)::(21,false)::(22,false)::(23,true)::(24,true)::(25,false)::[])  Md.Cv.follows13 (by kernel_rfl) (fun _ _ _ _ _ h=>h)  q1 ?_
    (repeat (refine wpSeqE_take (v:=?_) rfl (by rfl) (fun wq hSq=>?_) ?_;rotate_left;(focus ((try dsimp only at hSq);go_simp;try with_reducible rfl));simp only [Act.put,List.setIfInBounds_toArray,List.set_cons_zero,List.set_cons_succ]))
    (refine wpSeqE_do rfl (by rfl) (fun KK hK=>?_);go_simp)
    refine (HLD.out _ HB3.out.2.drew).mono ?_
    rintro e w4 ⟨rfl,k,kc⟩
    have e1:w4.cell? ⟨bd,13,none⟩=some (.slice none 0 cq):=(kc 13).trans q1
    obtain ⟨p',k',c',e1',_,_,_,e5⟩:=HAP.out _ k
    rw [e1] at e1'
    cases e1'
    have H5:=Lib.hid e5
    refine hK.out _ _ (fun _=>e1) ?_
    clear k kc e5
    (clear hK KK;try simp only [Act.put,List.setIfInBounds_toArray,List.set_cons_zero,List.set_cons_succ])
    (refine wpSeqE_do rfl (by rfl) (fun KK hK=>?_);go_simp)
    refine (HNU.out _).mono ?_
    rintro e w5 ⟨rfl,hw⟩
    subst w5
    refine hK.out _ _ (fun _=>e1) ?_
    (clear hK KK;try simp only [Act.put,List.setIfInBounds_toArray,List.set_cons_zero,List.set_cons_succ])
    (refine wpSeqE_do rfl (by rfl) (fun KK hK=>?_);go_simp)
    refine hK.out _ _ (fun _=>e1) ?_
    (clear hK KK;try simp only [Act.put,List.setIfInBounds_toArray,List.set_cons_zero,List.set_cons_succ])
    (refine wpSeqE_do rfl (by rfl) (fun KK hK=>?_);go_simp)
    refine hK.out _ _ (fun _=>(H5.out _ (below_alloc w4 _)).1.1) ?_
    (clear hK KK;try simp only [Act.put,List.setIfInBounds_toArray,List.set_cons_zero,List.set_cons_succ])
    refine wpSeqE_do rfl (by rfl) (fun KK hK=>?_)
    refine wp_append_ex _ _ _ _ rfl _ _ rfl rfl ((H5.out (w4.alloc (.cells #[.int .u64 (y:Int)] 53)) (below_alloc w4 _)).2 w4.heap.size _ ((cell_of_row _ _ 0 _ _ _ (heap_alloc_new w4 _)).trans rfl)) ?_
    rintro v6 w6 ⟨gq,nq,cq2,rfl,hq0,hq1,hq2,hq3⟩
    refine hK.out _ _ (fun _=>hq1) ?_
    (clear hK KK;try simp only [Act.put,List.setIfInBounds_toArray,List.set_cons_zero,List.set_cons_succ])
    (repeat (refine wpSeqE_take (v:=?_) rfl (by rfl) (fun wq hSq=>?_) ?_;rotate_left;(focus ((try dsimp only at hSq);go_simp;try with_reducible rfl));simp only [Act.put,List.setIfInBounds_toArray,List.set_cons_zero,List.set_cons_succ]))
    (refine wpSeqE_do rfl (by rfl) (fun KK hK=>?_);go_simp)
    refine hK.out _ _ (fun hn=>absurd rfl hn) ?_
    (clear hK KK;try simp only [Act.put])
    refine wpSeqE_nil ?_
    go_wp2_with fail
    go_end0
    exact ⟨rfl,hq0.out⟩
  · skip
    refine wp_region_seqE (fun v=>v.cell? ⟨bd,13,none⟩=some (.slice (some ⟨g0,o0,none⟩) kq cq) )  ((0,true)::(1,true)::(2,true)::(3,true)::(4,true)::(5,true)::(6,true)::(7,true)::(8,true)::(9,true)::(10,true)::(11,true)::(12,true)::(13,true)::(14,true)::(15,true)::(16,true)::(17,true)::(18,false)::(19,false)::(20,false)::(21,false)::(22,false)::(23,true)::(24,true)::(25,false)::[])  Md.Cv.follows13 (by kernel_rfl) (fun _ _ _ _ _ h=>h)  q1 ?_
    (repeat (refine wpSeqE_take (v:=?_) rfl (by rfl) (fun wq hSq=>?_) ?_;rotate_left;(focus ((try dsimp only at hSq);go_simp;try with_reducible rfl));simp only [Act.put,List.setIfInBounds_toArray,List.set_cons_zero,List.set_cons_succ]))
    (refine wpSeqE_do rfl (by rfl) (fun KK hK=>?_);go_simp)
    refine (HLD.out _ HB3.out.2.drew).mono ?_
    rintro e w4 ⟨rfl,k,kc⟩
    have e1:w4.cell? ⟨bd,13,none⟩=some (.slice (some ⟨g0,o0,none⟩) kq cq):=(kc 13).trans q1
    obtain ⟨p',k',c',e1',_,_,_,e5⟩:=HAP.out _ k
    rw [e1] at e1'
    cases e1'
    have H5:=Lib.hid e5
    refine hK.out _ _ (fun _=>e1) ?_
    clear k kc e5
    (clear hK KK;try simp only [Act.put,List.setIfInBounds_toArray,List.set_cons_zero,List.set_cons_succ])
    (refine wpSeqE_do rfl (by rfl) (fun KK hK=>?_);go_simp)
    refine (HNU.out _).mono ?_
    rintro e w5 ⟨rfl,hw⟩
    subst w5
    refine hK.out _ _ (fun _=>e1) ?_
    (clear hK KK;try simp only [Act.put,List.setIfInBounds_toArray,List.set_cons_zero,List.set_cons_succ])
    (refine wpSeqE_do rfl (by rfl) (fun KK hK=>?_);go_simp)
    refine hK.out _ _ (fun _=>e1) ?_
    (clear hK KK;try simp only [Act.put,List.setIfInBounds_toArray,List.set_cons_zero,List.set_cons_succ])
    (refine wpSeqE_do rfl (by rfl) (fun KK hK=>?_);go_simp)
    refine hK.out _ _ (fun _=>(H5.out _ (below_alloc w4 _)).1.1) ?_
    (clear hK KK;try simp only [Act.put,List.setIfInBounds_toArray,List.set_cons_zero,List.set_cons_succ])
    refine wpSeqE_do rfl (by rfl) (fun KK hK=>?_)
    refine wp_append_ex _ _ _ _ rfl _ _ rfl rfl ((H5.out (w4.alloc (.cells #[.int .u64 (y:Int)] 53)) (below_alloc w4 _)).2 w4.heap.size _ ((cell_of_row _ _ 0 _ _ _ (heap_alloc_new w4 _)).trans rfl)) ?_
    rintro v6 w6 ⟨gq,nq,cq2,rfl,hq0,hq1,hq2,hq3⟩
    refine hK.out _ _ (fun _=>hq1) ?_
    (clear hK KK;try simp only [Act.put,List.setIfInBounds_toArray,List.set_cons_zero,List.set_cons_succ])
    (repeat (refine wpSeqE_take (v:=?_) rfl (by rfl) (fun wq hSq=>?_) ?_;rotate_left;(focus ((try dsimp only at hSq);go_simp;try with_reducible rfl));simp only [Act.put,List.setIfInBounds_toArray,List.set_cons_zero,List.set_cons_succ]))
    (refine wpSeqE_do rfl (by rfl) (fun KK hK=>?_);go_simp)
    refine hK.out _ _ (fun hn=>absurd rfl hn) ?_
    (clear hK KK;try simp only [Act.put])
    refine wpSeqE_nil ?_
    go_wp2_with fail
    go_end0
    exact ⟨rfl,hq0.out⟩
end
end
end Go.Proofs.YteinilmecnlanaaGreatDoor.Ww
namespace Go.Proofs.YteinilmecnlanaaGreatDoor.Rr
open Go.ChangeShapes Go.WideShapes Go.ChangeAt Go.RowKit Num
end Go.Proofs.YteinilmecnlanaaGreatDoor.Rr
namespace Go.Proofs.YteinilmecnlanaaGreatDoor.Ww
open Go.ChangeShapes Go.WideShapes Go.ChangeAt Go.RowKit Num Rr
end Go.Proofs.YteinilmecnlanaaGreatDoor.Ww
namespace Go.Proofs.YteinilmecnlanaaGreatDoor
open Go.ChangeShapes Go.WideShapes Go.ChangeAt Go.RowKit Num
end Go.Proofs.YteinilmecnlanaaGreatDoor
namespace Go.Proofs.YteinilmecnlanaaGreatDoor.Ww
open Go.ChangeShapes Go.WideShapes Go.ChangeAt Go.RowKit Num Rr
theorem buf_cells {x:Wx} (h:InY x):∀ k,k<x.m.buf.length→0≤(x.m.buf.getD k (0,0)).1∧(x.m.buf.getD k (0,0)).1<x.a:=fun k hk=>by
  have e:x.m.buf.getD k (0,0)=x.m.buf[k]:=by simp [hk]
  rw [e,← h.cel]
  exact h.rest.cel _ (List.getElem_mem hk)
end Go.Proofs.YteinilmecnlanaaGreatDoor.Ww
namespace Go.Proofs.YteinilmecnlanaaGreatDoor.Ww
open Go.ChangeShapes Go.WideShapes Go.ChangeAt Go.RowKit Num Rr
set_option linter.unusedVariables false
attribute [local go_sem] run_store_float
section
variable {W w:World} {R0:List Nat} {bd bw gw:Nat} {x:Wx} {z:Dz} {ws:List Int} {n:Int}
section
attribute [local go_sem] bits_run
set_option maxRecDepth 100000 in
set_option maxHeartbeats 4000000 in
theorem dback0 (h:DMid W R0 bd z bw gw w x ws n) (hI:InY x) (hp:x.part=6) (hl:plY x≤(ws.length:Int)) (hr:x.at_ % 3=0):Calls Tryz.prog 43 #[.pointer (some ⟨bd,0,none⟩),.pointer (some ⟨bw,0,none⟩)] w fun e w'=>e=.returned (.tuple #[])∧DMid W R0 bd z bw gw w' (backY x) (backW x ws) (up n):=by
  have h6:=hI.at6 hp
  have hca:=hI.ca
  have hcb:=hI.cb
  have hkb:x.at_ / 3<x.m.buf.length:=by omega
  have hbl:=hI.rest.inv.few
  have hbm:=hI.rest.inv.wmax
  have hcc:=buf_cells hI _ hkb
  have hwl:=hI.wlen
  obtain ⟨cn,hcn⟩:∃ cn:Nat,(x.m.buf.getD (x.at_ / 3) (0,0)).1=(cn:Int):=⟨_,(Int.toNat_of_nonneg hcc.1).symm⟩
  obtain ⟨fx,hfx⟩:∃ fx,(x.m.buf.getD (x.at_ / 3) (0,0)).2=fx:=⟨_,rfl⟩
  obtain ⟨L,hL⟩:∃ L,x.m.buf.length=L:=⟨_,rfl⟩
  obtain ⟨kd,hkd⟩:∃ kd,x.at_ / 3=kd:=⟨_,rfl⟩
  obtain ⟨p4,hp4⟩:∃ p4,3+x.b=p4:=⟨_,rfl⟩
  rw [hcn] at hcc
  have hat:∀ j:Int,0≤j→j<3→0≤p4+3*(cn:Int)+j∧p4+3*(cn:Int)+j<(ws.length:Int)∧atC x (cn:Int) j=p4+3*(cn:Int)+j:=fun j j0 j1=>by
    unfold plY at hl
    unfold atC
    omega
  have E0:backY x={ x with at_:=x.at_+1,part:=if x.at_+1=3*L then 7 else 6 }:=by unfold backY;rw [hL]
  have E1:backW x ws=ws.set (p4+3*(cn:Int)+2).toNat ((x.was.getD kd 0:Nat):Int):=by unfold backW;rw [if_pos hr,hcn,(hat 2 (by omega) (by omega)).2.2,hkd]
  rw [E0,E1]
  obtain ⟨pt,hpt⟩:∃ pt,(if x.at_+1=3*L then 7 else 6:Nat)=pt:=⟨_,rfl⟩
  rw [hpt]
  have HPT:=Lib.hid hpt
  clear hpt
  have HST:Hid (∀ u,DMid W R0 bd z bw gw u x ws n→Calls Tryz.prog 44 #[.pointer (some ⟨bw,0,none⟩),.int .i64 (p4+3*(cn:Int)+2),.int .u64 ((x.was.getD kd 0:Nat):Int)] u fun e w'=>e=.returned (.tuple #[])∧DMid W R0 bd z bw gw w' x (ws.set (p4+3*(cn:Int)+2).toNat ((x.was.getD kd 0:Nat):Int)) (up n)):=fun u k=>k.store ((x.was.getD kd 0:Nat):Int) (hat 2 (by omega) (by omega)).1 (hat 2 (by omega) (by omega)).2.1
  generalize ws.set (p4+3*(cn:Int)+2).toNat ((x.was.getD kd 0:Nat):Int)=ws' at *
  have hwb:=hat 0 (by omega) (by omega)
  have hV3:=Go.IntWalk.i64_in (3*(cn:Int)) (by omega)
  have hV4:=Go.IntWalk.i64_in (p4+3*(cn:Int)) (by omega)
  have hV5:=Go.IntWalk.i64_in (p4+3*(cn:Int)+2) (by omega)
  have HV:=Lib.hid (And.intro hV3 (And.intro hV4 hV5))
  have hb4:4≤p4∧p4≤11:=by omega
  have hc4:cn<256:=by omega
  have HL:=Lib.hid hL
  have HP6:=Lib.hid hp
  have hLb:L≤1000:=by omega
  have HVL:=Lib.hid (Go.IntWalk.i64_in (3*(L:Int)) ⟨by omega,by omega⟩)
  have e3d:(x.at_:Int) / 3=(kd:Int):=by omega
  have e3a:(x.at_:Int).tdiv 3=(kd:Int):=by rw [Int.tdiv_eq_ediv_of_nonneg (by omega)];exact e3d
  have e3c:IntKind.i64.wrap (kd:Int)=(kd:Int):=Go.IntWalk.i64_in _ ⟨by omega,by omega⟩
  have e3r:(x.at_:Int) % 3=0:=by omega
  have e3t:(x.at_:Int).tmod 3=0:=by rw [Int.tmod_eq_emod_of_nonneg (by omega)];exact e3r
  have hkL:kd<L:=by omega
  have hkLi:(kd:Int)<(L:Int):=by omega
  have hab:(x.at_:Int)≤4000:=by omega
  obtain ⟨pb0,cb0,c19,lB,hTL⟩:=h.bufs
  obtain ⟨gb,ob,hgb,lgb,t0,t1⟩:=hTL (x.at_ / 3) hkb
  rw [hcn,hkd] at t0
  rw [hfx,hkd] at t1
  rw [hL] at c19
  subst hgb
  have c6:w.cell? ⟨bd,6,none⟩=some (.pointer (some ⟨z.br,0,none⟩)):=h.cell 6 (fun _=>rfl)
  have c14:w.cell? ⟨bd,14,none⟩=some (.int .i64 (x.at_:Int)):=h.cell 14 (fun _=>rfl)
  have lb:=h.ltB
  have HH:=Lib.hid h
  have HC4:Hid (∀ u,DMid W R0 bd z bw gw u x ws n→u.cell? ⟨bd,4,none⟩=some (.int .i64 p4)∧u.cell? ⟨bd,14,none⟩=some (.int .i64 (x.at_:Int))∧u.cell? ⟨bd,12,none⟩=some (.int .u64 x.stamp)∧bd<u.heap.size):=fun u k=>⟨by rw [← hp4];exact k.cell 4 (fun _=>rfl),k.cell 14 (fun _=>rfl),k.cell 12 (fun _=>rfl),k.ltB⟩
  have HAD:Hid (∀ u,DMid W R0 bd z bw gw u x ws n→∃ g o c,u.cell? ⟨bd,13,none⟩=some (.slice (some ⟨g,o,none⟩) L c)∧u.cell? ⟨g,o+kd,none⟩=some (.int .u64 ((x.was.getD kd 0:Nat):Int))∧g<u.heap.size):=fun u k=>by
    obtain ⟨p,c,k1,k2,_⟩:=k.hads
    have hkw:kd<x.was.length:=by omega
    obtain ⟨g,o,rfl,k3,k4⟩:=k2.get (j:=kd) (v:=.int .u64 ((x.was.getD kd 0:Nat):Int)) (by unfold u64s natI;rw [List.getElem?_map,List.getElem?_map,List.getElem?_eq_getElem hkw,List.getD_eq_getElem?_getD,List.getElem?_eq_getElem hkw];rfl)
    exact ⟨g,o,c,by rw [k1,hwl,hL],k3,k4⟩
  clear h hI hp hl hr h6 hca hcb hkb hbl hbm hcc hwl hcn hfx hL hkd hp4 hat E0 E1 hV3 hV4 hV5 hTL hwb
  go_enter Tryz.func43,Tryz.ntmps43
  go_wp2_with fail
  refine wp_region_seq (fun v=>v.cell? ⟨bd,6,none⟩=some (.pointer (some ⟨z.br,0,none⟩))∧v.cell? ⟨z.br,19,none⟩=some (.slice (some ⟨gb,ob,none⟩) L cb0)∧v.cell? ⟨bd,14,none⟩=some (.int .i64 (x.at_:Int))∧v.cell? ⟨gb,ob+kd*2,none⟩=some (.int .i64 (cn:Int))∧v.cell? ⟨gb,ob+kd*2+1,none⟩=some (.float .f64 fx) )  ((0,true)::(1,true)::(2,true)::(3,true)::(4,true)::(5,true)::(6,true)::(7,true)::(8,true)::(9,true)::(10,true)::(11,true)::(12,true)::(13,true)::(14,false)::(15,false)::[])  Md.Cv.follows13 (by kernel_rfl) (fun _ _ _ _ _ h=>h)  ⟨c6,c19,c14,t0,t1⟩ ?_
  (repeat ((first | (refine wpSeq_take (v:=?_) rfl (by rfl) (fun wq hSq=>?_) ?_;rotate_left;(focus ((try dsimp only at hSq);go_simp;try with_reducible rfl))) | refine wpSeq_skip rfl (by rfl) ?_);simp only [Act.put,List.setIfInBounds_toArray,List.set_cons_zero,List.set_cons_succ]))
  (refine wpSeq_do rfl (by rfl) (fun KK hK=>?_);go_simp)
  have HKo:∀ ob':Obj,(w.alloc ob').cell? ⟨bd,6,none⟩=some (.pointer (some ⟨z.br,0,none⟩))∧(w.alloc ob').cell? ⟨z.br,19,none⟩=some (.slice (some ⟨gb,ob,none⟩) L cb0)∧(w.alloc ob').cell? ⟨bd,14,none⟩=some (.int .i64 (x.at_:Int))∧(w.alloc ob').cell? ⟨gb,ob+kd*2,none⟩=some (.int .i64 (cn:Int))∧(w.alloc ob').cell? ⟨gb,ob+kd*2+1,none⟩=some (.float .f64 fx):=fun ob'=>⟨(World.cell?_alloc_old _ _ _ (Nat.ne_of_lt lb)).trans c6,(World.cell?_alloc_old _ _ _ (Nat.ne_of_lt lB)).trans c19,(World.cell?_alloc_old _ _ _ (Nat.ne_of_lt lb)).trans c14,(World.cell?_alloc_old _ _ _ (Nat.ne_of_lt lgb)).trans t0,(World.cell?_alloc_old _ _ _ (Nat.ne_of_lt lgb)).trans t1⟩
  refine hK.out _ _ (HKo _) ?_
  (clear hK KK;try simp only [Act.put,List.setIfInBounds_toArray,List.set_cons_zero,List.set_cons_succ])
  (refine wpSeq_do rfl (by rfl) (fun KK hK=>?_);go_simp)
  refine hK.out _ _ (HKo _) ?_
  (clear hK KK;try simp only [Act.put])
  refine wpSeq_nil ?_
  obtain ⟨w2,hw2⟩:∃ w2,w2=(w.alloc (.cells #[.int .i64 (cn:Int),.float .f64 fx] 75)).drew:=⟨_,rfl⟩
  have HB2:Hid (w2.heap[w.heap.size]?=some (.cells #[.int .i64 (cn:Int),.float .f64 fx] 75 (0,0))∧DMid W R0 bd z bw gw w2 x ws n):=by rw [hw2];exact ⟨heap_alloc_new _ _,(HH.out.alloc _).drew⟩
  rw [← hw2]
  clear hw2 HKo c6 c19 c14 t0 t1 lB lgb
  have HNA:Hid (w.heap.size≠bd):=(Nat.ne_of_gt lb)
  obtain ⟨ga,hga⟩:∃ ga,w.heap.size=ga:=⟨_,rfl⟩
  rw [hga] at HB2 HNA ⊢
  clear hga HH lb
  obtain ⟨d4,d14,d12,db⟩:=HC4.out _ HB2.out.2
  have q0:w2.cell? ⟨ga,0,none⟩=some (.int .i64 (cn:Int)):=(cell_of_row _ _ 0 _ _ _ HB2.out.1).trans rfl
  have q1:w2.cell? ⟨ga,1,none⟩=some (.float .f64 fx):=(cell_of_row _ _ 1 _ _ _ HB2.out.1).trans rfl
  have ql:=lt_of_block HB2.out.1
  go_upto_region 1 with fail
  refine wp_region_seq (fun v=>v.cell? ⟨bd,4,none⟩=some (.int .i64 p4)∧v.cell? ⟨ga,0,none⟩=some (.int .i64 (cn:Int)) )  ((0,true)::(1,true)::(2,true)::(3,true)::(4,true)::(5,true)::(6,true)::(7,true)::(8,true)::(9,true)::[])  Md.Cv.follows13 (by kernel_rfl) (fun _ _ _ _ _ h=>h)  ⟨d4,q0⟩ ?_
  (repeat ((first | (refine wpSeq_take (v:=?_) rfl (by rfl) (fun wq hSq=>?_) ?_;rotate_left;(focus ((try dsimp only at hSq);go_simp;try with_reducible rfl))) | refine wpSeq_skip rfl (by rfl) ?_);simp only [Act.put,List.setIfInBounds_toArray,List.set_cons_zero,List.set_cons_succ]))
  refine wpSeq_nil ?_
  rw [HV.out.1,HV.out.2.1]
  obtain ⟨w3,hw3⟩:∃ w3,w3=w2.drew:=⟨_,rfl⟩
  have H3:=Lib.hid HB2.out.2.drew
  rw [← hw3] at H3 ⊢
  clear hw3 HB2 d4 d14 d12 db q0 q1 ql
  obtain ⟨d4,d14,d12,db⟩:=HC4.out _ H3.out
  obtain ⟨gw0,ow0,cw0,d13,dw,dgl⟩:=HAD.out _ H3.out
  generalize ((x.was.getD kd 0:Nat):Int)=vv at *
  go_upto_region 4 with fail
  refine wp_region_seqE (fun v=>v.cell? ⟨bd,13,none⟩=some (.slice (some ⟨gw0,ow0,none⟩) L cw0)∧v.cell? ⟨bd,14,none⟩=some (.int .i64 (x.at_:Int))∧v.cell? ⟨gw0,ow0+kd,none⟩=some (.int .u64 vv) )  ((0,true)::(1,true)::(2,true)::(3,true)::(4,true)::(5,true)::(6,true)::(7,true)::(8,true)::(9,true)::(10,true)::(11,true)::(12,true)::(13,true)::(14,false)::[])  Md.Cv.follows13 (by kernel_rfl) (fun _ _ _ _ _ h=>h)  ⟨d13,d14,dw⟩ ?_
  (repeat (refine wpSeqE_take (v:=?_) rfl (by rfl) (fun wq hSq=>?_) ?_;rotate_left;(focus ((try dsimp only at hSq);go_simp;try with_reducible rfl));simp only [Act.put,List.setIfInBounds_toArray,List.set_cons_zero,List.set_cons_succ]))
  rw [HV.out.2.2]
  (refine wpSeqE_do rfl (by rfl) (fun KK hK=>?_);go_simp)
  refine (HST.out _ H3.out.drew).mono ?_
  rintro e w5 ⟨rfl,k⟩
  have H5:=Lib.hid k
  refine hK.out _ _ (fun hn=>absurd rfl hn) ?_
  clear k HST H3 d4 d14 d12 db d13 dw dgl
  (clear hK KK;try simp only [Act.put,List.setIfInBounds_toArray,List.set_cons_zero,List.set_cons_succ])
  refine wpSeqE_nil ?_
  obtain ⟨pb2,cb2,y19,lB2,_⟩:=H5.out.bufs
  have y14:w5.cell? ⟨bd,14,none⟩=some (.int .i64 (x.at_:Int)):=H5.out.cell 14 (fun _=>rfl)
  have y6:w5.cell? ⟨bd,6,none⟩=some (.pointer (some ⟨z.br,0,none⟩)):=H5.out.cell 6 (fun _=>rfl)
  have lb5:=H5.out.ltB
  have f14:=H5.out.free 14
  have H6:=Lib.hid (H5.out.put 14 (.int .i64 ((x.at_:Int)+1)) { x with at_:=x.at_+1 } (fun _=>rfl) rfl rfl rfl)
  rw [HL.out] at y19
  go_upto_region 10 with fail
  obtain ⟨w6,hw6⟩:∃ w6,w6=w5.setCell ⟨bd,14,none⟩ (.int .i64 ((x.at_:Int)+1)):=⟨_,rfl⟩
  rw [← hw6] at H6 ⊢
  clear hw6 y19 y14 y6 lb5 f14 lB2 H5
  obtain ⟨pb3,cb3,y19,lB2,_⟩:=H6.out.bufs
  have y14:w6.cell? ⟨bd,14,none⟩=some (.int .i64 ((x.at_:Int)+1)):=H6.out.cell 14 (fun _=>rfl)
  have y6:w6.cell? ⟨bd,6,none⟩=some (.pointer (some ⟨z.br,0,none⟩)):=H6.out.cell 6 (fun _=>rfl)
  have lb5:=H6.out.ltB
  have y19':w6.cell? ⟨z.br,19,none⟩=some (.slice pb3 L cb3):=by rw [← HL.out];exact y19
  clear y19
  by_cases he:x.at_+1=3*L
  · omega
  · have he':((x.at_:Int)+1 == 3*(L:Int))=false:=by simp;omega
    have ept:pt=6:=by rw [← HPT.out,if_neg he]
    subst ept
    clear he
    refine wp_region_seq (fun v=>v.cell? ⟨bd,14,none⟩=some (.int .i64 ((x.at_:Int)+1))∧v.cell? ⟨bd,6,none⟩=some (.pointer (some ⟨z.br,0,none⟩))∧v.cell? ⟨z.br,19,none⟩=some (.slice pb3 L cb3) )  ((0,true)::(1,true)::(2,true)::(3,true)::(4,true)::(5,true)::(6,true)::(7,true)::(8,true)::(9,true)::(10,true)::(11,true)::(12,true)::(13,true)::[])  Md.Cv.follows13 (by kernel_rfl) (fun _ _ _ _ _ h=>h)  ⟨y14,y6,y19'⟩ ?_
    (repeat ((first | (refine wpSeq_take (v:=?_) rfl (by rfl) (fun wq hSq=>?_) ?_;rotate_left;(focus ((try dsimp only at hSq);go_simp;try with_reducible rfl))) | refine wpSeq_skip rfl (by rfl) ?_);simp only [Act.put,List.setIfInBounds_toArray,List.set_cons_zero,List.set_cons_succ]))
    rw [HVL.out]
    refine wpSeq_nil ?_
    have HZ:Hid (DMid W R0 bd z bw gw w6.drew { x with at_:=x.at_+1,part:=6 } ws' (up n)):=by
      have:=H6.out.drew
      have e:({ x with at_:=x.at_+1 }:Wx)={ x with at_:=x.at_+1,part:=6 }:=by rw [← HP6.out]
      rw [← e]
      exact this
    clear H6
    go_wp2_with fail
    go_end0
    exact ⟨rfl,HZ.out⟩
end
end
end Go.Proofs.YteinilmecnlanaaGreatDoor.Ww
namespace Go.Proofs.YteinilmecnlanaaGreatDoor.Ww
open Go.ChangeShapes Go.WideShapes Go.ChangeAt Go.RowKit Num Rr
set_option linter.unusedVariables false
attribute [local go_sem] run_store_float
section
variable {W w:World} {R0:List Nat} {bd bw gw:Nat} {x:Wx} {z:Dz} {ws:List Int} {n:Int}
section
attribute [local go_sem] bits_run
set_option maxRecDepth 100000 in
set_option maxHeartbeats 4000000 in
theorem dback1 (h:DMid W R0 bd z bw gw w x ws n) (hI:InY x) (hp:x.part=6) (hl:plY x≤(ws.length:Int)) (hr:x.at_ % 3=1):Calls Tryz.prog 43 #[.pointer (some ⟨bd,0,none⟩),.pointer (some ⟨bw,0,none⟩)] w fun e w'=>e=.returned (.tuple #[])∧DMid W R0 bd z bw gw w' (backY x) (backW x ws) (up n):=by
  have h6:=hI.at6 hp
  have hca:=hI.ca
  have hcb:=hI.cb
  have hkb:x.at_ / 3<x.m.buf.length:=by omega
  have hbl:=hI.rest.inv.few
  have hbm:=hI.rest.inv.wmax
  have hcc:=buf_cells hI _ hkb
  have hwl:=hI.wlen
  obtain ⟨cn,hcn⟩:∃ cn:Nat,(x.m.buf.getD (x.at_ / 3) (0,0)).1=(cn:Int):=⟨_,(Int.toNat_of_nonneg hcc.1).symm⟩
  obtain ⟨fx,hfx⟩:∃ fx,(x.m.buf.getD (x.at_ / 3) (0,0)).2=fx:=⟨_,rfl⟩
  obtain ⟨L,hL⟩:∃ L,x.m.buf.length=L:=⟨_,rfl⟩
  obtain ⟨kd,hkd⟩:∃ kd,x.at_ / 3=kd:=⟨_,rfl⟩
  obtain ⟨p4,hp4⟩:∃ p4,3+x.b=p4:=⟨_,rfl⟩
  rw [hcn] at hcc
  have hat:∀ j:Int,0≤j→j<3→0≤p4+3*(cn:Int)+j∧p4+3*(cn:Int)+j<(ws.length:Int)∧atC x (cn:Int) j=p4+3*(cn:Int)+j:=fun j j0 j1=>by
    unfold plY at hl
    unfold atC
    omega
  have E0:backY x={ x with at_:=x.at_+1,part:=if x.at_+1=3*L then 7 else 6 }:=by unfold backY;rw [hL]
  have E1:backW x ws=ws.set (p4+3*(cn:Int)+0).toNat (Md.Cv.passV x.stamp):=by unfold backW;rw [if_neg (by omega),if_pos hr,hcn,(hat 0 (by omega) (by omega)).2.2]
  rw [E0,E1]
  obtain ⟨pt,hpt⟩:∃ pt,(if x.at_+1=3*L then 7 else 6:Nat)=pt:=⟨_,rfl⟩
  rw [hpt]
  have HPT:=Lib.hid hpt
  clear hpt
  have HST:Hid (∀ u,DMid W R0 bd z bw gw u x ws n→Calls Tryz.prog 44 #[.pointer (some ⟨bw,0,none⟩),.int .i64 (p4+3*(cn:Int)+0),.int .u64 (Md.Cv.passV x.stamp)] u fun e w'=>e=.returned (.tuple #[])∧DMid W R0 bd z bw gw w' x (ws.set (p4+3*(cn:Int)+0).toNat (Md.Cv.passV x.stamp)) (up n)):=fun u k=>k.store (Md.Cv.passV x.stamp) (hat 0 (by omega) (by omega)).1 (hat 0 (by omega) (by omega)).2.1
  generalize ws.set (p4+3*(cn:Int)+0).toNat (Md.Cv.passV x.stamp)=ws' at *
  have hwb:=hat 0 (by omega) (by omega)
  have hV3:=Go.IntWalk.i64_in (3*(cn:Int)) (by omega)
  have hV4:=Go.IntWalk.i64_in (p4+3*(cn:Int)) (by omega)
  have hV5:=Go.IntWalk.i64_in (p4+3*(cn:Int)+0) (by omega)
  have HV:=Lib.hid (And.intro hV3 (And.intro hV4 hV5))
  have hb4:4≤p4∧p4≤11:=by omega
  have hc4:cn<256:=by omega
  have HL:=Lib.hid hL
  have HP6:=Lib.hid hp
  have hLb:L≤1000:=by omega
  have HVL:=Lib.hid (Go.IntWalk.i64_in (3*(L:Int)) ⟨by omega,by omega⟩)
  have e3d:(x.at_:Int) / 3=(kd:Int):=by omega
  have e3a:(x.at_:Int).tdiv 3=(kd:Int):=by rw [Int.tdiv_eq_ediv_of_nonneg (by omega)];exact e3d
  have e3c:IntKind.i64.wrap (kd:Int)=(kd:Int):=Go.IntWalk.i64_in _ ⟨by omega,by omega⟩
  have e3r:(x.at_:Int) % 3=1:=by omega
  have e3t:(x.at_:Int).tmod 3=1:=by rw [Int.tmod_eq_emod_of_nonneg (by omega)];exact e3r
  have hkL:kd<L:=by omega
  have hkLi:(kd:Int)<(L:Int):=by omega
  have hab:(x.at_:Int)≤4000:=by omega
  obtain ⟨pb0,cb0,c19,lB,hTL⟩:=h.bufs
  obtain ⟨gb,ob,hgb,lgb,t0,t1⟩:=hTL (x.at_ / 3) hkb
  rw [hcn,hkd] at t0
  rw [hfx,hkd] at t1
  rw [hL] at c19
  subst hgb
  have c6:w.cell? ⟨bd,6,none⟩=some (.pointer (some ⟨z.br,0,none⟩)):=h.cell 6 (fun _=>rfl)
  have c14:w.cell? ⟨bd,14,none⟩=some (.int .i64 (x.at_:Int)):=h.cell 14 (fun _=>rfl)
  have lb:=h.ltB
  have HH:=Lib.hid h
  have HC4:Hid (∀ u,DMid W R0 bd z bw gw u x ws n→u.cell? ⟨bd,4,none⟩=some (.int .i64 p4)∧u.cell? ⟨bd,14,none⟩=some (.int .i64 (x.at_:Int))∧u.cell? ⟨bd,12,none⟩=some (.int .u64 x.stamp)∧bd<u.heap.size):=fun u k=>⟨by rw [← hp4];exact k.cell 4 (fun _=>rfl),k.cell 14 (fun _=>rfl),k.cell 12 (fun _=>rfl),k.ltB⟩
  rw [Int.add_zero] at HST
  unfold Md.Cv.passV at HST
  clear h hI hp hl hr h6 hca hcb hkb hbl hbm hcc hwl hcn hfx hL hkd hp4 hat E0 E1 hV3 hV4 hV5 hTL hwb
  go_enter Tryz.func43,Tryz.ntmps43
  go_wp2_with fail
  refine wp_region_seq (fun v=>v.cell? ⟨bd,6,none⟩=some (.pointer (some ⟨z.br,0,none⟩))∧v.cell? ⟨z.br,19,none⟩=some (.slice (some ⟨gb,ob,none⟩) L cb0)∧v.cell? ⟨bd,14,none⟩=some (.int .i64 (x.at_:Int))∧v.cell? ⟨gb,ob+kd*2,none⟩=some (.int .i64 (cn:Int))∧v.cell? ⟨gb,ob+kd*2+1,none⟩=some (.float .f64 fx) )  ((0,true)::(1,true)::(2,true)::(3,true)::(4,true)::(5,true)::(6,true)::(7,true)::(8,true)::(9,true)::(10,true)::(11,true)::(12,true)::(13,true)::(14,false)::(15,false)::[])  Md.Cv.follows13 (by kernel_rfl) (fun _ _ _ _ _ h=>h)  ⟨c6,c19,c14,t0,t1⟩ ?_
  (repeat ((first | (refine wpSeq_take (v:=?_) rfl (by rfl) (fun wq hSq=>?_) ?_;rotate_left;(focus ((try dsimp only at hSq);go_simp;try with_reducible rfl))) | refine wpSeq_skip rfl (by rfl) ?_);simp only [Act.put,List.setIfInBounds_toArray,List.set_cons_zero,List.set_cons_succ]))
  (refine wpSeq_do rfl (by rfl) (fun KK hK=>?_);go_simp)
  have HKo:∀ ob':Obj,(w.alloc ob').cell? ⟨bd,6,none⟩=some (.pointer (some ⟨z.br,0,none⟩))∧(w.alloc ob').cell? ⟨z.br,19,none⟩=some (.slice (some ⟨gb,ob,none⟩) L cb0)∧(w.alloc ob').cell? ⟨bd,14,none⟩=some (.int .i64 (x.at_:Int))∧(w.alloc ob').cell? ⟨gb,ob+kd*2,none⟩=some (.int .i64 (cn:Int))∧(w.alloc ob').cell? ⟨gb,ob+kd*2+1,none⟩=some (.float .f64 fx):=fun ob'=>⟨(World.cell?_alloc_old _ _ _ (Nat.ne_of_lt lb)).trans c6,(World.cell?_alloc_old _ _ _ (Nat.ne_of_lt lB)).trans c19,(World.cell?_alloc_old _ _ _ (Nat.ne_of_lt lb)).trans c14,(World.cell?_alloc_old _ _ _ (Nat.ne_of_lt lgb)).trans t0,(World.cell?_alloc_old _ _ _ (Nat.ne_of_lt lgb)).trans t1⟩
  refine hK.out _ _ (HKo _) ?_
  (clear hK KK;try simp only [Act.put,List.setIfInBounds_toArray,List.set_cons_zero,List.set_cons_succ])
  (refine wpSeq_do rfl (by rfl) (fun KK hK=>?_);go_simp)
  refine hK.out _ _ (HKo _) ?_
  (clear hK KK;try simp only [Act.put])
  refine wpSeq_nil ?_
  obtain ⟨w2,hw2⟩:∃ w2,w2=(w.alloc (.cells #[.int .i64 (cn:Int),.float .f64 fx] 75)).drew:=⟨_,rfl⟩
  have HB2:Hid (w2.heap[w.heap.size]?=some (.cells #[.int .i64 (cn:Int),.float .f64 fx] 75 (0,0))∧DMid W R0 bd z bw gw w2 x ws n):=by rw [hw2];exact ⟨heap_alloc_new _ _,(HH.out.alloc _).drew⟩
  rw [← hw2]
  clear hw2 HKo c6 c19 c14 t0 t1 lB lgb
  have HNA:Hid (w.heap.size≠bd):=(Nat.ne_of_gt lb)
  obtain ⟨ga,hga⟩:∃ ga,w.heap.size=ga:=⟨_,rfl⟩
  rw [hga] at HB2 HNA ⊢
  clear hga HH lb
  obtain ⟨d4,d14,d12,db⟩:=HC4.out _ HB2.out.2
  have q0:w2.cell? ⟨ga,0,none⟩=some (.int .i64 (cn:Int)):=(cell_of_row _ _ 0 _ _ _ HB2.out.1).trans rfl
  have q1:w2.cell? ⟨ga,1,none⟩=some (.float .f64 fx):=(cell_of_row _ _ 1 _ _ _ HB2.out.1).trans rfl
  have ql:=lt_of_block HB2.out.1
  go_upto_region 1 with fail
  refine wp_region_seq (fun v=>v.cell? ⟨bd,4,none⟩=some (.int .i64 p4)∧v.cell? ⟨ga,0,none⟩=some (.int .i64 (cn:Int)) )  ((0,true)::(1,true)::(2,true)::(3,true)::(4,true)::(5,true)::(6,true)::(7,true)::(8,true)::(9,true)::[])  Md.Cv.follows13 (by kernel_rfl) (fun _ _ _ _ _ h=>h)  ⟨d4,q0⟩ ?_
  (repeat ((first | (refine wpSeq_take (v:=?_) rfl (by rfl) (fun wq hSq=>?_) ?_;rotate_left;(focus ((try dsimp only at hSq);go_simp;try with_reducible rfl))) | refine wpSeq_skip rfl (by rfl) ?_);simp only [Act.put,List.setIfInBounds_toArray,List.set_cons_zero,List.set_cons_succ]))
  refine wpSeq_nil ?_
  rw [HV.out.1,HV.out.2.1]
  obtain ⟨w3,hw3⟩:∃ w3,w3=w2.drew:=⟨_,rfl⟩
  have H3:=Lib.hid HB2.out.2.drew
  rw [← hw3] at H3 ⊢
  clear hw3 HB2 d4 d14 d12 db q0 q1 ql
  obtain ⟨d4,d14,d12,db⟩:=HC4.out _ H3.out
  go_upto_region 9 with (go_at_call 44;refine (HST.out _ H3.out).mono ?_;rintro e w5 ⟨rfl,k⟩;have H5:=Lib.hid k;clear k HST)
  clear d4 d14 d12 db H3
  obtain ⟨pb2,cb2,y19,lB2,_⟩:=H5.out.bufs
  have y14:w5.cell? ⟨bd,14,none⟩=some (.int .i64 (x.at_:Int)):=H5.out.cell 14 (fun _=>rfl)
  have y6:w5.cell? ⟨bd,6,none⟩=some (.pointer (some ⟨z.br,0,none⟩)):=H5.out.cell 6 (fun _=>rfl)
  have lb5:=H5.out.ltB
  have f14:=H5.out.free 14
  have H6:=Lib.hid (H5.out.put 14 (.int .i64 ((x.at_:Int)+1)) { x with at_:=x.at_+1 } (fun _=>rfl) rfl rfl rfl)
  rw [HL.out] at y19
  go_upto_region 10 with fail
  obtain ⟨w6,hw6⟩:∃ w6,w6=w5.setCell ⟨bd,14,none⟩ (.int .i64 ((x.at_:Int)+1)):=⟨_,rfl⟩
  rw [← hw6] at H6 ⊢
  clear hw6 y19 y14 y6 lb5 f14 lB2 H5
  obtain ⟨pb3,cb3,y19,lB2,_⟩:=H6.out.bufs
  have y14:w6.cell? ⟨bd,14,none⟩=some (.int .i64 ((x.at_:Int)+1)):=H6.out.cell 14 (fun _=>rfl)
  have y6:w6.cell? ⟨bd,6,none⟩=some (.pointer (some ⟨z.br,0,none⟩)):=H6.out.cell 6 (fun _=>rfl)
  have lb5:=H6.out.ltB
  have y19':w6.cell? ⟨z.br,19,none⟩=some (.slice pb3 L cb3):=by rw [← HL.out];exact y19
  clear y19
  by_cases he:x.at_+1=3*L
  · omega
  · have he':((x.at_:Int)+1 == 3*(L:Int))=false:=by simp;omega
    have ept:pt=6:=by rw [← HPT.out,if_neg he]
    subst ept
    clear he
    refine wp_region_seq (fun v=>v.cell? ⟨bd,14,none⟩=some (.int .i64 ((x.at_:Int)+1))∧v.cell? ⟨bd,6,none⟩=some (.pointer (some ⟨z.br,0,none⟩))∧v.cell? ⟨z.br,19,none⟩=some (.slice pb3 L cb3) )  ((0,true)::(1,true)::(2,true)::(3,true)::(4,true)::(5,true)::(6,true)::(7,true)::(8,true)::(9,true)::(10,true)::(11,true)::(12,true)::(13,true)::[])  Md.Cv.follows13 (by kernel_rfl) (fun _ _ _ _ _ h=>h)  ⟨y14,y6,y19'⟩ ?_
    (repeat ((first | (refine wpSeq_take (v:=?_) rfl (by rfl) (fun wq hSq=>?_) ?_;rotate_left;(focus ((try dsimp only at hSq);go_simp;try with_reducible rfl))) | refine wpSeq_skip rfl (by rfl) ?_);simp only [Act.put,List.setIfInBounds_toArray,List.set_cons_zero,List.set_cons_succ]))
    rw [HVL.out]
    refine wpSeq_nil ?_
    have HZ:Hid (DMid W R0 bd z bw gw w6.drew { x with at_:=x.at_+1,part:=6 } ws' (up n)):=by
      have:=H6.out.drew
      have e:({ x with at_:=x.at_+1 }:Wx)={ x with at_:=x.at_+1,part:=6 }:=by rw [← HP6.out]
      rw [← e]
      exact this
    clear H6
    go_wp2_with fail
    go_end0
    exact ⟨rfl,HZ.out⟩
end
end
end Go.Proofs.YteinilmecnlanaaGreatDoor.Ww
namespace Go.Proofs.YteinilmecnlanaaGreatDoor.Ww
open Go.ChangeShapes Go.WideShapes Go.ChangeAt Go.RowKit Num Rr
set_option linter.unusedVariables false
attribute [local go_sem] run_store_float
section
variable {W w:World} {R0:List Nat} {bd bw gw:Nat} {x:Wx} {z:Dz} {ws:List Int} {n:Int}
section
attribute [local go_sem] bits_run
set_option maxRecDepth 100000 in
set_option maxHeartbeats 4000000 in
theorem dback2 (h:DMid W R0 bd z bw gw w x ws n) (hI:InY x) (hp:x.part=6) (hl:plY x≤(ws.length:Int)) (hr:x.at_ % 3=2):Calls Tryz.prog 43 #[.pointer (some ⟨bd,0,none⟩),.pointer (some ⟨bw,0,none⟩)] w fun e w'=>e=.returned (.tuple #[])∧DMid W R0 bd z bw gw w' (backY x) (backW x ws) (up n):=by
  have h6:=hI.at6 hp
  have hca:=hI.ca
  have hcb:=hI.cb
  have hkb:x.at_ / 3<x.m.buf.length:=by omega
  have hbl:=hI.rest.inv.few
  have hbm:=hI.rest.inv.wmax
  have hcc:=buf_cells hI _ hkb
  have hwl:=hI.wlen
  obtain ⟨cn,hcn⟩:∃ cn:Nat,(x.m.buf.getD (x.at_ / 3) (0,0)).1=(cn:Int):=⟨_,(Int.toNat_of_nonneg hcc.1).symm⟩
  obtain ⟨fx,hfx⟩:∃ fx,(x.m.buf.getD (x.at_ / 3) (0,0)).2=fx:=⟨_,rfl⟩
  obtain ⟨L,hL⟩:∃ L,x.m.buf.length=L:=⟨_,rfl⟩
  obtain ⟨kd,hkd⟩:∃ kd,x.at_ / 3=kd:=⟨_,rfl⟩
  obtain ⟨p4,hp4⟩:∃ p4,3+x.b=p4:=⟨_,rfl⟩
  rw [hcn] at hcc
  have hat:∀ j:Int,0≤j→j<3→0≤p4+3*(cn:Int)+j∧p4+3*(cn:Int)+j<(ws.length:Int)∧atC x (cn:Int) j=p4+3*(cn:Int)+j:=fun j j0 j1=>by
    unfold plY at hl
    unfold atC
    omega
  have E0:backY x={ x with at_:=x.at_+1,part:=if x.at_+1=3*L then 7 else 6 }:=by unfold backY;rw [hL]
  have E1:backW x ws=ws.set (p4+3*(cn:Int)+1).toNat ((fx:Nat):Int):=by unfold backW;rw [if_neg (by omega),if_neg (by omega),hcn,hfx,(hat 1 (by omega) (by omega)).2.2]
  rw [E0,E1]
  obtain ⟨pt,hpt⟩:∃ pt,(if x.at_+1=3*L then 7 else 6:Nat)=pt:=⟨_,rfl⟩
  rw [hpt]
  have HPT:=Lib.hid hpt
  clear hpt
  have HST:Hid (∀ u,DMid W R0 bd z bw gw u x ws n→Calls Tryz.prog 44 #[.pointer (some ⟨bw,0,none⟩),.int .i64 (p4+3*(cn:Int)+1),.int .u64 ((fx:Nat):Int)] u fun e w'=>e=.returned (.tuple #[])∧DMid W R0 bd z bw gw w' x (ws.set (p4+3*(cn:Int)+1).toNat ((fx:Nat):Int)) (up n)):=fun u k=>k.store ((fx:Nat):Int) (hat 1 (by omega) (by omega)).1 (hat 1 (by omega) (by omega)).2.1
  generalize ws.set (p4+3*(cn:Int)+1).toNat ((fx:Nat):Int)=ws' at *
  have hwb:=hat 0 (by omega) (by omega)
  have hV3:=Go.IntWalk.i64_in (3*(cn:Int)) (by omega)
  have hV4:=Go.IntWalk.i64_in (p4+3*(cn:Int)) (by omega)
  have hV5:=Go.IntWalk.i64_in (p4+3*(cn:Int)+1) (by omega)
  have HV:=Lib.hid (And.intro hV3 (And.intro hV4 hV5))
  have hb4:4≤p4∧p4≤11:=by omega
  have hc4:cn<256:=by omega
  have HL:=Lib.hid hL
  have HP6:=Lib.hid hp
  have hLb:L≤1000:=by omega
  have HVL:=Lib.hid (Go.IntWalk.i64_in (3*(L:Int)) ⟨by omega,by omega⟩)
  have e3d:(x.at_:Int) / 3=(kd:Int):=by omega
  have e3a:(x.at_:Int).tdiv 3=(kd:Int):=by rw [Int.tdiv_eq_ediv_of_nonneg (by omega)];exact e3d
  have e3c:IntKind.i64.wrap (kd:Int)=(kd:Int):=Go.IntWalk.i64_in _ ⟨by omega,by omega⟩
  have e3r:(x.at_:Int) % 3=2:=by omega
  have e3t:(x.at_:Int).tmod 3=2:=by rw [Int.tmod_eq_emod_of_nonneg (by omega)];exact e3r
  have hkL:kd<L:=by omega
  have hkLi:(kd:Int)<(L:Int):=by omega
  have hab:(x.at_:Int)≤4000:=by omega
  obtain ⟨pb0,cb0,c19,lB,hTL⟩:=h.bufs
  obtain ⟨gb,ob,hgb,lgb,t0,t1⟩:=hTL (x.at_ / 3) hkb
  rw [hcn,hkd] at t0
  rw [hfx,hkd] at t1
  rw [hL] at c19
  subst hgb
  have c6:w.cell? ⟨bd,6,none⟩=some (.pointer (some ⟨z.br,0,none⟩)):=h.cell 6 (fun _=>rfl)
  have c14:w.cell? ⟨bd,14,none⟩=some (.int .i64 (x.at_:Int)):=h.cell 14 (fun _=>rfl)
  have lb:=h.ltB
  have HH:=Lib.hid h
  have HC4:Hid (∀ u,DMid W R0 bd z bw gw u x ws n→u.cell? ⟨bd,4,none⟩=some (.int .i64 p4)∧u.cell? ⟨bd,14,none⟩=some (.int .i64 (x.at_:Int))∧u.cell? ⟨bd,12,none⟩=some (.int .u64 x.stamp)∧bd<u.heap.size):=fun u k=>⟨by rw [← hp4];exact k.cell 4 (fun _=>rfl),k.cell 14 (fun _=>rfl),k.cell 12 (fun _=>rfl),k.ltB⟩
  clear h hI hp hl hr h6 hca hcb hkb hbl hbm hcc hwl hcn hfx hL hkd hp4 hat E0 E1 hV3 hV4 hV5 hTL hwb
  go_enter Tryz.func43,Tryz.ntmps43
  go_wp2_with fail
  refine wp_region_seq (fun v=>v.cell? ⟨bd,6,none⟩=some (.pointer (some ⟨z.br,0,none⟩))∧v.cell? ⟨z.br,19,none⟩=some (.slice (some ⟨gb,ob,none⟩) L cb0)∧v.cell? ⟨bd,14,none⟩=some (.int .i64 (x.at_:Int))∧v.cell? ⟨gb,ob+kd*2,none⟩=some (.int .i64 (cn:Int))∧v.cell? ⟨gb,ob+kd*2+1,none⟩=some (.float .f64 fx) )  ((0,true)::(1,true)::(2,true)::(3,true)::(4,true)::(5,true)::(6,true)::(7,true)::(8,true)::(9,true)::(10,true)::(11,true)::(12,true)::(13,true)::(14,false)::(15,false)::[])  Md.Cv.follows13 (by kernel_rfl) (fun _ _ _ _ _ h=>h)  ⟨c6,c19,c14,t0,t1⟩ ?_
  (repeat ((first | (refine wpSeq_take (v:=?_) rfl (by rfl) (fun wq hSq=>?_) ?_;rotate_left;(focus ((try dsimp only at hSq);go_simp;try with_reducible rfl))) | refine wpSeq_skip rfl (by rfl) ?_);simp only [Act.put,List.setIfInBounds_toArray,List.set_cons_zero,List.set_cons_succ]))
  (refine wpSeq_do rfl (by rfl) (fun KK hK=>?_);go_simp)
  have HKo:∀ ob':Obj,(w.alloc ob').cell? ⟨bd,6,none⟩=some (.pointer (some ⟨z.br,0,none⟩))∧(w.alloc ob').cell? ⟨z.br,19,none⟩=some (.slice (some ⟨gb,ob,none⟩) L cb0)∧(w.alloc ob').cell? ⟨bd,14,none⟩=some (.int .i64 (x.at_:Int))∧(w.alloc ob').cell? ⟨gb,ob+kd*2,none⟩=some (.int .i64 (cn:Int))∧(w.alloc ob').cell? ⟨gb,ob+kd*2+1,none⟩=some (.float .f64 fx):=fun ob'=>⟨(World.cell?_alloc_old _ _ _ (Nat.ne_of_lt lb)).trans c6,(World.cell?_alloc_old _ _ _ (Nat.ne_of_lt lB)).trans c19,(World.cell?_alloc_old _ _ _ (Nat.ne_of_lt lb)).trans c14,(World.cell?_alloc_old _ _ _ (Nat.ne_of_lt lgb)).trans t0,(World.cell?_alloc_old _ _ _ (Nat.ne_of_lt lgb)).trans t1⟩
  refine hK.out _ _ (HKo _) ?_
  (clear hK KK;try simp only [Act.put,List.setIfInBounds_toArray,List.set_cons_zero,List.set_cons_succ])
  (refine wpSeq_do rfl (by rfl) (fun KK hK=>?_);go_simp)
  refine hK.out _ _ (HKo _) ?_
  (clear hK KK;try simp only [Act.put])
  refine wpSeq_nil ?_
  obtain ⟨w2,hw2⟩:∃ w2,w2=(w.alloc (.cells #[.int .i64 (cn:Int),.float .f64 fx] 75)).drew:=⟨_,rfl⟩
  have HB2:Hid (w2.heap[w.heap.size]?=some (.cells #[.int .i64 (cn:Int),.float .f64 fx] 75 (0,0))∧DMid W R0 bd z bw gw w2 x ws n):=by rw [hw2];exact ⟨heap_alloc_new _ _,(HH.out.alloc _).drew⟩
  rw [← hw2]
  clear hw2 HKo c6 c19 c14 t0 t1 lB lgb
  have HNA:Hid (w.heap.size≠bd):=(Nat.ne_of_gt lb)
  obtain ⟨ga,hga⟩:∃ ga,w.heap.size=ga:=⟨_,rfl⟩
  rw [hga] at HB2 HNA ⊢
  clear hga HH lb
  obtain ⟨d4,d14,d12,db⟩:=HC4.out _ HB2.out.2
  have q0:w2.cell? ⟨ga,0,none⟩=some (.int .i64 (cn:Int)):=(cell_of_row _ _ 0 _ _ _ HB2.out.1).trans rfl
  have q1:w2.cell? ⟨ga,1,none⟩=some (.float .f64 fx):=(cell_of_row _ _ 1 _ _ _ HB2.out.1).trans rfl
  have ql:=lt_of_block HB2.out.1
  go_upto_region 1 with fail
  refine wp_region_seq (fun v=>v.cell? ⟨bd,4,none⟩=some (.int .i64 p4)∧v.cell? ⟨ga,0,none⟩=some (.int .i64 (cn:Int)) )  ((0,true)::(1,true)::(2,true)::(3,true)::(4,true)::(5,true)::(6,true)::(7,true)::(8,true)::(9,true)::[])  Md.Cv.follows13 (by kernel_rfl) (fun _ _ _ _ _ h=>h)  ⟨d4,q0⟩ ?_
  (repeat ((first | (refine wpSeq_take (v:=?_) rfl (by rfl) (fun wq hSq=>?_) ?_;rotate_left;(focus ((try dsimp only at hSq);go_simp;try with_reducible rfl))) | refine wpSeq_skip rfl (by rfl) ?_);simp only [Act.put,List.setIfInBounds_toArray,List.set_cons_zero,List.set_cons_succ]))
  refine wpSeq_nil ?_
  rw [HV.out.1,HV.out.2.1]
  obtain ⟨w3,hw3⟩:∃ w3,w3=w2.drew:=⟨_,rfl⟩
  have H3:=Lib.hid HB2.out.2.drew
  have q1':w3.cell? ⟨ga,1,none⟩=some (.float .f64 fx):=by rw [hw3];simpa using q1
  have ql':ga<w3.heap.size:=by rw [hw3];simpa using ql
  rw [← hw3] at H3 ⊢
  clear hw3 HB2 d4 d14 d12 db q0 q1 ql
  obtain ⟨d4,d14,d12,db⟩:=HC4.out _ H3.out
  go_upto_region 9 with (go_at_call 44;refine (HST.out _ H3.out).mono ?_;rintro e w5 ⟨rfl,k⟩;have H5:=Lib.hid k;clear k HST)
  clear d4 d14 d12 db H3 q1' ql'
  obtain ⟨pb2,cb2,y19,lB2,_⟩:=H5.out.bufs
  have y14:w5.cell? ⟨bd,14,none⟩=some (.int .i64 (x.at_:Int)):=H5.out.cell 14 (fun _=>rfl)
  have y6:w5.cell? ⟨bd,6,none⟩=some (.pointer (some ⟨z.br,0,none⟩)):=H5.out.cell 6 (fun _=>rfl)
  have lb5:=H5.out.ltB
  have f14:=H5.out.free 14
  have H6:=Lib.hid (H5.out.put 14 (.int .i64 ((x.at_:Int)+1)) { x with at_:=x.at_+1 } (fun _=>rfl) rfl rfl rfl)
  rw [HL.out] at y19
  go_upto_region 10 with fail
  obtain ⟨w6,hw6⟩:∃ w6,w6=w5.setCell ⟨bd,14,none⟩ (.int .i64 ((x.at_:Int)+1)):=⟨_,rfl⟩
  rw [← hw6] at H6 ⊢
  clear hw6 y19 y14 y6 lb5 f14 lB2 H5
  obtain ⟨pb3,cb3,y19,lB2,_⟩:=H6.out.bufs
  have y14:w6.cell? ⟨bd,14,none⟩=some (.int .i64 ((x.at_:Int)+1)):=H6.out.cell 14 (fun _=>rfl)
  have y6:w6.cell? ⟨bd,6,none⟩=some (.pointer (some ⟨z.br,0,none⟩)):=H6.out.cell 6 (fun _=>rfl)
  have lb5:=H6.out.ltB
  have y19':w6.cell? ⟨z.br,19,none⟩=some (.slice pb3 L cb3):=by rw [← HL.out];exact y19
  clear y19
  by_cases he:x.at_+1=3*L
  · have he':((x.at_:Int)+1 == 3*(L:Int))=true:=by simp;omega
    have ept:pt=7:=by rw [← HPT.out,if_pos he]
    subst ept
    clear he
    refine wp_region_seq (fun v=>v.cell? ⟨bd,14,none⟩=some (.int .i64 ((x.at_:Int)+1))∧v.cell? ⟨bd,6,none⟩=some (.pointer (some ⟨z.br,0,none⟩))∧v.cell? ⟨z.br,19,none⟩=some (.slice pb3 L cb3) )  ((0,true)::(1,true)::(2,true)::(3,true)::(4,true)::(5,true)::(6,true)::(7,true)::(8,true)::(9,true)::(10,true)::(11,true)::(12,true)::(13,true)::[])  Md.Cv.follows13 (by kernel_rfl) (fun _ _ _ _ _ h=>h)  ⟨y14,y6,y19'⟩ ?_
    (repeat ((first | (refine wpSeq_take (v:=?_) rfl (by rfl) (fun wq hSq=>?_) ?_;rotate_left;(focus ((try dsimp only at hSq);go_simp;try with_reducible rfl))) | refine wpSeq_skip rfl (by rfl) ?_);simp only [Act.put,List.setIfInBounds_toArray,List.set_cons_zero,List.set_cons_succ]))
    rw [HVL.out]
    refine wpSeq_nil ?_
    obtain ⟨w7,hw7⟩:∃ w7,w7=w6.drew:=⟨_,rfl⟩
    have H7:=Lib.hid H6.out.drew
    rw [← hw7] at H7 ⊢
    clear hw7 H6 y14 y6 lb5 y19' lB2
    have lb7:=H7.out.ltB
    have y10:w7.cell? ⟨bd,10,none⟩=some (.int .i64 (x.part:Int)):=H7.out.cell 10 (fun _=>rfl)
    have f10:=H7.out.free 10
    have HZ:=Lib.hid (H7.out.put 10 (.int .i64 7) { x with at_:=x.at_+1,part:=7 } (fun _=>rfl) rfl rfl rfl)
    clear H7
    go_wp2_with fail
    go_end0
    exact ⟨rfl,HZ.out⟩
  · have he':((x.at_:Int)+1 == 3*(L:Int))=false:=by simp;omega
    have ept:pt=6:=by rw [← HPT.out,if_neg he]
    subst ept
    clear he
    refine wp_region_seq (fun v=>v.cell? ⟨bd,14,none⟩=some (.int .i64 ((x.at_:Int)+1))∧v.cell? ⟨bd,6,none⟩=some (.pointer (some ⟨z.br,0,none⟩))∧v.cell? ⟨z.br,19,none⟩=some (.slice pb3 L cb3) )  ((0,true)::(1,true)::(2,true)::(3,true)::(4,true)::(5,true)::(6,true)::(7,true)::(8,true)::(9,true)::(10,true)::(11,true)::(12,true)::(13,true)::[])  Md.Cv.follows13 (by kernel_rfl) (fun _ _ _ _ _ h=>h)  ⟨y14,y6,y19'⟩ ?_
    (repeat ((first | (refine wpSeq_take (v:=?_) rfl (by rfl) (fun wq hSq=>?_) ?_;rotate_left;(focus ((try dsimp only at hSq);go_simp;try with_reducible rfl))) | refine wpSeq_skip rfl (by rfl) ?_);simp only [Act.put,List.setIfInBounds_toArray,List.set_cons_zero,List.set_cons_succ]))
    rw [HVL.out]
    refine wpSeq_nil ?_
    have HZ:Hid (DMid W R0 bd z bw gw w6.drew { x with at_:=x.at_+1,part:=6 } ws' (up n)):=by
      have:=H6.out.drew
      have e:({ x with at_:=x.at_+1 }:Wx)={ x with at_:=x.at_+1,part:=6 }:=by rw [← HP6.out]
      rw [← e]
      exact this
    clear H6
    go_wp2_with fail
    go_end0
    exact ⟨rfl,HZ.out⟩
end
end
end Go.Proofs.YteinilmecnlanaaGreatDoor.Ww
namespace Go.Proofs.YteinilmecnlanaaGreatDoor.Ww
open Go.ChangeShapes Go.WideShapes Go.ChangeAt Go.RowKit Num Rr
set_option linter.unusedVariables false
attribute [local go_sem] run_store_float
section
variable {W w:World} {R0:List Nat} {bd bw gw:Nat} {x:Wx} {z:Dz} {ws:List Int} {n:Int}
theorem dback_any (h:DMid W R0 bd z bw gw w x ws n) (hI:InY x) (hp:x.part=6) (hl:plY x≤(ws.length:Int)):Calls Tryz.prog 43 #[.pointer (some ⟨bd,0,none⟩),.pointer (some ⟨bw,0,none⟩)] w fun e w'=>e=.returned (.tuple #[])∧DMid W R0 bd z bw gw w' (backY x) (backW x ws) (up n):=by
  rcases (by omega:x.at_ % 3=0∨x.at_ % 3=1∨x.at_ % 3=2) with e | e | e
  · exact dback0 h hI hp hl e
  · exact dback1 h hI hp hl e
  · exact dback2 h hI hp hl e
theorem drun_any (h:DMid W R0 bd z bw gw w x ws n) (hI:InY x) (hp:x.part=4) (hl:plY x≤(ws.length:Int)):Calls Tryz.prog 42 #[.pointer (some ⟨bd,0,none⟩),.pointer (some ⟨bw,0,none⟩)] w fun e w'=>e=.returned (.tuple #[])∧DMid W R0 bd z bw gw w' (runY x ws).1 ws (if (runY x ws).2 then up n else n):=by
  have hR:=hI.rest
  have hfew:x.was.length≤1000:=by rw [hI.wlen];have h1:=hR.inv.few;have h2:=hR.inv.wmax;omega
  unfold runY
  by_cases k1:(stepM x.m).2.kind=1
  · rw [if_pos k1]
    have hc:=ask_cell hI hp (.inl k1)
    exact drun_read h hR.inv (inv_step hR.inv) hI.ca hI.cb hl rfl rfl k1 hc.1 hc.2 rfl
  · rw [if_neg k1]
    by_cases k3:(stepM x.m).2.kind=3∧(stepM x.m).2.first=true
    · rw [if_pos k3]
      have hc:=ask_cell hI hp (.inr k3.1)
      exact drun_first h hR.inv hI.ca hI.cb hl hfew rfl rfl k3.1 k3.2 hc.1 hc.2 rfl
    · rw [if_neg k3]
      by_cases k4:(stepM x.m).2.kind=4
      · rw [if_pos k4]
        by_cases hh:(stepM x.m).1.how=1
        · rw [if_pos hh]
          exact drun_end h hR.inv rfl rfl k4 (pt:=5) (.inl ⟨by simpa using hh,rfl⟩)
        · rw [if_neg hh]
          exact drun_end h hR.inv rfl rfl k4 (pt:=8) (.inr ⟨by simpa using hh,rfl⟩)
      · rw [if_neg k4]
        refine drun_go h hR.inv rfl rfl (by simpa using k1) ?_ (by simpa using k4)
        by_cases q3:(stepM x.m).2.kind=3
        · refine .inr ⟨by simpa using q3,?_⟩
          cases hf:(stepM x.m).2.first with
          | false=>rfl
          | true=>exact absurd ⟨q3,hf⟩ k3
        · exact .inl (by simpa using q3)
theorem dstep_any (h:DMid W R0 bd z bw gw w x ws n) (hI:InY x) (hp:x.part≠9) (hl:plY x≤(ws.length:Int)) (hW:okW ws) (h0:0≤x.steps) (h1:x.steps≤1000000) {y:Wx} {ws':List Int} {ac:Bool} (hy:stepY x ws=(y,ws',ac)) {n':Int} (hn:(if ac then up n else n)=n'):Calls Tryz.prog 15 #[.pointer (some ⟨bd,0,none⟩),.pointer (some ⟨bw,0,none⟩)] w fun e w'=>e=.returned (.tuple #[.bool (decide ((y.part:Int)=9)),.int .i64 0])∧DMid W R0 bd z bw gw w' y ws' n':=by
  have hst:0≤x.steps∧x.steps≤1000000:=⟨h0,h1⟩
  have hP:=hI.part
  subst hn
  have e8:(tickY x).part=x.part:=rfl
  have ov:∀ (y:Wx),y.part≠9→decide ((y.part:Int)=9)=false:=fun y q=>decide_eq_false (by omega)
  rcases (by omega:x.part=1∨x.part=2∨x.part=3∨x.part=4∨x.part=5∨x.part=6∨x.part=7∨x.part=8) with e | e | e | e | e | e | e | e
  · have E:stepY x ws=({ tickY x with tick:=wordAt ws 0,part:=2 },ws.set 0 (Md.Cv.passV (wordAt ws 0)),true):=by unfold stepY stepY0;rw [if_pos (e8.trans e)]
    rw [E] at hy
    cases hy
    exact dstep_draw h hI hst hl e
  · have E:stepY x ws=((if wordAt ws 1=x.tick then { tickY x with part:=3 } else tickY x),ws,true):=by unfold stepY stepY0;rw [if_neg (by omega),if_pos (e8.trans e)];rfl
    rw [E] at hy
    cases hy
    rw [ov _ (by split <;> (first | (show (3:Nat)≠9;omega) | (show x.part≠9;omega)))]
    exact dstep_wait h hI hst hl e
  · have E:stepY x ws=({ tickY x with stamp:=wordAt ws 2,part:=4 },ws,true):=by unfold stepY stepY0;rw [if_neg (by omega),if_neg (by omega),if_pos (e8.trans e)]
    rw [E] at hy
    cases hy
    exact dstep_mark h hI hst hl e
  · have E:stepY x ws=((runY (tickY x) ws).1,ws,(runY (tickY x) ws).2):=by unfold stepY stepY0;rw [if_neg (by omega),if_neg (by omega),if_neg (by omega),if_pos (e8.trans e)]
    have hk:=step_inY hI hp hW
    rw [E] at hy
    cases hy
    have hq:(runY (tickY x) ws).1.part≠9:=by
      unfold runY
      split
      · show x.part≠9;omega
      · split
        · show x.part≠9;omega
        · split
          · show (if (stepM x.m).1.how=1 then 5 else 8)≠9;split <;> omega
          · show x.part≠9;omega
    rw [ov _ hq]
    exact dstep_run h hI hst hl e (Q:=fun w'=>DMid W R0 bd z bw gw w' (runY (tickY x) ws).1 ws (if (runY (tickY x) ws).2 then up n else n)) (Lib.hid fun u k=>drun_any k hI.tick (e8.trans e) hl)
  · have E:stepY x ws=(scanY (tickY x) ws,ws,true):=by unfold stepY stepY0;rw [if_neg (by omega),if_neg (by omega),if_neg (by omega),if_neg (by omega),if_pos (e8.trans e)]
    rw [E] at hy
    cases hy
    have hq:(scanY (tickY x) ws).part≠9:=by
      unfold scanY
      split
      · split
        · show (if x.m.buf.length=0 then 7 else 6)≠9;split <;> omega
        · show x.part≠9;omega
      · show x.part≠9;omega
    rw [ov _ hq]
    exact dstep_scan h hI hst hl e
  · have E:stepY x ws=(backY (tickY x),backW (tickY x) ws,true):=by unfold stepY stepY0;rw [if_neg (by omega),if_neg (by omega),if_neg (by omega),if_neg (by omega),if_neg (by omega),if_pos (e8.trans e)]
    rw [E] at hy
    cases hy
    have hq:(backY (tickY x)).part≠9:=by
      unfold backY
      show (if x.at_+1=3*x.m.buf.length then 7 else 6)≠9
      split <;> omega
    rw [ov _ hq]
    exact dstep_back h hI hst hl e (Q:=fun w'=>DMid W R0 bd z bw gw w' (backY (tickY x)) (backW (tickY x) ws) (up n)) (Lib.hid fun u k=>dback_any k hI.tick (e8.trans e) hl)
  · have E:stepY x ws=({ tickY x with num:=wrap64 (Md.Cv.passV x.stamp),part:=8 },ws.set 2 (Md.Cv.passV x.stamp),true):=by unfold stepY stepY0;rw [if_neg (by omega),if_neg (by omega),if_neg (by omega),if_neg (by omega),if_neg (by omega),if_neg (by omega),if_pos (e8.trans e)];rfl
    rw [E] at hy
    cases hy
    exact dstep_pub h hI hst hl e
  · have E:stepY x ws=({ tickY x with part:=9 },ws.set 1 (Md.Cv.passV x.tick),true):=by unfold stepY stepY0;rw [if_neg (by omega),if_neg (by omega),if_neg (by omega),if_neg (by omega),if_neg (by omega),if_neg (by omega),if_neg (by omega)];rfl
    rw [E] at hy
    cases hy
    exact dstep_pass h hI hst hl e
end
end Go.Proofs.YteinilmecnlanaaGreatDoor.Ww
namespace Go.Proofs.YteinilmecnlanaaGreatDoor.Ww
open Go.ChangeShapes Go.WideShapes Go.ChangeAt Go.RowKit Num Rr
end Go.Proofs.YteinilmecnlanaaGreatDoor.Ww
namespace Go.Proofs.YteinilmecnlanaaGreatDoor.Rr
open Go.ChangeShapes Go.WideShapes Go.ChangeAt Go.RowKit Num
end Go.Proofs.YteinilmecnlanaaGreatDoor.Rr
namespace Go.Proofs.YteinilmecnlanaaGreatDoor.Ww
open Go.ChangeShapes Go.WideShapes Go.ChangeAt Go.RowKit Num Rr
end Go.Proofs.YteinilmecnlanaaGreatDoor.Ww
namespace Go.Proofs.YteinilmecnlanaaGreatDoor.Ww
open Go.ChangeShapes Go.WideShapes Go.ChangeAt Go.RowKit Num Rr
end Go.Proofs.YteinilmecnlanaaGreatDoor.Ww
namespace Go.Proofs.YteinilmecnlanaaGreatDoor.Ww
open Go.ChangeShapes Go.WideShapes Go.ChangeAt Go.RowKit Num Rr
end Go.Proofs.YteinilmecnlanaaGreatDoor.Ww
namespace Go.Proofs.YteinilmecnlanaaGreatDoor.Ww
open Go.ChangeShapes Go.WideShapes Go.ChangeAt Go.RowKit Num Rr
set_option maxRecDepth 100000 in
set_option maxHeartbeats 2000000 in
theorem count_any (n:Int) (w:World):Calls Tryz.prog 12 #[.int .i64 n] w fun r w'=>∃ cn:Int,r=.returned (.int .i64 cn)∧cn≤3000∧w'=w:=by
  go_enter Tryz.func12,Tryz.ntmps12
  by_cases h1:n<0
  · go_wp2_with fail
    go_ret
    exact ⟨0,rfl,by omega,rfl⟩
  · by_cases h2:3000<n
    · go_wp2_with fail
      go_ret
      exact ⟨3000,rfl,by omega,rfl⟩
    · go_wp2_with fail
      go_ret
      exact ⟨n,rfl,by omega,rfl⟩
end Go.Proofs.YteinilmecnlanaaGreatDoor.Ww
namespace Go.Proofs.YteinilmecnlanaaGreatDoor.Ww
open Go.ChangeShapes Go.WideShapes Go.ChangeAt Go.RowKit Num Rr
section
variable {W w:World} {bx:Nat} {z:Wz} {mb mg:Nat} {x:Wx} {ws:List Int} {o:Bool} {n:Int} {bd:Nat} {zd:Dz} {bw gw:Nat} {xd:Wx} {wd:List Int} {nd:Int}
theorem Both.dstep (h:Both W w bx z mb mg x ws o n bd zd bw gw xd wd nd) (hI:InY xd) (hp:xd.part≠9) (hl:plY xd≤(wd.length:Int)) (hW:okW wd) (h0:0≤xd.steps) (h1:xd.steps≤1000000) {y:Wx} {wd':List Int} {ac:Bool} (hy:stepY xd wd=(y,wd',ac)) {n':Int} (hn:(if ac then up nd else nd)=n') {ov:Bool} (hov:decide ((y.part:Int)=9)=ov):Calls Tryz.prog 15 #[.pointer (some ⟨bd,0,none⟩),.pointer (some ⟨bw,0,none⟩)] w fun r w'=>r=.returned (.tuple #[.bool ov,.int .i64 0])∧Both W w' bx z mb mg x ws o n bd zd bw gw y wd' n':=by
  obtain ⟨R0,k1,k3⟩:=h.d
  refine (dstep_any k1 hI hp hl hW h0 h1 hy hn).mono ?_
  rintro r w' ⟨rfl,k⟩
  rw [hov]
  exact ⟨rfl,k3 _ _ _ _ k⟩
theorem Both.dover (h:Both W w bx z mb mg x ws o n bd zd bw gw xd wd nd) (hl:plY xd≤(wd.length:Int)) (hp:xd.part=9):Calls Tryz.prog 15 #[.pointer (some ⟨bd,0,none⟩),.pointer (some ⟨bw,0,none⟩)] w fun r w'=>r=.returned (.tuple #[.bool false,.int .i64 3])∧Both W w' bx z mb mg x ws o n bd zd bw gw xd wd nd:=by
  obtain ⟨R0,h1,_⟩:=h.d
  refine (dstep_over h1 hl hp).mono ?_
  rintro r w' ⟨rfl,k⟩
  exact ⟨rfl,h.on (k.below _)⟩
theorem Both.deedF (h:Both W w bx z mb mg x ws o n bd zd bw gw xd wd nd) (hI:InY x) {tg st:Int} {na:Nat} {m:Mac} {mk nu e0 e1 e2:Int} {args:List Nat} (ht:x.tag=tg) (hst:x.steps=st) (har:x.args=args) (hna:args.length=na) (hm:x.m=m) (hk:markY x=mk) (hnu:x.num=nu) (h0:endJ x m.how=e0) (h1:endJ x m.cod=e1) (h2:endJ x m.err=e2):Calls Tryz.prog 20 #[.pointer (some ⟨bx,0,none⟩)] w fun r w'=>∃ D,r=.returned (.agg (dC tg na m D mk nu e0 e1 e2 st))∧DdAt w' w.heap.size D args m∧Below w.heap.size w w':=by
  obtain ⟨v,k,kv⟩:=h.raw
  subst ht hst har
  exact Deed_any k kv hI hna hm hk hnu h0 h1 h2
theorem Both.ddeed (h:Both W w bx z mb mg x ws o n bd zd bw gw xd wd nd) (hI:InY xd) {tg st:Int} {na:Nat} {m:Mac} {mk nu e0 e1 e2:Int} {args:List Nat} (ht:xd.tag=tg) (hst:xd.steps=st) (har:xd.args=args) (hna:args.length=na) (hm:xd.m=m) (hk:markY xd=mk) (hnu:xd.num=nu) (h0:endJ xd m.how=e0) (h1:endJ xd m.cod=e1) (h2:endJ xd m.err=e2):Calls Tryz.prog 21 #[.pointer (some ⟨bd,0,none⟩)] w fun r w'=>∃ D,r=.returned (.agg (dC tg na m D mk nu e0 e1 e2 st))∧DdIn w' D args m∧Below w.heap.size w w':=by
  obtain ⟨q,k⟩:=h.draw
  subst ht hst har
  refine (ddeed_any k hI.part.1 hna hm hk hnu h0 h1 h2).mono ?_
  rintro r w' ⟨rfl,q2⟩
  subst hm
  exact ⟨_,rfl,k.ddIn.on q2,q2⟩
theorem Both.dpart (h:Both W w bx z mb mg x ws o n bd zd bw gw xd wd nd):w.cell? ⟨bd,10,none⟩=some (.int .i64 (xd.part:Int))∧bd<w.heap.size:=by
  obtain ⟨q,k⟩:=h.draw
  exact ⟨(k.cell 10).trans rfl,k.ltB⟩
theorem Both.great (h:Both W w bx z mb mg x ws o n bd zd bw gw xd wd nd) {g:Bool} (hg:greatB xd=g):Calls Tryz.prog 16 #[.pointer (some ⟨bd,0,none⟩)] w fun r w'=>r=.returned (.bool g)∧w'=w:=by
  obtain ⟨q,k⟩:=h.draw
  subst hg
  exact great_any k
theorem Both.sameW (h:Both W w bx z mb mg x ws o n bd zd bw gw xd ws n):Calls Tryz.prog 17 #[.pointer (some ⟨mb,0,none⟩),.pointer (some ⟨bw,0,none⟩)] w fun r w'=>r=.returned (.bool true)∧Below w.heap.size w w':=sameWords_any h.mem h.words rfl
theorem both_two (hs:Shaped5 W) (hI:InY x) (hl:plY x≤(ws.length:Int)) (hW:okW ws) (h0:0≤x.steps) (h1:x.steps≤1000000) (o:Bool) (n:Int):∃ y ws2 o2 n2 ov er,
    (∀ u,Both W u bx z mb mg x ws o n bd zd bw gw x ws n→Calls Tryz.prog 14 #[.pointer (some ⟨bx,0,none⟩),.pointer (some ⟨mb,0,none⟩)] u fun r w'=>r=.returned (.tuple #[.bool ov,.int .i64 er])∧Both W w' bx z mb mg y ws2 o2 n2 bd zd bw gw x ws n) ∧
    (∀ u,Both W u bx z mb mg y ws2 o2 n2 bd zd bw gw x ws n→Calls Tryz.prog 15 #[.pointer (some ⟨bd,0,none⟩),.pointer (some ⟨bw,0,none⟩)] u fun r w'=>r=.returned (.tuple #[.bool ov,.int .i64 er])∧Both W w' bx z mb mg y ws2 o2 n2 bd zd bw gw y ws2 n2) ∧
    InY y∧AlikeY x y∧okW ws2∧ws2.length=ws.length∧(y.steps=x.steps+1∨y.steps=x.steps):=by
  by_cases hp:x.part=9
  · exact ⟨x,ws,o,n,false,3,fun u q=>q.over hl hp,fun u q=>q.dover hl hp,hI,AlikeY.refl x,hW,rfl,.inr rfl⟩
  · obtain ⟨y,ws2,ac,hy⟩:∃ y ws2 ac,stepY x ws=(y,ws2,ac):=⟨_,_,_,rfl⟩
    obtain ⟨k1,k2,k3,k4,k5⟩:=step_inY hI hp hW
    rw [hy] at k1 k2 k3 k4 k5
    exact ⟨y,ws2,!ac,_,_,0,fun u q=>q.step hs hI hp hl h0 h1 hy rfl rfl,fun u q=>q.dstep hI hp hl hW h0 h1 hy rfl rfl,k1,k2,k4,k5,.inl k3⟩
end
structure StI (x0 x:Wx) (ws:List Int) (N i:Nat):Prop where
  inx:InY x
  al:AlikeY x0 x
  ok:okW ws
  len:ws.length=N
  st:0≤x.steps∧x.steps≤(i:Int)
theorem StI.next {x0 x y:Wx} {ws ws2:List Int} {N i:Nat} (h:StI x0 x ws N i) (k1:InY y) (k2:AlikeY x y) (k3:okW ws2) (k4:ws2.length=ws.length) (hs:y.steps=x.steps+1∨y.steps=x.steps):StI x0 y ws2 N (i+1):=by
  have:=h.st
  refine ⟨k1,h.al.trans k2,k3,k4.trans h.len,?_⟩
  rcases hs with e | e <;> rw [e] <;> omega
theorem few_lists {x:Wx} (h:InY x):x.args.length≤9223372036854775807∧x.m.reads.length≤9223372036854775807∧x.m.buf.length≤9223372036854775807∧x.m.out.length≤9223372036854775807:=by
  have h1:=h.few
  have h2:=h.rest.inv.reads
  have h3:=h.rest.inv.used
  have h4:=h.rest.inv.fuel
  have h5:=h.rest.inv.out
  have h6:=h.rest.inv.few
  have h7:=h.rest.inv.wmax
  have h8:(x.m.reads.length:Int)≤1024:=by split at h2 <;> omega
  omega
end Go.Proofs.YteinilmecnlanaaGreatDoor.Ww
namespace Go.Proofs.YteinilmecnlanaaGreatDoor.Ww
open Go.ChangeShapes Go.WideShapes Go.ChangeAt Go.RowKit Num Rr
section
variable {W:World} {a b c e th t:Int} {ao:Option Addr} {cs:List Ins} {n cap:Nat} {po:Option Addr} {l:List Nat} {k co:Nat} {pw:Option Addr} {lw:List Int} {kw cw:Nat} {pp:Option Addr} {lp:List (Int × Int)} {kp cp:Nat} {sp:Int}
set_option maxRecDepth 100000 in
set_option maxHeartbeats 4000000 in
theorem steps (h:RideAll W cs l ao po n k lw pw kw lp pp kp):Calls Tryz.prog 3 #[.agg (rideV a b c e th t ao n cap po k co pw kw cw pp kp cp sp)] W fun r w'=>r=.returned (.bool true)∧Below W.heap.size W w':=by
  obtain ⟨w1,hw1⟩:∃ w1,w1=(W.alloc (.cells (rideV a b c e th t ao n cap po k co pw kw cw pp kp cp sp) 31)):=⟨_,rfl⟩
  have H0:Hid (Below W.heap.size W w1∧w1.heap[W.heap.size]?=some (.cells (rideV a b c e th t ao n cap po k co pw kw cw pp kp cp sp) 31 (0,0))):=by rw [hw1];exact ⟨below_alloc _ _,heap_alloc_new _ _⟩
  have HL:Hid (Calls Tryz.prog 9 #[] w1 fun e w'=>e=.returned (.bool true)∧Below w1.heap.size w1 w'):=live_any (h.at_.sh.on H0.out.1)
  have HG:Hid (∀ u,Below w1.heap.size w1 u→Calls Tryz.prog 10 #[.agg (rideV a b c e th t ao n cap po k co pw kw cw pp kp cp sp)] u fun r w'=>∃ q1 q2,r=.returned (.tuple #[.pointer q1,.pointer q2])∧Hid ((mayX a b c e k th=true∧∃ bx bd,q1=some ⟨bx,0,none⟩∧q2=some ⟨bd,0,none⟩∧Bgn u w' bx bd (newY a b c e t cs l th) ao cs)∨(mayX a b c e k th=false∧q1=none∧q2=none∧Below u.heap.size u w'))):=fun u q=>begun_any ((h.at_.on H0.out.1).on q)
  have HX:=Lib.hid (h.on H0.out.1)
  have HRC:Hid (∀ u,Below w1.heap.size w1 u→u.cell? ⟨W.heap.size,0,none⟩=some (.int .i64 a)∧u.cell? ⟨W.heap.size,1,none⟩=some (.int .i64 b)∧u.cell? ⟨W.heap.size,2,none⟩=some (.int .i64 c)∧u.cell? ⟨W.heap.size,3,none⟩=some (.int .i64 e)∧u.cell? ⟨W.heap.size,4,none⟩=some (.int .i64 th)∧u.cell? ⟨W.heap.size,5,none⟩=some (.int .i64 t)∧u.cell? ⟨W.heap.size,6,none⟩=some (.slice ao n cap)∧u.cell? ⟨W.heap.size,7,none⟩=some (.slice po k co)∧u.cell? ⟨W.heap.size,8,none⟩=some (.slice pw kw cw)∧u.cell? ⟨W.heap.size,9,none⟩=some (.slice pp kp cp)∧u.cell? ⟨W.heap.size,10,none⟩=some (.int .i64 sp)∧W.heap.size<u.heap.size):=fun u q=>ride_cells ((q.block _ (lt_of_block H0.out.2)).trans H0.out.2)
  clear h
  go_enter Tryz.func3,Tryz.ntmps3
  go_upto_region 3 with (first
    | (go_at_call 10;refine (HG.out _ H1.out).mono ?_;rintro r u2 ⟨q1,q2,rfl,H2⟩;clear HG)
    | (go_at_call 9;try simp only [← hw1];refine HL.out.mono ?_;rintro r u1 ⟨rfl,q⟩;have H1:=Lib.hid q;obtain ⟨x0,x1,x2,x3,x4,x5,x6,x7,x8,x9,x10,xb⟩:=HRC.out _ q;clear q HL))
  clear x0 x1 x2 x3 x4 x5 x6 x7 x8 x9 x10 xb hw1
  rcases H2.out with ⟨hm,bx,bd,rfl,rfl,hB⟩ | ⟨hm,rfl,rfl,hB⟩
  rotate_left
  · have HB:=Lib.hid (H0.out.1.trans ((H1.out.trans (hB.mono H1.out.size)).mono H0.out.1.size))
    clear hB H2
    go_wp2_with fail
    go_ret
    exact ⟨rfl,HB.out⟩
  have HI:=Lib.hid (HX.out.at_.inY (t:=t) hm)
  have hcf:Md.cfgB a b c e=true:=by simp only [mayX,Bool.and_eq_true] at hm;exact hm.1.1
  obtain ⟨N,hN⟩:∃ N:Nat,3+b+3*a=(N:Int):=⟨(3+b+3*a).toNat,by have:=Md.cfgB_iff.1 hcf;omega⟩
  have N1:1≤N:=by have:=Md.cfgB_iff.1 hcf;omega
  have HFU:Hid (1≤c∧c≤100000):=by have:=Md.cfgB_iff.1 hcf;exact ⟨by omega,by omega⟩
  have HB2:Hid (Below w1.heap.size w1 u2):=H1.out.trans (hB.bl.mono H1.out.size)
  have HLA:Hid (Calls Tryz.prog 11 #[cfgV a b c e,.slice pw kw cw] u2 fun r w'=>∃ mb bw,r=.returned (.tuple #[.pointer (some ⟨mb,0,none⟩),.pointer (some ⟨bw,0,none⟩)])∧Hid (∃ mg gw ws,Laid u2 w' N mb mg bw gw ws)):=laid_any hcf ((HX.out.on HB2.out).words) HX.out.wl HX.out.wx HX.out.wb hN
  have HBG:=Lib.hid hB
  obtain ⟨x0,x1,x2,x3,x4,x5,x6,x7,x8,x9,x10,xb⟩:=HRC.out _ HB2.out
  clear H2 hB
  go_upto_region 8 with (go_at_call 11;refine HLA.out.mono ?_;rintro r u3 ⟨mb,bw,rfl,H3⟩;clear HLA)
  have HN:Hid (3+b+3*a=(N:Int)):=hN
  have HBO:Hid (∃ mg gw ws z zd,ws.length=N∧okW ws∧zd.cs=cs∧Both w1 u3 bx z mb mg (newY a b c e t cs l th) ws false 0 bd zd bw gw (newY a b c e t cs l th) ws 0):=by
    obtain ⟨mg,gw,ws,q⟩:=H3.out
    obtain ⟨z,zd,k1,k2⟩:=both_new H1.out HBG.out q.mem q.wds q.bl q.am q.ag q.aw q.av q.sep
    exact ⟨mg,gw,ws,z,zd,q.len,q.ok,k1,k2⟩
  obtain ⟨mg,gw,ws,z,zd,hwl,hwo,hzd,hbo⟩:=HBO.out
  have HB3:=Lib.hid hbo
  have HW3:Hid (ws.length=N∧okW ws):=⟨hwl,hwo⟩
  clear H3 HBO hbo hwl hwo hN hcf hm HBG HB2 x0 x1 x2 x3 x4 x5 x6 x7 x8 x9 x10 xb
  obtain ⟨x0,hx0⟩:∃ x0,x0=newY a b c e t cs l th:=⟨_,rfl⟩
  have HX0:Hid (plY x0=(N:Int)∧InY x0∧x0.steps=0):=by rw [hx0];exact ⟨HN.out,HI.out,rfl⟩
  rw [← hx0] at HB3
  clear hx0 HI HN H1
  have HCN:Hid (∀ n u,Calls Tryz.prog 12 #[.int .i64 n] u fun r w'=>∃ cn:Int,r=.returned (.int .i64 cn)∧cn≤3000∧w'=u):=fun n u=>count_any n u
  go_wp2_with fail
  go_loopw [8] (fun vi wr=>∃ i:Nat,vi=.int .i64 i∧Hid (∃ x ws o n,StI x0 x ws N i∧Both w1 wr bx z mb mg x ws o n bd zd bw gw x ws n)) (fun vi _=>3000 - (intOf vi).toNat)
  case atStart=>exact ⟨0,rfl,x0,ws,false,0,⟨HX0.out.2.1,AlikeY.refl _,HW3.out.2,HW3.out.1,by rw [HX0.out.2.2];omega⟩,HB3.out⟩
  case round =>
    obtain ⟨i,rfl,HR⟩:=hrel
    clear HB3 HW3
    obtain ⟨x,ws,o,n0,hI,hB⟩:=HR.out
    have HW:=Lib.hid hI
    have HB:=Lib.hid hB
    obtain ⟨y0,y1,y2,y3,y4,y5,y6,y7,y8,y9,y10,yb⟩:=HRC.out _ hB.below
    clear HR hI hB y0 y1 y2 y3 y4 y5 y6 y7 y8
    go_upto_if 48 with (go_at_call 12;refine (HCN.out _ _).mono ?_;rintro r u6 ⟨cn,rfl,hcn,hw⟩;subst u6)
    by_cases hlt:(i:Int)<cn
    rotate_left
    · go_wp2_with fail
      go_ret
      exact ⟨rfl,H0.out.1.trans (HB.out.below.mono H0.out.1.size)⟩
    have hi3:(i:Int)<3000:=by omega
    clear y10 HCN
    obtain ⟨y,ws2,o2,n2,ov,er,hst,hdt,k1,k2,k3,k4,k5⟩:=both_two (W:=w1) (bx:=bx) (z:=z) (mb:=mb) (mg:=mg) (bd:=bd) (zd:=zd) (bw:=bw) (gw:=gw) (x:=x) (ws:=pokeW lp i ws) HX.out.at_.sh HW.out.inx (by rw [plY_alike HW.out.al,HX0.out.1,pokeW_len,HW.out.len];omega) (pokeW_ok HX.out.px i HW.out.ok) HW.out.st.1 (by have:=HW.out.st.2;omega) o n0
    have HST:=Lib.hid hst
    have HDT:=Lib.hid hdt
    have HI:=Lib.hid k1
    have HNX:Hid (StI x0 y ws2 N (i+1)):=HW.out.next k1 k2 k3 (k4.trans (pokeW_len _ _ _)) k5
    have HPO:Hid (∀ u,Both w1 u bx z mb mg x ws o n0 bd zd bw gw x ws n0→Calls Tryz.prog 13 #[.pointer (some ⟨mb,0,none⟩),.pointer (some ⟨bw,0,none⟩),.slice pp kp cp,.int .i64 (i:Int)] u fun r w'=>r=.returned (.tuple #[])∧Both w1 w' bx z mb mg x (pokeW lp i ws) o n0 bd zd bw gw x (pokeW lp i ws) n0):=fun u q=>pokes_any q HX.out.pokes HX.out.pl N1 HW.out.len HW.out.len i
    clear hst hdt k1 k2 k3 k4 k5
    go_upto_region 14 with (first
      | (go_at_call 13;refine (HPO.out _ HB.out).mono ?_;rintro r u5 ⟨rfl,q⟩;have H5:=Lib.hid q;clear q HPO)
      | (go_at_call 14;refine (HST.out _ H5.out).mono ?_;rintro r u6 ⟨rfl,q⟩;have H6:=Lib.hid q;clear q HST H5)
      | (go_at_call 15;refine (HDT.out _ H6.out).mono ?_;rintro r u7 ⟨rfl,q⟩;have H7:=Lib.hid q;clear q HDT H6))
    clear y9 yb HB
    by_cases hg:greatB y=true
    · have HGR:Hid (Calls Tryz.prog 16 #[.pointer (some ⟨bd,0,none⟩)] u7 fun r w'=>r=.returned (.bool true)∧w'=u7):=H7.out.great hg
      have HZ:Hid (Below W.heap.size W u7):=H0.out.1.trans (H7.out.below.mono H0.out.1.size)
      clear hg
      go_wp2_with (go_at_call 16;refine HGR.out.mono ?_;rintro r u8 ⟨rfl,hw⟩;subst u8)
      go_ret
      exact ⟨rfl,HZ.out⟩
    · have HGR:Hid (Calls Tryz.prog 16 #[.pointer (some ⟨bd,0,none⟩)] u7 fun r w'=>r=.returned (.bool false)∧w'=u7):=H7.out.great (by simpa using hg)
      clear hg
      go_upto_region 16 with (go_at_call 16;refine HGR.out.mono ?_;rintro r u8 ⟨rfl,hw⟩;subst u8)
      clear HGR
      have HSA:Hid (∀ u,Both w1 u bx z mb mg y ws2 o2 n2 bd zd bw gw y ws2 n2→Calls Tryz.prog 17 #[.pointer (some ⟨mb,0,none⟩),.pointer (some ⟨bw,0,none⟩)] u fun r w'=>r=.returned (.bool true)∧Below u.heap.size u w'):=fun u q=>q.sameW
      obtain ⟨pt,hpt⟩:∃ pt:Int,(y.part:Int)=pt:=⟨_,rfl⟩
      have HPH:Hid (∀ u,Both w1 u bx z mb mg y ws2 o2 n2 bd zd bw gw y ws2 n2→Calls Tryz.prog 18 #[.pointer (some ⟨bx,0,none⟩)] u fun r w'=>r=.returned (.int .i64 pt)∧w'=u):=fun u q=>q.phase hpt
      have HPA:Hid (∀ u,Both w1 u bx z mb mg y ws2 o2 n2 bd zd bw gw y ws2 n2→u.cell? ⟨bd,10,none⟩=some (.int .i64 pt)∧bd<u.heap.size):=fun u q=>by rw [← hpt];exact q.dpart
      obtain ⟨tg,htg⟩:∃ tg,y.tag=tg:=⟨_,rfl⟩
      obtain ⟨st,hst⟩:∃ st,y.steps=st:=⟨_,rfl⟩
      obtain ⟨ar,har⟩:∃ ar,y.args=ar:=⟨_,rfl⟩
      obtain ⟨na,hna⟩:∃ na,ar.length=na:=⟨_,rfl⟩
      obtain ⟨m,hm⟩:∃ m,y.m=m:=⟨_,rfl⟩
      obtain ⟨mk,hmk⟩:∃ mk,markY y=mk:=⟨_,rfl⟩
      obtain ⟨nu,hnu⟩:∃ nu,y.num=nu:=⟨_,rfl⟩
      obtain ⟨e0,he0⟩:∃ e0,endJ y m.how=e0:=⟨_,rfl⟩
      obtain ⟨e1,he1⟩:∃ e1,endJ y m.cod=e1:=⟨_,rfl⟩
      obtain ⟨e2,he2⟩:∃ e2,endJ y m.err=e2:=⟨_,rfl⟩
      have HDE:Hid (∀ u,Both w1 u bx z mb mg y ws2 o2 n2 bd zd bw gw y ws2 n2→Calls Tryz.prog 20 #[.pointer (some ⟨bx,0,none⟩)] u fun r w'=>∃ D,r=.returned (.agg (dC tg na m D mk nu e0 e1 e2 st))∧DdAt w' u.heap.size D ar m∧Below u.heap.size u w'):=fun u q=>q.deedF HI.out htg hst har hna hm hmk hnu he0 he1 he2
      have HDD:Hid (∀ u,Both w1 u bx z mb mg y ws2 o2 n2 bd zd bw gw y ws2 n2→Calls Tryz.prog 21 #[.pointer (some ⟨bd,0,none⟩)] u fun r w'=>∃ D,r=.returned (.agg (dC tg na m D mk nu e0 e1 e2 st))∧DdIn w' D ar m∧Below u.heap.size u w'):=fun u q=>q.ddeed HI.out htg hst har hna hm hmk hnu he0 he1 he2
      have HTK:Hid (∀ B u D D',DdAt u B D ar m→DdIn u D' ar m→∀ v:World,v.heap.size=B→B≤u.heap.size→Calls Tryz.prog 19 #[.agg (dC tg na m D mk nu e0 e1 e2 st),.agg (dC tg na m D' mk nu e0 e1 e2 st)] u fun r w'=>r=.returned (.bool true)∧Below B u w'):=fun B u D D' q1 q2 v hv hB=>by
        have fl:=few_lists HI.out
        rw [har,hm,hna] at fl
        subst hv
        exact taken_any q1 q2 hB hna fl.1 fl.2.1 fl.2.2.1 fl.2.2.2
      clear htg hst har hna hm hmk hnu he0 he1 he2 hpt HI
      obtain ⟨p10,pb⟩:=HPA.out _ H7.out
      have b1:(ov != ov)=false:=by simp
      have b2:(er != er)=false:=by simp
      have b3:(pt != pt)=false:=by simp
      go_cut [102] (fun v103 wc=>v103=.bool false∧Hid (Both w1 wc bx z mb mg y ws2 o2 n2 bd zd bw gw y ws2 n2))
      case first =>
        refine wp_region_seq (fun u=>u.cell? ⟨bd,10,none⟩=some (.int .i64 pt) )  ((0,true)::(1,true)::(2,true)::(3,true)::(4,true)::(5,true)::(6,true)::(7,true)::(8,true)::(9,true)::(10,true)::(11,false)::(12,true)::(13,true)::(14,true)::(15,true)::(17,true)::(18,true)::(19,true)::(20,true)::(16,false)::(21,true)::(22,true)::(23,true)::(24,true)::(26,true)::(25,false)::(27,false)::(28,false)::(29,true)::(30,true)::[])  Md.Cv.follows13 (by kernel_rfl) (fun _ _ _ _ _ h=>h)  p10 ?_
        (repeat ((first | (refine wpSeq_take (v:=?_) rfl (by rfl) (fun wq hSq=>?_) ?_;rotate_left;(focus ((try dsimp only at hSq);go_simp;try with_reducible rfl))) | refine wpSeq_skip rfl (by rfl) ?_);simp only [Act.put,List.setIfInBounds_toArray,List.set_cons_zero,List.set_cons_succ]))
        (refine wpSeq_do rfl (by rfl) (fun KK hK=>?_);go_simp)
        go_at_call 17
        refine (HSA.out _ (H7.out.on ((Same.drew _).below _))).mono ?_
        rintro r u8 ⟨rfl,q⟩
        have H8:=Lib.hid ((H7.out.on ((Same.drew _).below _)).on q)
        clear q
        obtain ⟨p10',pb'⟩:=HPA.out _ H8.out
        refine hK.out _ _ p10' ?_
        (clear hK KK;try simp only [Act.put,List.setIfInBounds_toArray,List.set_cons_zero,List.set_cons_succ])
        (repeat ((first | (refine wpSeq_take (v:=?_) rfl (by rfl) (fun wq hSq=>?_) ?_;rotate_left;(focus ((try dsimp only at hSq);go_simp;try with_reducible rfl))) | refine wpSeq_skip rfl (by rfl) ?_);simp only [Act.put,List.setIfInBounds_toArray,List.set_cons_zero,List.set_cons_succ]))
        (refine wpSeq_do rfl (by rfl) (fun KK hK=>?_);go_simp)
        go_at_call 18
        refine (HPH.out _ H8.out).mono ?_
        rintro r u9 ⟨rfl,hw⟩
        subst u9
        refine hK.out _ _ p10' ?_
        (clear hK KK;try simp only [Act.put,List.setIfInBounds_toArray,List.set_cons_zero,List.set_cons_succ])
        (repeat ((first | (refine wpSeq_take (v:=?_) rfl (by rfl) (fun wq hSq=>?_) ?_;rotate_left;(focus ((try dsimp only at hSq);go_simp;try with_reducible rfl))) | refine wpSeq_skip rfl (by rfl) ?_);simp only [Act.put,List.setIfInBounds_toArray,List.set_cons_zero,List.set_cons_succ]))
        (refine wpSeq_do rfl (by rfl) (fun KK hK=>?_);go_simp)
        go_at_call 20
        refine (HDE.out _ H8.out).mono ?_
        rintro r u9 ⟨D,rfl,q1,q2⟩
        have H9:=Lib.hid (And.intro (H8.out.on q2) (And.intro q1 q2))
        clear q1 q2
        obtain ⟨p10'',pb''⟩:=HPA.out _ H9.out.1
        refine hK.out _ _ p10'' ?_
        (clear hK KK;try simp only [Act.put,List.setIfInBounds_toArray,List.set_cons_zero,List.set_cons_succ])
        (refine wpSeq_do rfl (by rfl) (fun KK hK=>?_);go_simp)
        go_at_call 21
        refine (HDD.out _ H9.out.1).mono ?_
        rintro r u10 ⟨D',rfl,q1,q2⟩
        have H10:=Lib.hid (And.intro q1 (And.intro (H9.out.2.1.on q2) (H9.out.2.2.trans (q2.mono H9.out.2.2.size))))
        clear q1 q2 p10'' pb''
        obtain ⟨p10'',pb''⟩:=HPA.out _ (H8.out.on H10.out.2.2)
        refine hK.out _ _ p10'' ?_
        (clear hK KK;try simp only [Act.put,List.setIfInBounds_toArray,List.set_cons_zero,List.set_cons_succ])
        (refine wpSeq_do rfl (by rfl) (fun KK hK=>?_);go_simp)
        go_at_call 19
        refine (HTK.out _ _ _ _ H10.out.2.1 H10.out.1 _ rfl H10.out.2.2.size).mono ?_
        rintro r u11 ⟨rfl,q⟩
        have H11:=Lib.hid (H8.out.on (H10.out.2.2.trans q))
        clear q p10'' pb''
        obtain ⟨p10'',pb''⟩:=HPA.out _ H11.out
        refine hK.out _ _ p10'' ?_
        (clear hK KK;try simp only [Act.put,List.setIfInBounds_toArray,List.set_cons_zero,List.set_cons_succ])
        (repeat ((first | (refine wpSeq_take (v:=?_) rfl (by rfl) (fun wq hSq=>?_) ?_;rotate_left;(focus ((try dsimp only at hSq);go_simp;try with_reducible rfl))) | refine wpSeq_skip rfl (by rfl) ?_);simp only [Act.put,List.setIfInBounds_toArray,List.set_cons_zero,List.set_cons_succ]))
        refine wpSeq_nil ?_
        go_wp2_with fail
        go_meet
        exact ⟨rfl,H11.out⟩
      case rest =>
        obtain ⟨rfl,H8⟩:=hcut
        clear HSA HPH HDE HDD HTK b1 b2 b3 p10 pb H7 HPA
        go_wp2_with fail
        exact ⟨⟨i+1,by first | rfl | (congr 1),y,ws2,o2,n2,HNX.out,H8.out⟩,by simp [intOf];omega⟩
end
end Go.Proofs.YteinilmecnlanaaGreatDoor.Ww
