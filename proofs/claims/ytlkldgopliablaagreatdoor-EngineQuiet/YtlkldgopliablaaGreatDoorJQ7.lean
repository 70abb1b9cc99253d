import Derived.Test.YtlkldgopliablaaGreatDoorJQ6
import Derived.Deep.CutBlock
import Derived.Test.YtlkldgopliablaaGreatDoorJQ2
set_option maxRecDepth 100000
set_option maxHeartbeats 8000000
namespace Go.Proofs.YtlkldgopliablaaGreatDoor.En
open Go.ChangeShapes Go.WideShapes Go.ChangeAt Go.RowKit Num Ww
open Rr (Rx a18 InX okW u64B Alike step_in newX a29)
set_option linter.unusedVariables false
def ag3 (n:Nat):Code->Option Code
 | .seq x y=>match ag3 n x with
  | some c=>some c
  | none=>ag3 n y
 | .block m c=>if m=n then some (.block m c) else ag3 n c
 | .scope c=>ag3 n c
 | .loop c=>ag3 n c
 | .cond _ x y=>match ag3 n x with
  | some c=>some c
  | none=>ag3 n y
 | _=>none
theorem bC6 {w:World} {g c n k:Nat} {y:Nat->Int} (h:RowAt 3 w (some ⟨g,0,none⟩) c (i64s (Sd.mix y n k))):RowAt 3 (w.setCell ⟨g,k,none⟩ (.int .i64 (y k))) (some ⟨g,0,none⟩) c (i64s (Sd.mix y n (k+1))):=by
 have:=(Sd.row_put h k (.int .i64 (y k))).1;rw[<- Sd.mix_set y n k];have e:(i64s (Sd.mix y n k)).set k (.int .i64 (y k))=i64s ((Sd.mix y n k).set k (y k)):=by simp[i64s,List.map_set]
 rwa[e]at this
theorem aw4 (f:Nat->Bool):∀ n,cu f n<=n
 | 0=>zE _
 | n+1=>by
  have:=aw4 f n
  show cu f n+(f n).toNat<=n+1
  cases f n <;> simp <;> omega
def Qu (s:Su) (Z:Es) (i:Nat):Prop:=HAE Z.X.H/\TG s Z.X/\i+leE 510 Z.X.H.E<=12240/\Z.X.H.N<=4000+8*i
theorem bF8 {s:Su} (hs:SuIn s) (Z:Es):runZ s Z (yOf s fun i=>(i:Int)) s.n=runZ s Z (fun i=>i) s.n:=aM7 s Z s.n fun i hi=>by
 have nb:=hs.nb
 show ((i:Int) % s.b).toNat=i
 rw[Int.emod_eq_of_lt (by omega) (by omega)]
 rfl
theorem Qu.next {s:Su} {Z:Es} {i:Nat} (hs:SuIn s) (hc:s.c<=100) (wi:WI s Z.X) (h:Qu s Z i) (hn:ovB Z.X.H.E s.n=false):Qu s (runZ s Z (yOf s fun i=>(i:Int)) s.n) (i+1):=by
 obtain⟨h1,h2,h3,h4⟩:=h;have hx:∃ t,t<s.n/\¬ finE Z.X.H.E t:=by
  refine Classical.byContradiction fun q=>?_
  have:ovB Z.X.H.E s.n=true:=(aG2 s.n).2 fun u hu=>Classical.byContradiction fun z=>q ⟨u,hu,z⟩
  rw[this]at hn
  cases hn
 have l:=b11 hs wi h1 hc hx;have id':∀ k,k<s.n->(fun i:Nat=>i) k<s.n:=fun k hk=>hk
 have n1:=(ai3 hs wi s.n id').2;have n8:=(wi.n8 hs).2;rw[bF8 hs];exact⟨aC0 hs wi h1 s.n id',h2.run hs wi s.n id',by omega,by omega⟩
section
variable {n:Nat} {W u:World} {F:Nat->Ex} {s:Su} {G:List (Nat × Obj)} {a b c:Es}
theorem Mz.wi (h:Mz n W u F s G a b c) (hn:0<n):WI s a.X:=by
 obtain⟨V,h⟩:=h;exact(h.en 0 hn).wi
theorem Mz.over (h:Mz n W u F s G a b c) (hs:SuIn s) (hn:0<n):Calls Tryz.prog 23 #[.pointer (some ⟨(F 0).b,0,none⟩)] u fun r w'=>r=.returned (.bool (ovB a.X.H.E s.n))/\Hid (Mz n W w' F s G a b c):=by
 obtain⟨V,h⟩:=h;have h0:Eng u (F 0) (V 0) s a:=h.en 0 hn;refine(over_any h0 hs).mono ?_;rintro r w' ⟨rfl,q⟩;exact⟨rfl,V,h.on (q.below _)⟩
end
theorem bM9 (w:World) {ub:World} {g nb:Nat} (hn:nb<=8) (H0:Hid (RowAt 3 w (some ⟨g,0,none⟩) nb (i64s (Sd.mix (fun i=>(i:Int)) nb 0))/\Bl ub w/\ub.heap.size<=g)) (D:Code) (hD:D=(Tryz.f8.body.bind (ag3 0)).getD .skip) (c0 c1 c2 c3 c4 c5 c6 c7 c8 c10 c11 c12 c13 c14 c15 c16 c17 c18 c19 c20 c21 c22 c23 c24 c25 c26 c27 c28 c29 c30 c31 c32 c33 c34 c35 c36 c37 c38 c39 c40 c41 c42 c43 c44 c45 c46 c47 c48 c49 c50 c51 c52 c55 c56 c57 c58 c59 c60 c61 c62 c63 c64 c65 c66 c67 c68 c69 c70 c71 c72 c73 c74 c75 c76 c77 c78 c79 c80 c81 c82 c83 c84 c85 c86 c87 c88 c89 c90 c91 c92 c93 c94 c95 c96 c97 c98 c99 c100 c101 c102 c103 c104 c105 c106 c107 c108 c109 c110 c111 c112 c113 c114 c115 c116 c117 c118 c119 c120 c121 c122 c123 c124 c125 c126 c127 c128 c129 c130 c131 c132 c133 c134 c135 c136 c137 c138 c139 c140 c141 c142 c143 c144 c145 c146 c147 c148 c149 c150 c151 c152 c153 c154 c155 c156 c157 c158 c159 c160 c161 c162 c163 c164 c165 c166 c167 c168 c169 c170 c171 c172 c173 c174 c175 c176 c177 c178 c179 c180 c181 c182 c183 c184 c185 c186 c187 c188 c189 c190 c191 c192 c193 c194 c195 c196 c197 c198 c199 c200 c201 c202 c203 c204 c205 c206 c207 c208 c209 c210 c211 c212 c213 c214 c215 c216 c217 c218 c219 c220 c221 c222 c223 c224 c225 c226 c227 c228 c229 c230 c231 c232 c233 c234:Value) (Q:Exit->Act->World->Prop) (hQ:∀ v t1 t2 d u,Q (.panic v) ⟨t1,d⟩ u->Q (.panic v) ⟨t2,d⟩ u) (hK:∀ (u10 u55 u56 u57 u58 u59 u60 u61:Value) (wz:World),RowAt 3 wz (some ⟨g,0,none⟩) nb (i64s (Sd.mix (fun i=>(i:Int)) nb nb))->Bl ub wz->Q .normal ⟨#[c0,c1,c2,c3,c4,c5,c6,c7,c8,.slice (some ⟨g,0,none⟩) nb nb,u10,c11,c12,c13,c14,c15,c16,c17,c18,c19,c20,c21,c22,c23,c24,c25,c26,c27,c28,c29,c30,c31,c32,c33,c34,c35,c36,c37,c38,c39,c40,c41,c42,c43,c44,c45,c46,c47,c48,c49,c50,c51,c52,.int .i64 (nb:Int),.int .i64 (nb:Int),u55,u56,u57,u58,u59,u60,u61,c62,c63,c64,c65,c66,c67,c68,c69,c70,c71,c72,c73,c74,c75,c76,c77,c78,c79,c80,c81,c82,c83,c84,c85,c86,c87,c88,c89,c90,c91,c92,c93,c94,c95,c96,c97,c98,c99,c100,c101,c102,c103,c104,c105,c106,c107,c108,c109,c110,c111,c112,c113,c114,c115,c116,c117,c118,c119,c120,c121,c122,c123,c124,c125,c126,c127,c128,c129,c130,c131,c132,c133,c134,c135,c136,c137,c138,c139,c140,c141,c142,c143,c144,c145,c146,c147,c148,c149,c150,c151,c152,c153,c154,c155,c156,c157,c158,c159,c160,c161,c162,c163,c164,c165,c166,c167,c168,c169,c170,c171,c172,c173,c174,c175,c176,c177,c178,c179,c180,c181,c182,c183,c184,c185,c186,c187,c188,c189,c190,c191,c192,c193,c194,c195,c196,c197,c198,c199,c200,c201,c202,c203,c204,c205,c206,c207,c208,c209,c210,c211,c212,c213,c214,c215,c216,c217,c218,c219,c220,c221,c222,c223,c224,c225,c226,c227,c228,c229,c230,c231,c232,c233,c234],[]⟩ wz):D.wp Tryz.prog Q ⟨#[c0,c1,c2,c3,c4,c5,c6,c7,c8,.slice (some ⟨g,0,none⟩) nb nb,c10,c11,c12,c13,c14,c15,c16,c17,c18,c19,c20,c21,c22,c23,c24,c25,c26,c27,c28,c29,c30,c31,c32,c33,c34,c35,c36,c37,c38,c39,c40,c41,c42,c43,c44,c45,c46,c47,c48,c49,c50,c51,c52,.int .i64 (nb:Int),.int .i64 0,c55,c56,c57,c58,c59,c60,c61,c62,c63,c64,c65,c66,c67,c68,c69,c70,c71,c72,c73,c74,c75,c76,c77,c78,c79,c80,c81,c82,c83,c84,c85,c86,c87,c88,c89,c90,c91,c92,c93,c94,c95,c96,c97,c98,c99,c100,c101,c102,c103,c104,c105,c106,c107,c108,c109,c110,c111,c112,c113,c114,c115,c116,c117,c118,c119,c120,c121,c122,c123,c124,c125,c126,c127,c128,c129,c130,c131,c132,c133,c134,c135,c136,c137,c138,c139,c140,c141,c142,c143,c144,c145,c146,c147,c148,c149,c150,c151,c152,c153,c154,c155,c156,c157,c158,c159,c160,c161,c162,c163,c164,c165,c166,c167,c168,c169,c170,c171,c172,c173,c174,c175,c176,c177,c178,c179,c180,c181,c182,c183,c184,c185,c186,c187,c188,c189,c190,c191,c192,c193,c194,c195,c196,c197,c198,c199,c200,c201,c202,c203,c204,c205,c206,c207,c208,c209,c210,c211,c212,c213,c214,c215,c216,c217,c218,c219,c220,c221,c222,c223,c224,c225,c226,c227,c228,c229,c230,c231,c232,c233,c234],[]⟩ w:=by
 have HK:Hid (∀ (u10 u55 u56 u57 u58 u59 u60 u61:Value) (wz:World),RowAt 3 wz (some ⟨g,0,none⟩) nb (i64s (Sd.mix (fun i=>(i:Int)) nb nb))->Bl ub wz->Q .normal ⟨#[c0,c1,c2,c3,c4,c5,c6,c7,c8,.slice (some ⟨g,0,none⟩) nb nb,u10,c11,c12,c13,c14,c15,c16,c17,c18,c19,c20,c21,c22,c23,c24,c25,c26,c27,c28,c29,c30,c31,c32,c33,c34,c35,c36,c37,c38,c39,c40,c41,c42,c43,c44,c45,c46,c47,c48,c49,c50,c51,c52,.int .i64 (nb:Int),.int .i64 (nb:Int),u55,u56,u57,u58,u59,u60,u61,c62,c63,c64,c65,c66,c67,c68,c69,c70,c71,c72,c73,c74,c75,c76,c77,c78,c79,c80,c81,c82,c83,c84,c85,c86,c87,c88,c89,c90,c91,c92,c93,c94,c95,c96,c97,c98,c99,c100,c101,c102,c103,c104,c105,c106,c107,c108,c109,c110,c111,c112,c113,c114,c115,c116,c117,c118,c119,c120,c121,c122,c123,c124,c125,c126,c127,c128,c129,c130,c131,c132,c133,c134,c135,c136,c137,c138,c139,c140,c141,c142,c143,c144,c145,c146,c147,c148,c149,c150,c151,c152,c153,c154,c155,c156,c157,c158,c159,c160,c161,c162,c163,c164,c165,c166,c167,c168,c169,c170,c171,c172,c173,c174,c175,c176,c177,c178,c179,c180,c181,c182,c183,c184,c185,c186,c187,c188,c189,c190,c191,c192,c193,c194,c195,c196,c197,c198,c199,c200,c201,c202,c203,c204,c205,c206,c207,c208,c209,c210,c211,c212,c213,c214,c215,c216,c217,c218,c219,c220,c221,c222,c223,c224,c225,c226,c227,c228,c229,c230,c231,c232,c233,c234],[]⟩ wz):=hK;clear hK;rw[hD];clear hD
 conv=>arg 2;whnf
 go_wp2_with fail
 go_loopw [54] (fun v54 wr=>∃ k:Nat,v54=.int .i64 (k:Int)/\k<=nb/\Hid (RowAt 3 wr (some ⟨g,0,none⟩) nb (i64s (Sd.mix (fun i=>(i:Int)) nb k))/\Bl ub wr)) (fun v54 _=>nb - (intOf v54).toNat)
 case atStart=>exact⟨0,rfl,zV _,H0.out.1,H0.out.2.1⟩
 case round =>
  obtain⟨k,rfl,hk,H⟩:=hrel
  by_cases hlt:k<nb
  ·have hlt':(k:Int)<(nb:Int):=by omega
   have hln:¬ (nb:Int)<=(k:Int):=by omega
   obtain⟨c0,f0,lg⟩:=Sd.row_get H.out.1 (j:=k) (v:=.int .i64 0) (by simp[i64s,Sd.mix,hlt]);go_wp2_with fail;exact⟨⟨k+1,by first | rfl | (congr 1),by omega,bC6 H.out.1,H.out.2.setCell H0.out.2.2 _⟩,by simp[intOf];omega⟩
  ·obtain rfl:k=nb:=by omega
   have hlt':¬ (k:Int)<(k:Int):=by omega
   go_wp2_with fail;exact HK.out _ _ _ _ _ _ _ _ wr H.out.1 H.out.2
theorem bx3 (w:World) {pt:Option Addr} {ct n:Nat} {s:Su} (hn:n<=8) (HL:Hid (s.cl.length=n/\ThAt w pt s.cl/\∀ k,k<=n->nCalls s k<=512)) (D:Code) (hD:D=(Tryz.f8.body.bind (ag3 2)).getD .skip) (c0 c1 c2 c3 c4 c5 c6 c7 c8 c9 c10 c12 c13 c14 c15 c16 c17 c18 c19 c20 c21 c22 c23 c24 c25 c26 c27 c28 c29 c30 c31 c32 c33 c34 c35 c36 c37 c38 c39 c40 c41 c42 c43 c44 c45 c46 c47 c48 c49 c50 c51 c52 c53 c54 c55 c56 c57 c58 c59 c60 c61 c62 c66 c67 c68 c69 c70 c71 c72 c73 c74 c75 c76 c77 c78 c79 c80 c81 c82 c83 c84 c85 c86 c87 c88 c89 c90 c91 c92 c93 c94 c95 c96 c97 c98 c99 c100 c101 c102 c103 c104 c105 c106 c107 c108 c109 c110 c111 c112 c113 c114 c115 c116 c117 c118 c119 c120 c121 c122 c123 c124 c125 c126 c127 c128 c129 c130 c131 c132 c133 c134 c135 c136 c137 c138 c139 c140 c141 c142 c143 c144 c145 c146 c147 c148 c149 c150 c151 c152 c153 c154 c155 c156 c157 c158 c159 c160 c161 c162 c163 c164 c165 c166 c167 c168 c169 c170 c171 c172 c173 c174 c175 c176 c177 c178 c179 c180 c181 c182 c183 c184 c185 c186 c187 c188 c189 c190 c191 c192 c193 c194 c195 c196 c197 c198 c199 c200 c201 c202 c203 c204 c205 c206 c207 c208 c209 c210 c211 c212 c213 c214 c215 c216 c217 c218 c219 c220 c221 c222 c223 c224 c225 c226 c227 c228 c229 c230 c231 c232 c233 c234:Value) (Q:Exit->Act->World->Prop) (hQ:∀ v t1 t2 d u,Q (.panic v) ⟨t1,d⟩ u->Q (.panic v) ⟨t2,d⟩ u) (hK:∀ (u13 u66 u67 u68 u69 u70 u71 u72 u73:Value) (wz:World),wz=w->Q .normal ⟨#[c0,c1,c2,c3,c4,c5,c6,c7,c8,c9,c10,.int .i64 (nCalls s n:Int),c12,u13,c14,c15,c16,c17,c18,c19,c20,c21,c22,c23,c24,c25,c26,c27,c28,c29,c30,c31,c32,c33,c34,c35,c36,c37,c38,c39,c40,c41,c42,c43,c44,c45,c46,c47,c48,c49,c50,c51,c52,c53,c54,c55,c56,c57,c58,c59,c60,c61,c62,.slice pt n ct,.int .i64 (n:Int),.int .i64 (n:Int),u66,u67,u68,u69,u70,u71,u72,u73,c74,c75,c76,c77,c78,c79,c80,c81,c82,c83,c84,c85,c86,c87,c88,c89,c90,c91,c92,c93,c94,c95,c96,c97,c98,c99,c100,c101,c102,c103,c104,c105,c106,c107,c108,c109,c110,c111,c112,c113,c114,c115,c116,c117,c118,c119,c120,c121,c122,c123,c124,c125,c126,c127,c128,c129,c130,c131,c132,c133,c134,c135,c136,c137,c138,c139,c140,c141,c142,c143,c144,c145,c146,c147,c148,c149,c150,c151,c152,c153,c154,c155,c156,c157,c158,c159,c160,c161,c162,c163,c164,c165,c166,c167,c168,c169,c170,c171,c172,c173,c174,c175,c176,c177,c178,c179,c180,c181,c182,c183,c184,c185,c186,c187,c188,c189,c190,c191,c192,c193,c194,c195,c196,c197,c198,c199,c200,c201,c202,c203,c204,c205,c206,c207,c208,c209,c210,c211,c212,c213,c214,c215,c216,c217,c218,c219,c220,c221,c222,c223,c224,c225,c226,c227,c228,c229,c230,c231,c232,c233,c234],[]⟩ wz):D.wp Tryz.prog Q ⟨#[c0,c1,c2,c3,c4,c5,c6,c7,c8,c9,c10,.int .i64 0,c12,c13,c14,c15,c16,c17,c18,c19,c20,c21,c22,c23,c24,c25,c26,c27,c28,c29,c30,c31,c32,c33,c34,c35,c36,c37,c38,c39,c40,c41,c42,c43,c44,c45,c46,c47,c48,c49,c50,c51,c52,c53,c54,c55,c56,c57,c58,c59,c60,c61,c62,.slice pt n ct,.int .i64 (n:Int),.int .i64 0,c66,c67,c68,c69,c70,c71,c72,c73,c74,c75,c76,c77,c78,c79,c80,c81,c82,c83,c84,c85,c86,c87,c88,c89,c90,c91,c92,c93,c94,c95,c96,c97,c98,c99,c100,c101,c102,c103,c104,c105,c106,c107,c108,c109,c110,c111,c112,c113,c114,c115,c116,c117,c118,c119,c120,c121,c122,c123,c124,c125,c126,c127,c128,c129,c130,c131,c132,c133,c134,c135,c136,c137,c138,c139,c140,c141,c142,c143,c144,c145,c146,c147,c148,c149,c150,c151,c152,c153,c154,c155,c156,c157,c158,c159,c160,c161,c162,c163,c164,c165,c166,c167,c168,c169,c170,c171,c172,c173,c174,c175,c176,c177,c178,c179,c180,c181,c182,c183,c184,c185,c186,c187,c188,c189,c190,c191,c192,c193,c194,c195,c196,c197,c198,c199,c200,c201,c202,c203,c204,c205,c206,c207,c208,c209,c210,c211,c212,c213,c214,c215,c216,c217,c218,c219,c220,c221,c222,c223,c224,c225,c226,c227,c228,c229,c230,c231,c232,c233,c234],[]⟩ w:=by
 have HK:Hid (∀ (u13 u66 u67 u68 u69 u70 u71 u72 u73:Value) (wz:World),wz=w->Q .normal ⟨#[c0,c1,c2,c3,c4,c5,c6,c7,c8,c9,c10,.int .i64 (nCalls s n:Int),c12,u13,c14,c15,c16,c17,c18,c19,c20,c21,c22,c23,c24,c25,c26,c27,c28,c29,c30,c31,c32,c33,c34,c35,c36,c37,c38,c39,c40,c41,c42,c43,c44,c45,c46,c47,c48,c49,c50,c51,c52,c53,c54,c55,c56,c57,c58,c59,c60,c61,c62,.slice pt n ct,.int .i64 (n:Int),.int .i64 (n:Int),u66,u67,u68,u69,u70,u71,u72,u73,c74,c75,c76,c77,c78,c79,c80,c81,c82,c83,c84,c85,c86,c87,c88,c89,c90,c91,c92,c93,c94,c95,c96,c97,c98,c99,c100,c101,c102,c103,c104,c105,c106,c107,c108,c109,c110,c111,c112,c113,c114,c115,c116,c117,c118,c119,c120,c121,c122,c123,c124,c125,c126,c127,c128,c129,c130,c131,c132,c133,c134,c135,c136,c137,c138,c139,c140,c141,c142,c143,c144,c145,c146,c147,c148,c149,c150,c151,c152,c153,c154,c155,c156,c157,c158,c159,c160,c161,c162,c163,c164,c165,c166,c167,c168,c169,c170,c171,c172,c173,c174,c175,c176,c177,c178,c179,c180,c181,c182,c183,c184,c185,c186,c187,c188,c189,c190,c191,c192,c193,c194,c195,c196,c197,c198,c199,c200,c201,c202,c203,c204,c205,c206,c207,c208,c209,c210,c211,c212,c213,c214,c215,c216,c217,c218,c219,c220,c221,c222,c223,c224,c225,c226,c227,c228,c229,c230,c231,c232,c233,c234],[]⟩ wz):=hK;clear hK;rw[hD];clear hD
 conv=>arg 2;whnf
 go_wp2_with fail
 go_loopw [11,65] (fun v11 v65 wr=>∃ k:Nat,v65=.int .i64 (k:Int)/\v11=.int .i64 (nCalls s k:Int)/\k<=n/\wr=w) (fun _ v65 _=>n - (intOf v65).toNat)
 case atStart=>exact⟨0,rfl,rfl,zV _,by first | rfl | trivial⟩
 case round =>
  obtain⟨k,rfl,rfl,hk,hwr⟩:=hrel;subst wr
  by_cases hlt:k<n
  ·have hlt':(k:Int)<(n:Int):=by omega
   have hln:¬ (n:Int)<=(k:Int):=by omega
   obtain⟨g,o,qa,c,e,lg,cc,_,_⟩:=HL.out.2.1 k (by rw[HL.out.1];exact hlt);subst e;have HN:Hid (nCalls s (k+1)=nCalls s k+(s.cl.getD k []).length):=rfl;have b1:=HL.out.2.2 (k+1) (by omega);rw[HN.out]at b1
   generalize (s.cl.getD k []).length=m at *
   generalize nCalls s k=t at *
   have b2:(t:Int)+(m:Int)<=512:=by omega
   go_wp2_with fail;exact⟨⟨k+1,by first | rfl | (congr 1),by rw[HN.out];first | rfl | (congr 1),by omega,by first | rfl | trivial⟩,by simp[intOf];omega⟩
  ·obtain rfl:k=n:=by omega
   have hlt':¬ (k:Int)<(k:Int):=by omega
   go_wp2_with fail;exact HK.out _ _ _ _ _ _ _ _ _ _ rfl
theorem bc8 (w:World) {W0:World} {F:Nat->Ex} {s:Su} {G:List (Nat × Obj)} {g nb:Nat} (HS:Hid (SuIn s/\s.c<=100/\s.n=nb/\nb<=8)) (HI:Hid (∀ u Z,Mz 1 W0 u F s G Z (Z0 s) (Z0 s)->Sd.IntsAt u (some ⟨g,0,none⟩) nb (fun i=>(i:Int)))) (H0:Hid (∃ Z,Mz 1 W0 w F s G Z (Z0 s) (Z0 s)/\Qu s Z 0)) (D:Code) (hD:D=(Tryz.f8.body.bind (ag3 4)).getD .skip) (c0 c1 c2 c3 c4 c5 c7 c8 c10 c11 c12 c13 c15 c16 c17 c18 c19 c20 c21 c22 c23 c24 c25 c26 c27 c28 c29 c30 c31 c32 c33 c34 c35 c36 c37 c38 c39 c40 c41 c42 c43 c44 c45 c46 c47 c48 c49 c50 c51 c52 c53 c54 c55 c56 c57 c58 c59 c60 c61 c62 c63 c64 c65 c66 c67 c68 c69 c70 c71 c72 c73 c74 c75 c76 c77 c78 c79 c80 c81 c82 c83 c84 c85 c86 c87 c88 c89 c90 c91 c92 c93 c94 c95 c96 c97 c98 c99 c100 c101 c102 c103 c104 c105 c106 c107 c108 c109 c110 c111 c112 c113 c114 c115 c116 c117 c118 c119 c120 c121 c122 c123 c124 c125 c126 c127 c128 c129 c130 c131 c132 c133 c134 c135 c136 c137 c138 c139 c140 c141 c142 c143 c144 c145 c146 c147 c148 c149 c150 c151 c152 c153 c154 c155 c156 c157 c158 c159 c160 c161 c162 c163 c164 c165 c166 c167 c168 c169 c170 c171 c172 c173 c174 c175 c176 c177 c178 c179 c180 c181 c182 c183 c184 c185 c186 c187 c188 c189 c190 c191 c192 c193 c194 c195 c196 c197 c198 c199 c200 c201 c202 c203 c204 c205 c206 c207 c208 c209 c210 c211 c212 c213 c214 c215 c216 c217 c218 c219 c220 c221 c222 c223 c224 c225 c226 c227 c228 c229 c230 c231 c232 c233 c234:Value) (Q:Exit->Act->World->Prop) (hQ:∀ v t1 t2 d u,Q (.panic v) ⟨t1,d⟩ u->Q (.panic v) ⟨t2,d⟩ u) (hK:∀ (u14 u83 u84 u85 u86 u87 u88 u89 u90 u91 u92 u93 u94:Value) (wz:World) (Z:Es),Mz 1 W0 wz F s G Z (Z0 s) (Z0 s)->HAE Z.X.H->TG s Z.X->ovB Z.X.H.E s.n=true->Q .normal ⟨#[c0,c1,c2,c3,c4,c5,.pointer (some ⟨(F 0).b,0,none⟩),c7,c8,.slice (some ⟨g,0,none⟩) nb nb,c10,c11,c12,c13,u14,c15,c16,c17,c18,c19,c20,c21,c22,c23,c24,c25,c26,c27,c28,c29,c30,c31,c32,c33,c34,c35,c36,c37,c38,c39,c40,c41,c42,c43,c44,c45,c46,c47,c48,c49,c50,c51,c52,c53,c54,c55,c56,c57,c58,c59,c60,c61,c62,c63,c64,c65,c66,c67,c68,c69,c70,c71,c72,c73,c74,c75,c76,c77,c78,c79,c80,c81,c82,u83,u84,u85,u86,u87,u88,u89,u90,u91,u92,u93,u94,c95,c96,c97,c98,c99,c100,c101,c102,c103,c104,c105,c106,c107,c108,c109,c110,c111,c112,c113,c114,c115,c116,c117,c118,c119,c120,c121,c122,c123,c124,c125,c126,c127,c128,c129,c130,c131,c132,c133,c134,c135,c136,c137,c138,c139,c140,c141,c142,c143,c144,c145,c146,c147,c148,c149,c150,c151,c152,c153,c154,c155,c156,c157,c158,c159,c160,c161,c162,c163,c164,c165,c166,c167,c168,c169,c170,c171,c172,c173,c174,c175,c176,c177,c178,c179,c180,c181,c182,c183,c184,c185,c186,c187,c188,c189,c190,c191,c192,c193,c194,c195,c196,c197,c198,c199,c200,c201,c202,c203,c204,c205,c206,c207,c208,c209,c210,c211,c212,c213,c214,c215,c216,c217,c218,c219,c220,c221,c222,c223,c224,c225,c226,c227,c228,c229,c230,c231,c232,c233,c234],[]⟩ wz):D.wp Tryz.prog Q ⟨#[c0,c1,c2,c3,c4,c5,.pointer (some ⟨(F 0).b,0,none⟩),c7,c8,.slice (some ⟨g,0,none⟩) nb nb,c10,c11,c12,c13,.int .i64 0,c15,c16,c17,c18,c19,c20,c21,c22,c23,c24,c25,c26,c27,c28,c29,c30,c31,c32,c33,c34,c35,c36,c37,c38,c39,c40,c41,c42,c43,c44,c45,c46,c47,c48,c49,c50,c51,c52,c53,c54,c55,c56,c57,c58,c59,c60,c61,c62,c63,c64,c65,c66,c67,c68,c69,c70,c71,c72,c73,c74,c75,c76,c77,c78,c79,c80,c81,c82,c83,c84,c85,c86,c87,c88,c89,c90,c91,c92,c93,c94,c95,c96,c97,c98,c99,c100,c101,c102,c103,c104,c105,c106,c107,c108,c109,c110,c111,c112,c113,c114,c115,c116,c117,c118,c119,c120,c121,c122,c123,c124,c125,c126,c127,c128,c129,c130,c131,c132,c133,c134,c135,c136,c137,c138,c139,c140,c141,c142,c143,c144,c145,c146,c147,c148,c149,c150,c151,c152,c153,c154,c155,c156,c157,c158,c159,c160,c161,c162,c163,c164,c165,c166,c167,c168,c169,c170,c171,c172,c173,c174,c175,c176,c177,c178,c179,c180,c181,c182,c183,c184,c185,c186,c187,c188,c189,c190,c191,c192,c193,c194,c195,c196,c197,c198,c199,c200,c201,c202,c203,c204,c205,c206,c207,c208,c209,c210,c211,c212,c213,c214,c215,c216,c217,c218,c219,c220,c221,c222,c223,c224,c225,c226,c227,c228,c229,c230,c231,c232,c233,c234],[]⟩ w:=by
 have HK:Hid (∀ (u14 u83 u84 u85 u86 u87 u88 u89 u90 u91 u92 u93 u94:Value) (wz:World) (Z:Es),Mz 1 W0 wz F s G Z (Z0 s) (Z0 s)->HAE Z.X.H->TG s Z.X->ovB Z.X.H.E s.n=true->Q .normal ⟨#[c0,c1,c2,c3,c4,c5,.pointer (some ⟨(F 0).b,0,none⟩),c7,c8,.slice (some ⟨g,0,none⟩) nb nb,c10,c11,c12,c13,u14,c15,c16,c17,c18,c19,c20,c21,c22,c23,c24,c25,c26,c27,c28,c29,c30,c31,c32,c33,c34,c35,c36,c37,c38,c39,c40,c41,c42,c43,c44,c45,c46,c47,c48,c49,c50,c51,c52,c53,c54,c55,c56,c57,c58,c59,c60,c61,c62,c63,c64,c65,c66,c67,c68,c69,c70,c71,c72,c73,c74,c75,c76,c77,c78,c79,c80,c81,c82,u83,u84,u85,u86,u87,u88,u89,u90,u91,u92,u93,u94,c95,c96,c97,c98,c99,c100,c101,c102,c103,c104,c105,c106,c107,c108,c109,c110,c111,c112,c113,c114,c115,c116,c117,c118,c119,c120,c121,c122,c123,c124,c125,c126,c127,c128,c129,c130,c131,c132,c133,c134,c135,c136,c137,c138,c139,c140,c141,c142,c143,c144,c145,c146,c147,c148,c149,c150,c151,c152,c153,c154,c155,c156,c157,c158,c159,c160,c161,c162,c163,c164,c165,c166,c167,c168,c169,c170,c171,c172,c173,c174,c175,c176,c177,c178,c179,c180,c181,c182,c183,c184,c185,c186,c187,c188,c189,c190,c191,c192,c193,c194,c195,c196,c197,c198,c199,c200,c201,c202,c203,c204,c205,c206,c207,c208,c209,c210,c211,c212,c213,c214,c215,c216,c217,c218,c219,c220,c221,c222,c223,c224,c225,c226,c227,c228,c229,c230,c231,c232,c233,c234],[]⟩ wz):=hK;clear hK;rw[hD];clear hD
 conv=>arg 2;whnf
 go_wp2_with fail
 go_loopw [14] (fun v14 wr=>∃ i:Nat,v14=.int .i64 (i:Int)/\i<=12240/\Hid (∃ Z,Mz 1 W0 wr F s G Z (Z0 s) (Z0 s)/\Qu s Z i)) (fun v14 _=>16800 - (intOf v14).toNat)
 case atStart=>exact⟨0,rfl,by omega,H0.out⟩
 case round =>
  obtain⟨i,rfl,hi,H⟩:=hrel;clear H0;have hi':(i:Int)<16800:=by omega
  obtain⟨Z,hM,hQ⟩:=H.out;have HM:=zH hM;have HQ:=zH hQ;have HOV:=zH (hM.over HS.out.1 (by decide));have HRU:Hid (∀ u,Mz 1 W0 u F s G Z (Z0 s) (Z0 s)->Calls Tryz.prog 12 #[.pointer (some ⟨(F 0).b,0,none⟩),.slice (some ⟨g,0,none⟩) nb nb] u fun r w'=>∃ q,r=.returned q/\Hid (Mz 1 W0 w' F s G (runZ s Z (yOf s fun i=>(i:Int)) nb) (Z0 s) (Z0 s))):=fun u hu=>(hu.run0 (k:=nb) HS.out.1 (by decide) (HI.out u Z hu) (by have:=HS.out.2.2.2;omega) (by have:=HQ.out.2.2.2;omega)).mono fun r w' q=>⟨_,q.1,q.2⟩
  obtain⟨ob,hob⟩:∃ ob,ovB Z.X.H.E s.n=ob:=⟨_,rfl⟩
  rw[hob]at HOV;have HOB:=zH hob;clear hM hQ H HI hob
  cases ob with
  | false =>
   go_wp2_with (first
    | (go_at_call 12;refine(HRU.out u1 H1.out).mono ?_;rintro r u2 ⟨q2,rfl,q⟩;have H2:=zH q.out;clear q)
    | (go_at_call 23;refine HOV.out.mono ?_;rintro r u1 ⟨rfl,q⟩;have H1:=zH q.out;clear q))
   have q1:=Qu.next HS.out.1 HS.out.2.1 (HM.out.wi (by decide)) HQ.out HOB.out;rw[HS.out.2.2.1]at q1;exact⟨⟨i+1,by first | rfl | (congr 1),by have:=q1.2.2.1;omega,_,H2.out,q1⟩,by simp[intOf];omega⟩
  | true =>
   go_wp2_with (go_at_call 23;refine HOV.out.mono ?_;rintro r u1 ⟨rfl,q⟩;have H1:=zH q.out;clear q)
   exact HK.out _ _ _ _ _ _ _ _ _ _ _ _ _ u1 Z H1.out HQ.out.1 HQ.out.2.1 HOB.out
theorem bx5 (w:World) {B g dn:Nat} {s:Su} {Z:Es} {Dn:Nat->Rr.Dd} (hn:dn<=512) (HD:Hid (DdsAt w B g dn dn s Z Dn)) (HF:Hid (∀ i,i<dn->(Z.X.H.D i).en≠0/\(tagT (Z.X.H.D i).tx=2 ↔ isU (Z.X.H.D i).tx=true)/\endT (Z.X.H.D i).tx (macT (Z.X.H.D i).tx).how=(macT (Z.X.H.D i).tx).how/\(macT (Z.X.H.D i).tx).how≠0/\(isU (Z.X.H.D i).tx=true->((macT (Z.X.H.D i).tx).how=1 ↔ comU (Z.X.H.D i).tx=true))/\(isU (Z.X.H.D i).tx=false->comU (Z.X.H.D i).tx=false))) (D:Code) (hD:D=(Tryz.f8.body.bind (ag3 6)).getD .skip) (c0 c1 c2 c3 c4 c5 c6 c7 c8 c9 c10 c11 c12 c13 c14 c17 c18 c19 c20 c21 c22 c23 c24 c25 c26 c27 c28 c29 c30 c31 c32 c33 c34 c35 c36 c37 c38 c39 c40 c41 c42 c43 c44 c45 c46 c47 c48 c49 c50 c51 c52 c53 c54 c55 c56 c57 c58 c59 c60 c61 c62 c63 c64 c65 c66 c67 c68 c69 c70 c71 c72 c73 c74 c75 c76 c77 c78 c79 c80 c81 c82 c83 c84 c85 c86 c87 c88 c89 c90 c91 c92 c93 c94 c95 c96 c97 c98 c102 c103 c104 c105 c106 c107 c108 c109 c110 c111 c112 c113 c114 c115 c116 c117 c118 c119 c120 c121 c122 c123 c124 c125 c126 c127 c128 c129 c130 c131 c132 c133 c134 c135 c136 c137 c138 c139 c140 c141 c142 c143 c144 c145 c146 c147 c148 c149 c150 c151 c152 c153 c154 c155 c156 c157 c158 c159 c160 c161 c162 c163 c164 c165 c166 c167 c168 c169 c170 c171 c172 c173 c174 c175 c176 c177 c178 c179 c180 c181 c182 c183 c184 c185 c186 c187 c188 c189 c190 c191 c192 c193 c194 c195 c196 c197 c198 c199 c200 c201 c202 c203 c204 c205 c206 c207 c208 c209 c210 c211 c212 c213 c214 c215 c216 c217 c218 c219 c220 c221 c222 c223 c224 c225 c226 c227 c228 c229 c230 c231 c232 c233 c234:Value) (Q:Exit->Act->World->Prop) (hQ:∀ v t1 t2 d u,Q (.panic v) ⟨t1,d⟩ u->Q (.panic v) ⟨t2,d⟩ u) (hK:∀ (u4 u18 u102 u103 u104 u105 u106 u107 u108 u109 u110 u111 u112 u113 u114 u115 u116 u117 u118 u119 u120 u121 u122 u123 u124 u125:Value) (wz:World),Bl w wz->Q .normal ⟨#[c0,c1,c2,c3,u4,c5,c6,c7,c8,c9,c10,c11,c12,c13,c14,.int .i64 (cu (fun i=>comU (Z.X.H.D i).tx) dn:Int),.int .i64 (cu (fun i=>isU (Z.X.H.D i).tx) dn:Int),c17,u18,c19,c20,c21,c22,c23,c24,c25,c26,c27,c28,c29,c30,c31,c32,c33,c34,c35,c36,c37,c38,c39,c40,c41,c42,c43,c44,c45,c46,c47,c48,c49,c50,c51,c52,c53,c54,c55,c56,c57,c58,c59,c60,c61,c62,c63,c64,c65,c66,c67,c68,c69,c70,c71,c72,c73,c74,c75,c76,c77,c78,c79,c80,c81,c82,c83,c84,c85,c86,c87,c88,c89,c90,c91,c92,c93,c94,c95,c96,c97,c98,.slice (some ⟨g,0,none⟩) dn dn,.int .i64 (dn:Int),.int .i64 (dn:Int),u102,u103,u104,u105,u106,u107,u108,u109,u110,u111,u112,u113,u114,u115,u116,u117,u118,u119,u120,u121,u122,u123,u124,u125,c126,c127,c128,c129,c130,c131,c132,c133,c134,c135,c136,c137,c138,c139,c140,c141,c142,c143,c144,c145,c146,c147,c148,c149,c150,c151,c152,c153,c154,c155,c156,c157,c158,c159,c160,c161,c162,c163,c164,c165,c166,c167,c168,c169,c170,c171,c172,c173,c174,c175,c176,c177,c178,c179,c180,c181,c182,c183,c184,c185,c186,c187,c188,c189,c190,c191,c192,c193,c194,c195,c196,c197,c198,c199,c200,c201,c202,c203,c204,c205,c206,c207,c208,c209,c210,c211,c212,c213,c214,c215,c216,c217,c218,c219,c220,c221,c222,c223,c224,c225,c226,c227,c228,c229,c230,c231,c232,c233,c234],[]⟩ wz):D.wp Tryz.prog Q ⟨#[c0,c1,c2,c3,c4,c5,c6,c7,c8,c9,c10,c11,c12,c13,c14,.int .i64 0,.int .i64 0,c17,c18,c19,c20,c21,c22,c23,c24,c25,c26,c27,c28,c29,c30,c31,c32,c33,c34,c35,c36,c37,c38,c39,c40,c41,c42,c43,c44,c45,c46,c47,c48,c49,c50,c51,c52,c53,c54,c55,c56,c57,c58,c59,c60,c61,c62,c63,c64,c65,c66,c67,c68,c69,c70,c71,c72,c73,c74,c75,c76,c77,c78,c79,c80,c81,c82,c83,c84,c85,c86,c87,c88,c89,c90,c91,c92,c93,c94,c95,c96,c97,c98,.slice (some ⟨g,0,none⟩) dn dn,.int .i64 (dn:Int),.int .i64 0,c102,c103,c104,c105,c106,c107,c108,c109,c110,c111,c112,c113,c114,c115,c116,c117,c118,c119,c120,c121,c122,c123,c124,c125,c126,c127,c128,c129,c130,c131,c132,c133,c134,c135,c136,c137,c138,c139,c140,c141,c142,c143,c144,c145,c146,c147,c148,c149,c150,c151,c152,c153,c154,c155,c156,c157,c158,c159,c160,c161,c162,c163,c164,c165,c166,c167,c168,c169,c170,c171,c172,c173,c174,c175,c176,c177,c178,c179,c180,c181,c182,c183,c184,c185,c186,c187,c188,c189,c190,c191,c192,c193,c194,c195,c196,c197,c198,c199,c200,c201,c202,c203,c204,c205,c206,c207,c208,c209,c210,c211,c212,c213,c214,c215,c216,c217,c218,c219,c220,c221,c222,c223,c224,c225,c226,c227,c228,c229,c230,c231,c232,c233,c234],[]⟩ w:=by
 have HK:Hid (∀ (u4 u18 u102 u103 u104 u105 u106 u107 u108 u109 u110 u111 u112 u113 u114 u115 u116 u117 u118 u119 u120 u121 u122 u123 u124 u125:Value) (wz:World),Bl w wz->Q .normal ⟨#[c0,c1,c2,c3,u4,c5,c6,c7,c8,c9,c10,c11,c12,c13,c14,.int .i64 (cu (fun i=>comU (Z.X.H.D i).tx) dn:Int),.int .i64 (cu (fun i=>isU (Z.X.H.D i).tx) dn:Int),c17,u18,c19,c20,c21,c22,c23,c24,c25,c26,c27,c28,c29,c30,c31,c32,c33,c34,c35,c36,c37,c38,c39,c40,c41,c42,c43,c44,c45,c46,c47,c48,c49,c50,c51,c52,c53,c54,c55,c56,c57,c58,c59,c60,c61,c62,c63,c64,c65,c66,c67,c68,c69,c70,c71,c72,c73,c74,c75,c76,c77,c78,c79,c80,c81,c82,c83,c84,c85,c86,c87,c88,c89,c90,c91,c92,c93,c94,c95,c96,c97,c98,.slice (some ⟨g,0,none⟩) dn dn,.int .i64 (dn:Int),.int .i64 (dn:Int),u102,u103,u104,u105,u106,u107,u108,u109,u110,u111,u112,u113,u114,u115,u116,u117,u118,u119,u120,u121,u122,u123,u124,u125,c126,c127,c128,c129,c130,c131,c132,c133,c134,c135,c136,c137,c138,c139,c140,c141,c142,c143,c144,c145,c146,c147,c148,c149,c150,c151,c152,c153,c154,c155,c156,c157,c158,c159,c160,c161,c162,c163,c164,c165,c166,c167,c168,c169,c170,c171,c172,c173,c174,c175,c176,c177,c178,c179,c180,c181,c182,c183,c184,c185,c186,c187,c188,c189,c190,c191,c192,c193,c194,c195,c196,c197,c198,c199,c200,c201,c202,c203,c204,c205,c206,c207,c208,c209,c210,c211,c212,c213,c214,c215,c216,c217,c218,c219,c220,c221,c222,c223,c224,c225,c226,c227,c228,c229,c230,c231,c232,c233,c234],[]⟩ wz):=hK;clear hK;rw[hD];clear hD
 conv=>arg 2;whnf
 obtain⟨uf,huf⟩:∃ uf:Nat->Bool,uf=fun i=>isU (Z.X.H.D i).tx:=⟨_,rfl⟩
 obtain⟨cf,hcf⟩:∃ cf:Nat->Bool,cf=fun i=>comU (Z.X.H.D i).tx:=⟨_,rfl⟩
 rw[<- huf,<- hcf]at HK;have HC:Hid (∀ k,k<dn->∃ A:Array Value,A.size=19/\A.all (·.oneCell')=true/\(∀ u,Bl w u->∀ j,j<19->u.cell? ⟨g,k*19+j,none⟩=A[j]?)/\g<w.heap.size/\∃ t h e:Int,A[3]?=some (.int .i64 t)/\A[10]?=some (.int .i64 h)/\A[14]?=some (.int .i64 e)/\e≠0/\h≠0/\(t=2 ↔ uf k=true)/\(uf k=true->(h=1 ↔ cf k=true))/\(uf k=false->cf k=false)):=fun k hk=>by
  obtain⟨h1,h2,h3,h4,h5,h6⟩:=HF.out k hk;refine⟨as2 s Z k (Dn k) (Z.X.R:Int),rfl,ad1 ..,fun u hu j hj=>((HD.out.on hu).cells hk j hj),zK w _ ((HD.out.cells hk 0 (by decide)).trans rfl),tagT (Z.X.H.D k).tx,endT (Z.X.H.D k).tx (macT (Z.X.H.D k).tx).how,((Z.X.H.D k).en:Int),rfl,rfl,rfl,by omega,by rw[h3];exact h4,by rw[huf];exact h2,by rw[huf,hcf,h3];exact h5,by rw[huf,hcf];exact h6⟩
 clear HD HF huf hcf;go_wp2_with fail
 go_loopw [4,15,16,101] (fun v4 v15 v16 v101 wr=>∃ k:Nat,v101=.int .i64 (k:Int)/\v15=.int .i64 (cu cf k:Int)/\v16=.int .i64 (cu uf k:Int)/\v4=c4/\k<=dn/\Hid (Bl w wr)) (fun _ _ _ v101 _=>dn - (intOf v101).toNat)
 case atStart=>exact⟨0,rfl,rfl,rfl,rfl,zV _,zF _ _⟩
 case round =>
  obtain⟨k,rfl,rfl,rfl,rfl,hk,HR⟩:=hrel
  by_cases hlt:k<dn
  ·have hlt':(k:Int)<(dn:Int):=by omega
   have hln:¬ (dn:Int)<=(k:Int):=by omega
   obtain⟨A,z1,z2,cc,lg,t,h,e,a3,a10,a14,e0,h0,r1,r2,r3⟩:=HC.out k hlt;replace cc:=cc wr HR.out;have lg':=zL lg HR.out.size;have HU1:Hid (cu uf (k+1)=cu uf k+(uf k).toNat):=rfl;have HU2:Hid (cu cf (k+1)=cu cf k+(cf k).toNat):=rfl;have l1:=aw4 uf k;have l2:=aw4 cf k;have e1:=zN wr (.cells zz 65)
   go_upto_region 33 with(first
    | (refine am4 rfl 65 _ rfl g (k*19) rfl A _ (fun j hj=>cc j (by omega)) Tryz.underlying65 rfl (by rw[z1];exact av7) ?_;simp only[Act.put])
    | (refine ak6 rfl 65 _ _ rfl wr.heap.size 0 A rfl rfl _ zz e1 (by rw[z1];exact av7) (by rw[z1];exact(by decide:0+19<=zz.size)) z2 ?_;simp only[Act.put]))
   obtain⟨gb,hgb⟩:∃ gb,wr.heap.size=gb:=⟨_,rfl⟩
   obtain⟨oa,hoa⟩:∃ oa,oa=ae9 zz 0 A.toList:=⟨_,rfl⟩
   obtain⟨w1,hw1⟩:∃ w1,w1=(wr.alloc (.cells zz 65)).setRow wr.heap.size (ae9 zz 0 A.toList):=⟨_,rfl⟩
   rw[show (wr.alloc (.cells #[.int .i64 0,.int .i64 0,.int .i64 0,.int .i64 0,.slice none 0 0,.int .i64 0,.int .i64 0,.slice none 0 0,.slice none 0 0,.slice none 0 0,.int .i64 0,.int .i64 0,.int .i64 0,.int .i64 0,.int .i64 0,.int .i64 0,.int .i64 0,.int .i64 0,.int .i64 0] 65)).setRow wr.heap.size (ae9 zz 0 A.toList)=w1 from hw1.symm,hgb];have H1:Hid (Bl w w1/\w1.heap[gb]?=some (.cells oa 65 (0,0))):=by
    rw[hw1,hoa,<- hgb];exact⟨a07 HR.out (Md.Ce.bl_setRow (below_alloc _ _) (zE _) _),setRow_heap _ _ _ _ _ _ e1⟩
   have oc:∀ j,j<19->oa[j]?=A[j]?:=fun j hj=>by
    rw[hoa,aj9 _ _ _ _ (by simp;rw[z1];decide),if_pos (by simp;omega)]
    simp
   have y3:=(zR w1 gb 3 _ _ _ H1.out.2).trans ((oc 3 (by omega)).trans a3);have y10:=(zR w1 gb 10 _ _ _ H1.out.2).trans ((oc 10 (by omega)).trans a10);have y14:=(zR w1 gb 14 _ _ _ H1.out.2).trans ((oc 14 (by omega)).trans a14);have lgb:=lt_of_block H1.out.2;clear hw1 hgb hoa oc e1 cc lg lg' a3 a10 a14 z1 z2 HC;have e0b:(e == 0)=false:=by simpa using e0
   have h0b:(h == 0)=false:=by simpa using h0
   have l1':((cu uf k:Nat):Int)<=512:=by omega
   have l2':((cu cf k:Nat):Int)<=512:=by omega
   by_cases tt:t=2
   ·have u1:=r1.1 tt
    subst tt
    by_cases hh:h=1
    ·have c1':=(r2 u1).1 hh
     subst hh;rw[u1]at HU1;rw[c1']at HU2;clear r1 r2 r3 u1 c1';go_wp2_with fail;exact⟨⟨k+1,by first | rfl | (congr 1),by rw[HU2.out];first | rfl | (congr 1),by rw[HU1.out];first | rfl | (congr 1),rfl,by omega,H1.out.1⟩,by simp[intOf];omega⟩
    ·have c1':cf k=false:=by
      cases q:cf k with
      | false=>rfl
      | true=>exact absurd ((r2 u1).2 q) hh
     have hhb:(h == 1)=false:=by simpa using hh
     rw[u1]at HU1;rw[c1']at HU2;clear r1 r2 r3 u1 c1';go_wp2_with fail;exact⟨⟨k+1,by first | rfl | (congr 1),by rw[HU2.out];rfl,by rw[HU1.out];first | rfl | (congr 1),rfl,by omega,H1.out.1⟩,by simp[intOf];omega⟩
   ·have u1:uf k=false:=by
     cases q:uf k with
     | false=>rfl
     | true=>exact absurd (r1.2 q) tt
    have c1':=r3 u1;have ttb:(t == 2)=false:=by simpa using tt
    rw[u1]at HU1;rw[c1']at HU2;clear r1 r2 r3 u1 c1';go_wp2_with fail;exact⟨⟨k+1,by first | rfl | (congr 1),by rw[HU2.out];rfl,by rw[HU1.out];rfl,rfl,by omega,H1.out.1⟩,by simp[intOf];omega⟩
  ·obtain rfl:k=dn:=by omega
   have hlt':¬ (k:Int)<(k:Int):=by omega
   go_wp2_with fail;exact HK.out _ _ _ _ _ _ _ _ _ _ _ _ _ _ _ _ _ _ _ _ _ _ _ _ _ _ wr HR.out
theorem bc7 (w:World) {sb bd gw N nb:Nat} (hn:nb<=8) (hN:3+nb<=N) (hNi:(N:Int)<=4096) (k1:w.cell? ⟨sb,1,none⟩=some (.int .i64 (nb:Int))) (ls:sb<w.heap.size) (k10:w.cell? ⟨bd,10,none⟩=some (.int .i64 3)) (lb:bd<w.heap.size) (lw:gw<w.heap.size) (HW:Hid (∀ t,t<nb->w.cell? ⟨gw,3+t,none⟩=some (.int .u64 0))) (D:Code) (hD:D=(Tryz.f8.body.bind (ag3 8)).getD .skip) (c0 c1 c3 c4 c5 c6 c8 c9 c10 c11 c12 c13 c14 c15 c16 c17 c18 c20 c22 c23 c24 c25 c26 c27 c28 c29 c30 c31 c32 c33 c34 c35 c36 c37 c38 c39 c40 c41 c42 c43 c44 c45 c46 c47 c48 c49 c50 c51 c52 c53 c54 c55 c56 c57 c58 c59 c60 c61 c62 c63 c64 c65 c66 c67 c68 c69 c70 c71 c72 c73 c74 c75 c76 c77 c78 c79 c80 c81 c82 c83 c84 c85 c86 c87 c88 c89 c90 c91 c92 c93 c94 c95 c96 c97 c98 c99 c100 c101 c102 c103 c104 c105 c106 c107 c108 c109 c110 c111 c112 c113 c114 c115 c116 c117 c118 c119 c120 c121 c122 c123 c124 c125 c126 c127 c128 c129 c130 c131 c132 c133 c134 c135 c136 c137 c138 c139 c140 c141 c142 c143 c144 c145 c146 c147 c148 c149 c150 c151 c152 c153 c154 c155 c156 c157 c158 c159 c160 c161 c162 c163 c164 c165 c166 c167 c168 c169 c170 c171 c172 c173 c174 c175 c176 c177 c178 c179 c180 c181 c182 c183 c184 c185 c186 c187 c188 c189 c190 c191 c192 c193 c194 c195 c196 c197 c198 c199 c200 c201 c202 c203 c204 c205 c206 c207 c208 c209 c210 c211 c212 c213 c214 c215 c216 c217 c218 c219 c220 c221 c222 c223 c224 c225 c226 c227 c228 c229 c230 c231 c232 c233 c234:Value) (Q:Exit->Act->World->Prop) (hQ:∀ v t1 t2 d u,Q (.panic v) ⟨t1,d⟩ u->Q (.panic v) ⟨t2,d⟩ u) (hK:∀ (u4 u192 u193 u194 u195 u196 u197 u198 u199 u200 u201 u202 u203 u204 u205 u206 u207 u208 u209:Value) (wz:World),wz=w->Q .normal ⟨#[c0,c1,.pointer (some ⟨sb,0,none⟩),c3,u4,c5,c6,.pointer (some ⟨bd,0,none⟩),c8,c9,c10,c11,c12,c13,c14,c15,c16,c17,c18,.slice (some ⟨gw,0,none⟩) N N,c20,.int .i64 (nb:Int),c22,c23,c24,c25,c26,c27,c28,c29,c30,c31,c32,c33,c34,c35,c36,c37,c38,c39,c40,c41,c42,c43,c44,c45,c46,c47,c48,c49,c50,c51,c52,c53,c54,c55,c56,c57,c58,c59,c60,c61,c62,c63,c64,c65,c66,c67,c68,c69,c70,c71,c72,c73,c74,c75,c76,c77,c78,c79,c80,c81,c82,c83,c84,c85,c86,c87,c88,c89,c90,c91,c92,c93,c94,c95,c96,c97,c98,c99,c100,c101,c102,c103,c104,c105,c106,c107,c108,c109,c110,c111,c112,c113,c114,c115,c116,c117,c118,c119,c120,c121,c122,c123,c124,c125,c126,c127,c128,c129,c130,c131,c132,c133,c134,c135,c136,c137,c138,c139,c140,c141,c142,c143,c144,c145,c146,c147,c148,c149,c150,c151,c152,c153,c154,c155,c156,c157,c158,c159,c160,c161,c162,c163,c164,c165,c166,c167,c168,c169,c170,c171,c172,c173,c174,c175,c176,c177,c178,c179,c180,c181,c182,c183,c184,c185,c186,c187,c188,c189,c190,c191,u192,u193,u194,u195,u196,u197,u198,u199,u200,u201,u202,u203,u204,u205,u206,u207,u208,u209,c210,c211,c212,c213,c214,c215,c216,c217,c218,c219,c220,c221,c222,c223,c224,c225,c226,c227,c228,c229,c230,c231,c232,c233,c234],[]⟩ wz):D.wp Tryz.prog Q ⟨#[c0,c1,.pointer (some ⟨sb,0,none⟩),c3,c4,c5,c6,.pointer (some ⟨bd,0,none⟩),c8,c9,c10,c11,c12,c13,c14,c15,c16,c17,c18,.slice (some ⟨gw,0,none⟩) N N,c20,.int .i64 0,c22,c23,c24,c25,c26,c27,c28,c29,c30,c31,c32,c33,c34,c35,c36,c37,c38,c39,c40,c41,c42,c43,c44,c45,c46,c47,c48,c49,c50,c51,c52,c53,c54,c55,c56,c57,c58,c59,c60,c61,c62,c63,c64,c65,c66,c67,c68,c69,c70,c71,c72,c73,c74,c75,c76,c77,c78,c79,c80,c81,c82,c83,c84,c85,c86,c87,c88,c89,c90,c91,c92,c93,c94,c95,c96,c97,c98,c99,c100,c101,c102,c103,c104,c105,c106,c107,c108,c109,c110,c111,c112,c113,c114,c115,c116,c117,c118,c119,c120,c121,c122,c123,c124,c125,c126,c127,c128,c129,c130,c131,c132,c133,c134,c135,c136,c137,c138,c139,c140,c141,c142,c143,c144,c145,c146,c147,c148,c149,c150,c151,c152,c153,c154,c155,c156,c157,c158,c159,c160,c161,c162,c163,c164,c165,c166,c167,c168,c169,c170,c171,c172,c173,c174,c175,c176,c177,c178,c179,c180,c181,c182,c183,c184,c185,c186,c187,c188,c189,c190,c191,c192,c193,c194,c195,c196,c197,c198,c199,c200,c201,c202,c203,c204,c205,c206,c207,c208,c209,c210,c211,c212,c213,c214,c215,c216,c217,c218,c219,c220,c221,c222,c223,c224,c225,c226,c227,c228,c229,c230,c231,c232,c233,c234],[]⟩ w:=by
 have HK:Hid (∀ (u4 u192 u193 u194 u195 u196 u197 u198 u199 u200 u201 u202 u203 u204 u205 u206 u207 u208 u209:Value) (wz:World),wz=w->Q .normal ⟨#[c0,c1,.pointer (some ⟨sb,0,none⟩),c3,u4,c5,c6,.pointer (some ⟨bd,0,none⟩),c8,c9,c10,c11,c12,c13,c14,c15,c16,c17,c18,.slice (some ⟨gw,0,none⟩) N N,c20,.int .i64 (nb:Int),c22,c23,c24,c25,c26,c27,c28,c29,c30,c31,c32,c33,c34,c35,c36,c37,c38,c39,c40,c41,c42,c43,c44,c45,c46,c47,c48,c49,c50,c51,c52,c53,c54,c55,c56,c57,c58,c59,c60,c61,c62,c63,c64,c65,c66,c67,c68,c69,c70,c71,c72,c73,c74,c75,c76,c77,c78,c79,c80,c81,c82,c83,c84,c85,c86,c87,c88,c89,c90,c91,c92,c93,c94,c95,c96,c97,c98,c99,c100,c101,c102,c103,c104,c105,c106,c107,c108,c109,c110,c111,c112,c113,c114,c115,c116,c117,c118,c119,c120,c121,c122,c123,c124,c125,c126,c127,c128,c129,c130,c131,c132,c133,c134,c135,c136,c137,c138,c139,c140,c141,c142,c143,c144,c145,c146,c147,c148,c149,c150,c151,c152,c153,c154,c155,c156,c157,c158,c159,c160,c161,c162,c163,c164,c165,c166,c167,c168,c169,c170,c171,c172,c173,c174,c175,c176,c177,c178,c179,c180,c181,c182,c183,c184,c185,c186,c187,c188,c189,c190,c191,u192,u193,u194,u195,u196,u197,u198,u199,u200,u201,u202,u203,u204,u205,u206,u207,u208,u209,c210,c211,c212,c213,c214,c215,c216,c217,c218,c219,c220,c221,c222,c223,c224,c225,c226,c227,c228,c229,c230,c231,c232,c233,c234],[]⟩ wz):=hK;clear hK;rw[hD];clear hD
 conv=>arg 2;whnf
 go_wp2_with fail
 go_loopw [4,21] (fun v4 v21 wr=>∃ t:Nat,v21=.int .i64 (t:Int)/\v4=c4/\t<=nb/\wr=w) (fun _ v21 _=>nb - (intOf v21).toNat)
 case atStart=>exact⟨0,rfl,rfl,zV _,by first | rfl | trivial⟩
 case round =>
  obtain⟨t,rfl,rfl,hk,hwr⟩:=hrel;subst wr
  by_cases hlt:t<nb
  ·have hlt':(t:Int)<(nb:Int):=by omega
   have cw:=HW.out t hlt;obtain⟨j,hj⟩:∃ j,3+t=j:=⟨_,rfl⟩
   rw[hj]at cw;have hj':(3:Int)+(t:Int)=(j:Int):=by omega
   have hjN:(j:Int)<(N:Int):=by omega
   have hjn:¬ (N:Int)<=(j:Int):=by omega
   clear hj HW;go_wp2_with fail;exact⟨⟨t+1,by first | rfl | (congr 1),rfl,by omega,by first | rfl | trivial⟩,by simp[intOf];omega⟩
  ·obtain rfl:t=nb:=by omega
   have hlt':¬ (t:Int)<(t:Int):=by omega
   go_wp2_with fail;exact HK.out _ _ _ _ _ _ _ _ _ _ _ _ _ _ _ _ _ _ _ _ rfl
section
attribute [local go_sem] a46
theorem bx6 (w:World) {bd gs gw N an:Nat} {p4:Int} {l:List Nat} (han:an<=256) (hp4:4<=p4/\p4<=11) (hNN:p4+3*(an:Int)=(N:Int)) (HV:Hid (w.cell? ⟨bd,11,none⟩=some (.int .i64 p4)/\bd<w.heap.size/\gw<w.heap.size/\gs<w.heap.size)) (HW:Hid (∀ i j:Nat,i<an->(j:Int)=p4+3*(i:Int)+1->w.cell? ⟨gs,i,none⟩=some (.float .f64 (l.getD i 0))/\w.cell? ⟨gw,j,none⟩=some (.int .u64 ((l.getD i 0:Nat):Int)))) (D:Code) (hD:D=(Tryz.f8.body.bind (ag3 10)).getD .skip) (c0 c1 c2 c3 c4 c5 c6 c8 c9 c10 c11 c12 c13 c14 c15 c16 c17 c18 c21 c22 c23 c24 c25 c26 c27 c28 c29 c30 c31 c32 c33 c34 c35 c36 c37 c38 c39 c40 c41 c42 c43 c44 c45 c46 c47 c48 c49 c50 c51 c52 c53 c54 c55 c56 c57 c58 c59 c60 c61 c62 c63 c64 c65 c66 c67 c68 c69 c70 c71 c72 c73 c74 c75 c76 c77 c78 c79 c80 c81 c82 c83 c84 c85 c86 c87 c88 c89 c90 c91 c92 c93 c94 c95 c96 c97 c98 c99 c100 c101 c102 c103 c104 c105 c106 c107 c108 c109 c110 c111 c112 c113 c114 c115 c116 c117 c118 c119 c120 c121 c122 c123 c124 c125 c126 c127 c128 c129 c130 c131 c132 c133 c134 c135 c136 c137 c138 c139 c140 c141 c142 c143 c144 c145 c146 c147 c148 c149 c150 c151 c152 c153 c154 c155 c156 c157 c158 c159 c160 c161 c162 c163 c164 c165 c166 c167 c168 c169 c170 c171 c172 c173 c174 c175 c176 c177 c178 c179 c180 c181 c182 c183 c184 c185 c186 c187 c188 c189 c190 c191 c192 c193 c194 c195 c196 c197 c198 c199 c200 c201 c202 c203 c204 c205 c206 c207 c208 c209 c210 c213 c214 c215 c216 c217 c218 c219 c220 c221 c222 c223 c224 c225 c226 c227 c228 c229 c230 c231 c232 c233 c234:Value) (Q:Exit->Act->World->Prop) (hQ:∀ v t1 t2 d u,Q (.panic v) ⟨t1,d⟩ u->Q (.panic v) ⟨t2,d⟩ u) (hK:∀ (u4 u22 u213 u214 u215 u216 u217 u218 u219 u220 u221 u222 u223 u224 u225 u226 u227 u228 u229 u230 u231 u232 u233:Value) (wz:World),Same w wz->Q .normal ⟨#[c0,c1,c2,c3,u4,c5,c6,.pointer (some ⟨bd,0,none⟩),c8,c9,c10,c11,c12,c13,c14,c15,c16,c17,c18,.slice (some ⟨gw,0,none⟩) N N,.slice (some ⟨gs,0,none⟩) an an,c21,u22,c23,c24,c25,c26,c27,c28,c29,c30,c31,c32,c33,c34,c35,c36,c37,c38,c39,c40,c41,c42,c43,c44,c45,c46,c47,c48,c49,c50,c51,c52,c53,c54,c55,c56,c57,c58,c59,c60,c61,c62,c63,c64,c65,c66,c67,c68,c69,c70,c71,c72,c73,c74,c75,c76,c77,c78,c79,c80,c81,c82,c83,c84,c85,c86,c87,c88,c89,c90,c91,c92,c93,c94,c95,c96,c97,c98,c99,c100,c101,c102,c103,c104,c105,c106,c107,c108,c109,c110,c111,c112,c113,c114,c115,c116,c117,c118,c119,c120,c121,c122,c123,c124,c125,c126,c127,c128,c129,c130,c131,c132,c133,c134,c135,c136,c137,c138,c139,c140,c141,c142,c143,c144,c145,c146,c147,c148,c149,c150,c151,c152,c153,c154,c155,c156,c157,c158,c159,c160,c161,c162,c163,c164,c165,c166,c167,c168,c169,c170,c171,c172,c173,c174,c175,c176,c177,c178,c179,c180,c181,c182,c183,c184,c185,c186,c187,c188,c189,c190,c191,c192,c193,c194,c195,c196,c197,c198,c199,c200,c201,c202,c203,c204,c205,c206,c207,c208,c209,c210,.int .i64 (an:Int),.int .i64 (an:Int),u213,u214,u215,u216,u217,u218,u219,u220,u221,u222,u223,u224,u225,u226,u227,u228,u229,u230,u231,u232,u233,c234],[]⟩ wz):D.wp Tryz.prog Q ⟨#[c0,c1,c2,c3,c4,c5,c6,.pointer (some ⟨bd,0,none⟩),c8,c9,c10,c11,c12,c13,c14,c15,c16,c17,c18,.slice (some ⟨gw,0,none⟩) N N,.slice (some ⟨gs,0,none⟩) an an,c21,c22,c23,c24,c25,c26,c27,c28,c29,c30,c31,c32,c33,c34,c35,c36,c37,c38,c39,c40,c41,c42,c43,c44,c45,c46,c47,c48,c49,c50,c51,c52,c53,c54,c55,c56,c57,c58,c59,c60,c61,c62,c63,c64,c65,c66,c67,c68,c69,c70,c71,c72,c73,c74,c75,c76,c77,c78,c79,c80,c81,c82,c83,c84,c85,c86,c87,c88,c89,c90,c91,c92,c93,c94,c95,c96,c97,c98,c99,c100,c101,c102,c103,c104,c105,c106,c107,c108,c109,c110,c111,c112,c113,c114,c115,c116,c117,c118,c119,c120,c121,c122,c123,c124,c125,c126,c127,c128,c129,c130,c131,c132,c133,c134,c135,c136,c137,c138,c139,c140,c141,c142,c143,c144,c145,c146,c147,c148,c149,c150,c151,c152,c153,c154,c155,c156,c157,c158,c159,c160,c161,c162,c163,c164,c165,c166,c167,c168,c169,c170,c171,c172,c173,c174,c175,c176,c177,c178,c179,c180,c181,c182,c183,c184,c185,c186,c187,c188,c189,c190,c191,c192,c193,c194,c195,c196,c197,c198,c199,c200,c201,c202,c203,c204,c205,c206,c207,c208,c209,c210,.int .i64 (an:Int),.int .i64 0,c213,c214,c215,c216,c217,c218,c219,c220,c221,c222,c223,c224,c225,c226,c227,c228,c229,c230,c231,c232,c233,c234],[]⟩ w:=by
 have HK:Hid (∀ (u4 u22 u213 u214 u215 u216 u217 u218 u219 u220 u221 u222 u223 u224 u225 u226 u227 u228 u229 u230 u231 u232 u233:Value) (wz:World),Same w wz->Q .normal ⟨#[c0,c1,c2,c3,u4,c5,c6,.pointer (some ⟨bd,0,none⟩),c8,c9,c10,c11,c12,c13,c14,c15,c16,c17,c18,.slice (some ⟨gw,0,none⟩) N N,.slice (some ⟨gs,0,none⟩) an an,c21,u22,c23,c24,c25,c26,c27,c28,c29,c30,c31,c32,c33,c34,c35,c36,c37,c38,c39,c40,c41,c42,c43,c44,c45,c46,c47,c48,c49,c50,c51,c52,c53,c54,c55,c56,c57,c58,c59,c60,c61,c62,c63,c64,c65,c66,c67,c68,c69,c70,c71,c72,c73,c74,c75,c76,c77,c78,c79,c80,c81,c82,c83,c84,c85,c86,c87,c88,c89,c90,c91,c92,c93,c94,c95,c96,c97,c98,c99,c100,c101,c102,c103,c104,c105,c106,c107,c108,c109,c110,c111,c112,c113,c114,c115,c116,c117,c118,c119,c120,c121,c122,c123,c124,c125,c126,c127,c128,c129,c130,c131,c132,c133,c134,c135,c136,c137,c138,c139,c140,c141,c142,c143,c144,c145,c146,c147,c148,c149,c150,c151,c152,c153,c154,c155,c156,c157,c158,c159,c160,c161,c162,c163,c164,c165,c166,c167,c168,c169,c170,c171,c172,c173,c174,c175,c176,c177,c178,c179,c180,c181,c182,c183,c184,c185,c186,c187,c188,c189,c190,c191,c192,c193,c194,c195,c196,c197,c198,c199,c200,c201,c202,c203,c204,c205,c206,c207,c208,c209,c210,.int .i64 (an:Int),.int .i64 (an:Int),u213,u214,u215,u216,u217,u218,u219,u220,u221,u222,u223,u224,u225,u226,u227,u228,u229,u230,u231,u232,u233,c234],[]⟩ wz):=hK;clear hK;rw[hD];clear hD
 conv=>arg 2;whnf
 go_wp2_with fail
 go_loopw [4,212] (fun v4 v212 wr=>∃ k:Nat,v212=.int .i64 (k:Int)/\v4=c4/\k<=an/\Hid (Same w wr)) (fun _ v212 _=>an - (intOf v212).toNat)
 case atStart=>exact⟨0,rfl,rfl,zV _,Same.refl _⟩
 case round =>
  obtain⟨k,rfl,rfl,hk,HR⟩:=hrel
  by_cases hlt:k<an
  ·have hlt':(k:Int)<(an:Int):=by omega
   have hln:¬ (an:Int)<=(k:Int):=by omega
   obtain⟨j,hj⟩:∃ j:Nat,(j:Int)=p4+3*(k:Int)+1:=⟨(p4+3*(k:Int)+1).toNat,by omega⟩
   obtain⟨c1,c2⟩:=HW.out k j hlt hj;obtain⟨c3,l1,l2,l3⟩:=HV.out;rw[<- aI4 HR.out]at c1 c2 c3;rw[<- HR.out.heap]at l1 l2 l3
   generalize l.getD k 0=x at c1 c2
   have hjN:(j:Int)<(N:Int):=by omega
   have hjn:¬ (N:Int)<=(j:Int):=by omega
   have hjN':j<N:=by omega
   have e5:IntKind.i64.wrap (IntKind.i64.wrap (p4+IntKind.i64.wrap (3*(k:Int)))+1)=(j:Int):=by
    rw[Go.IntWalk.i64_in (3*(k:Int)) ⟨by omega,by omega⟩,Go.IntWalk.i64_in (p4+3*(k:Int)) ⟨by omega,by omega⟩,Go.IntWalk.i64_in _ ⟨by omega,by omega⟩,hj]
   clear hj HV HW
   go_upto_region 52 with fail
   refine a06 (fun u=>u.cell? ⟨gs,k,none⟩=some (.float .f64 x)/\u.cell? ⟨gw,j,none⟩=some (.int .u64 (x:Int))/\u.cell? ⟨bd,11,none⟩=some (.int .i64 p4)) ((0,true)::(1,true)::(2,true)::(3,true)::(5,true)::(6,true)::(7,true)::(8,true)::(9,true)::(10,true)::(11,true)::(12,true)::(13,true)::(14,true)::(15,true)::(16,true)::(4,false)::(17,true)::[]) Md.Cv.follows13 (by kernel_rfl) (fun _ _ _ _ _ h=>hQ _ _ _ _ _ h) ⟨c1,c2,c3⟩ ?_
   (repeat ((first | (refine a02 (v:=?_) rfl (by rfl) (fun wq hSq=>?_) ?_;rotate_left;(focus ((try dsimp only at hSq);go_simp;try with_reducible rfl))) | refine a03 rfl (by rfl) ?_);simp only[Act.put,zA,zB,zC]))
   (refine a04 rfl (by rfl) (fun KK hK=>?_);go_simp)
   refine hK.out _ _ ⟨c1,c2,c3⟩ ?_
   (clear hK KK;try simp only[Act.put,zA,zB,zC])
   (repeat ((first | (refine a02 (v:=?_) rfl (by rfl) (fun wq hSq=>?_) ?_;rotate_left;(focus ((try dsimp only at hSq);go_simp;try with_reducible rfl))) | refine a03 rfl (by rfl) ?_);simp only[Act.put,zA,zB,zC]))
   refine a17 ?_;go_wp2_with fail;exact⟨⟨k+1,by first | rfl | (congr 1),rfl,by omega,HR.out.trans (Same.drew _)⟩,by simp[intOf];omega⟩
  ·obtain rfl:k=an:=by omega
   have hlt':¬ (k:Int)<(k:Int):=by omega
   go_wp2_with fail;exact HK.out _ _ _ _ _ _ _ _ _ _ _ _ _ _ _ _ _ _ _ _ _ _ _ _ HR.out
end
set_option linter.unusedVariables false
section
variable {n:Nat} {W u:World} {F:Nat->Ex} {s:Su} {p:Sp} {G:List (Nat × Obj)} {a b c:Es}
theorem aW5 {w:World} {g n:Nat} {y:Nat->Int} (h:RowAt 3 w (some ⟨g,0,none⟩) n (i64s (Sd.mix y n n))):∃ o:Obj,w.heap[g]?=some o/\∀ w':World,w'.heap[g]?=some o->Sd.IntsAt w' (some ⟨g,0,none⟩) n y:=by
 rcases h.own.2 with⟨e,_⟩ | ⟨g',cap,cur,hv,hb,hg,hn,_,hs,ht⟩
 ·cases e
 ·injection hv with e1 _ _
  injection e1 with e1;injection e1 with e1;subst e1;refine⟨_,hg,fun w' hw i hi=>⟨g,0,rfl,ac7 hw,?_⟩⟩;rw[zR w' g _ _ _ _ hw,Nat.zero_add];have:(cur.toList.take ((i64s (Sd.mix y n n)).length*1))[i]?=some (Value.int .i64 (y i)):=by
   rw[ht]
   simp[i64s,Sd.mix,hi]
  rw[List.getElem?_take,if_pos (by simp[i64s,Sd.mix_len];exact hi)]at this
  simpa using this
theorem Mz.deeds (h:Mz n W u F s G a b c) (hs:SuIn s) (hn:0<n):Calls Tryz.prog 24 #[.pointer (some ⟨(F 0).b,0,none⟩)] u fun r w'=>∃ g,r=.returned (.slice (some ⟨g,0,none⟩) a.X.H.dn a.X.H.dn)/\Hid ((∃ B D,DdsAt w' B g a.X.H.dn a.X.H.dn s a D)/\Bl u w'):=by
 obtain⟨V,h⟩:=h;have h0:Eng u (F 0) (V 0) s a:=h.en 0 hn;refine(aJ2 h0 hs).mono ?_;rintro r w' ⟨g,rfl,q⟩;obtain⟨D,q1,q2⟩:=q.out;exact⟨g,rfl,⟨_,D,q1⟩,q2⟩
theorem Mz.words (h:Mz n W u F s G a b c) (hn:0<n):Calls Tryz.prog 25 #[.pointer (some ⟨(F 0).b,0,none⟩)] u fun r w'=>∃ g,r=.returned (.slice (some ⟨g,0,none⟩) a.X.H.E.ws.length a.X.H.E.ws.length)/\Hid (Md.RowAt w' g a.X.H.E.ws/\Bl u w'):=by
 obtain⟨V,h⟩:=h;have h0:Eng u (F 0) (V 0) s a:=h.en 0 hn;refine(bh1 h0).mono ?_;rintro r w' ⟨rfl,q1,q2⟩;exact⟨_,rfl,q1,q2⟩
theorem Mz.state (h:Mz n W u F s G a b c) (hs:SuIn s) (hn:0<n):Calls Tryz.prog 26 #[.pointer (some ⟨(F 0).b,0,none⟩)] u fun r w'=>∃ g,r=.returned (.slice (some ⟨g,0,none⟩) s.a.toNat s.a.toNat)/\Hid (RowAt 71 w' (some ⟨g,0,none⟩) s.a.toNat (fls (a76 s a.X.H.E.ws))/\Bl u w'):=by
 obtain⟨V,h⟩:=h;have h0:Eng u (F 0) (V 0) s a:=h.en 0 hn;refine(aN1 h0 hs).mono ?_;rintro r w' ⟨g,rfl,q⟩;exact⟨g,rfl,q.out.2.1,q.out.2.2⟩
theorem az0 {Z:Es} (hs:SuIn s) (wi:WI s Z.X) (h:HAE Z.X.H) (ho:∀ u,u<s.n->finE Z.X.H.E u) {c:Nat} (hc:c<s.a.toNat):((a76 s Z.X.H.E.ws).getD c 0:Int)=wordAt Z.X.H.E.ws (3+s.b+3*(c:Int)+1):=by
 have hq:=(aG8 wi h ho).2.2.2.2.2.2;obtain⟨S,k,pt,ld,h⟩:=h;have b8:=hs.b8;have a256:=hs.a256;have hCa:Z.X.H.E.C.b=s.b/\Z.X.H.E.C.a=s.a:=by
  have e1:=h.hi.ei.gi.len;have e2:=h.hi.ei.gi.nb;have e3:=wi.len;have e4:=wi.n;have nb:=hs.nb;rw[e4]at e2;exact⟨by omega,by omega⟩
 rw[hCa.1,hCa.2]at hq;have hv:=hq c (by omega) (by omega);have hnow:=h.now c (by omega) (by rw[hCa.2];omega);rw[hCa.1]at hnow;have hw:=wi.ok.at (3+s.b+3*(c:Int)+1);have e:(a76 s Z.X.H.E.ws).getD c 0=aO7 s Z.X.H.E.ws c:=by
  unfold a76
  simp[hc]
 have hp:0<=3+s.b/\3+s.b<=4096:=by omega
 have hl:=wi.len;have ok:Md.Ce.okP Z.X.H.E.ws (3+s.b) c=true:=by
  unfold Md.Ce.okP hasB;rw[ab5 hp,ab5 hp,ab5 hp]
  simp
  omega
 have pk:∀ j,Md.Ce.peekW Z.X.H.E.ws (3+s.b) c j=wordAt Z.X.H.E.ws (3+s.b+3*(c:Int)+j):=fun j=>by
  unfold Md.Ce.peekW Md.Ce.peekE Md.Ce.wordC;rw[Md.Ce.mayC_nat (by omega),ok,if_pos rfl,if_pos rfl,if_pos rfl,ab5 hp]
 rw[e];unfold aO7 Md.Ce.atV;rw[pk,pk,pk];have hv':¬ wordAt Z.X.H.E.ws 2<wordAt Z.X.H.E.ws (3+s.b+3*(c:Int)+0):=by
  unfold Rr.verW at hv;rw[Int.add_zero];omega
 rw[if_neg hv',hnow.1];have:=hw.1;omega
theorem bc9 (hT:Shaped5 W) (h:SuAt W s p) (z:SuSz s) (he:¬ errS s=0) (pa:Option Addr) (na ca:Nat):Calls Tryz.prog 8 #[.agg (suC s p),.slice pa na ca] W fun r w'=>r=.returned (.bool true)/\Bl W w':=by
 obtain⟨W0,hW0⟩:∃ W0,W0=W.alloc (suO s p):=⟨_,rfl⟩
 obtain⟨PX,PL,_,PB,_⟩:=aQ3 hT h z hW0;have HX:=zH PX;have HLV:=zH PL;have HBG:=zH (PB he);clear PX PL PB h z hT he;go_enter Tryz.func8,Tryz.ntmps8
 go_upto_region 1 with fail
 rw[show W.alloc (.cells (suC s p) 28)=W0 from hW0.symm];clear hW0
 go_upto_region 2 with(go_at_call 9;refine(HLV.out W0 (zF _ _)).mono ?_;rintro r u1 ⟨rfl,q⟩;have H1:=zH q.out;clear q)
 obtain⟨x0,x1,x2,x3,x4,x5,x6,x7⟩:=a43 (HX.out u1 H1.out).1
 go_wp2_with (go_at_call 10;refine(HBG.out u1 H1.out).mono ?_;rintro r u2 ⟨rfl,q⟩;have H2:=zH q.out;clear q x0 x1 x2 x3 x4 x5 x6 x7)
 go_ret;exact⟨rfl,(HX.out u2 H2.out).2⟩
theorem aR4 (hT:Shaped5 W) (h:SuAt W s p) (z:SuSz s) (he:errS s=0) {pa:Option Addr} {na ca:Nat} {x:Nat->Int} (ha:Sd.IntsAt W pa na x) (ma:na<=ca/\ca<=maxLen) (h4:na<=4000):Calls Tryz.prog 8 #[.agg (suC s p),.slice pa na ca] W fun r w'=>r=.returned (.bool true)/\Bl W w':=by
 obtain⟨W0,hW0⟩:∃ W0,W0=W.alloc (suO s p):=⟨_,rfl⟩
 obtain⟨PX,PL,PB,_,PS⟩:=aQ3 hT h z hW0;have hs:=suIn h.ok he;have HX:=zH PX;have HLV:=zH PL;have HBG:=zH (PB he);have HSH:=zH (And.intro PS hs);have HIA:Hid (∀ u,Bl W0 u->Sd.IntsAt u pa na x/\ThAt u p.pt s.cl):=fun u hu=>⟨b95 ha (HX.out u hu).2 (zE _),(h.on (HX.out u hu).2).cl⟩
 have mai:(na:Int)<=9223372036854775807:=by have:=ma.2;unfold maxLen at this;omega
 have h4':¬ (4000:Int)<(na:Int):=by omega
 obtain⟨m,hm⟩:∃ m,m=na:=⟨_,rfl⟩
 have hm4:m<=4000:=by omega
 have HRU:Hid (∀ u F G,Mz 1 W0 u F s G (Z0 s) (Z0 s) (Z0 s)->Calls Tryz.prog 12 #[.pointer (some ⟨(F 0).b,0,none⟩),.slice pa na ca] u fun r w'=>∃ q,r=.returned q/\Hid (Mz 1 W0 w' F s G (runZ s (Z0 s) (yOf s x) m) (Z0 s) (Z0 s))):=fun u F G hu=>by
  rw[hm];exact(hu.run0 (k:=ca) HSH.out.2 (by decide) (HIA.out u hu.bl).1 (by omega) (by have z0:(Z0 s).X.H.N=0:=rfl;rw[z0];decide)).mono fun r w' q=>⟨_,q.1,q.2⟩
 clear PX PL PB PS h z hT he hs ha ma h4 hm;go_enter Tryz.func8,Tryz.ntmps8
 go_upto_region 1 with fail
 rw[show W.alloc (.cells (suC s p) 28)=W0 from hW0.symm];clear hW0
 go_upto_region 2 with(go_at_call 9;refine(HLV.out W0 (zF _ _)).mono ?_;rintro r u1 ⟨rfl,q⟩;have H1:=zH q.out;clear q)
 obtain⟨x0,x1,x2,x3,x4,x5,x6,x7⟩:=a43 (HX.out u1 H1.out).1
 go_upto_region 5 with(go_at_call 10;refine(HBG.out u1 H1.out).mono ?_;rintro r u2 ⟨f1,bd,rfl,q⟩;obtain⟨v,qb⟩:=q.out;obtain⟨bw,gs,tp,tc,qm⟩:=aV7 HSH.out.1 H1.out qb;have H2:=zH qm;clear q qb qm v x0 x1 x2 x3 x4 x5 x6 x7)
 clear HBG HLV H1;obtain⟨F,hF⟩:∃ F,F=fun _:Nat=>f1:=⟨_,rfl⟩
 have e1:Ex.b f1=(F 0).b:=by rw[hF]
 rw[e1];rw[<- hF]at H2;clear e1 hF;obtain⟨z1,hz1⟩:∃ z1,runZ s (Z0 s) (yOf s x) m=z1:=⟨_,rfl⟩
 rw[hz1]at HRU;have HZ1:Hid (WI s z1.X/\HAE z1.X.H/\TG s z1.X/\z1.X.H.N<=4000/\(s.c<=100->leE 510 z1.X.H.E<=nCalls s s.n*510)):=by
  have hs:=HSH.out.2;have wi0:=WI0 hs;have hy:∀ i,i<m->yOf s x i<s.n:=fun i _=>(bh4 hs x i).2
  have r:=ai3 hs (Z:=Z0 s) wi0 m hy;have z0:(Z0 s).X.H.N=0:=rfl;have ha0:HAE (Z0 s).X.H:=⟨_,_,_,_,HA0 hs⟩;rw[<- hz1];exact⟨r.1,aC0 hs wi0 ha0 m hy,(tg0 s).run hs wi0 m hy,by omega,fun hc=>zQ (aH1 hs wi0 ha0 hc m hy) (bM0 s)⟩
 clear hz1
 go_upto_region 8 with(go_at_call 12;refine(HRU.out u2 F _ H2.out).mono ?_;rintro r u3 ⟨q3,rfl,q⟩;have H3:=zH q.out;clear q)
 clear HRU H2;obtain⟨nb,hnb⟩:∃ nb,s.n=nb:=⟨_,rfl⟩
 have b8:=HSH.out.2.b8;have nbb:=HSH.out.2.nb;rw[hnb]at nbb;have hn8:nb<=8:=by omega
 have hn8':(nb:Int)<=8:=by omega
 obtain⟨x0,x1,x2,x3,x4,x5,x6,x7⟩:=a43 (HX.out u3 (Mz.bl H3.out)).1;rw[<- nbb]at x1;have HNB:=zH nbb;clear nbb;have hmk:=Sd.iMake nb (by omega) u3;have HR:=zH (Sd.row_made u3 nb (by omega) (fun i=>(i:Int)));have HB:=zH (below_alloc u3 (.cells (i64s (List.replicate nb 0)).toArray 3))
 generalize hWW:u3.alloc (.cells (i64s (List.replicate nb 0)).toArray 3)=v3 at hmk HR HB
 clear hWW;obtain⟨g,hg⟩:∃ g,g=u3.heap.size:=⟨_,rfl⟩
 rw[<- hg]at hmk HR;have HG:=zH hg;clear hg b8
 go_upto_block 0 with fail
 clear hmk x0 x1 x2 x3 x4 x5 x6 x7;refine bM9 _ (ub:=u3) (g:=g) (nb:=nb) hn8 (zH ⟨HR.out,HB.out,by rw[HG.out];exact zE _⟩) _ (by kernel_rfl) _ _ _ _ _ _ _ _ _ _ _ _ _ _ _ _ _ _ _ _ _ _ _ _ _ _ _ _ _ _ _ _ _ _ _ _ _ _ _ _ _ _ _ _ _ _ _ _ _ _ _ _ _ _ _ _ _ _ _ _ _ _ _ _ _ _ _ _ _ _ _ _ _ _ _ _ _ _ _ _ _ _ _ _ _ _ _ _ _ _ _ _ _ _ _ _ _ _ _ _ _ _ _ _ _ _ _ _ _ _ _ _ _ _ _ _ _ _ _ _ _ _ _ _ _ _ _ _ _ _ _ _ _ _ _ _ _ _ _ _ _ _ _ _ _ _ _ _ _ _ _ _ _ _ _ _ _ _ _ _ _ _ _ _ _ _ _ _ _ _ _ _ _ _ _ _ _ _ _ _ _ _ _ _ _ _ _ _ _ _ _ _ _ _ _ _ _ _ _ _ _ _ _ _ _ _ _ _ _ _ _ _ _ _ _ _ _ _ _ _ _ _ _ _ _ _ _ _ _ _ _ _ _ (by exact fun _ _ _ _ _ h=>h) ?_;intro _ _ _ _ _ _ _ _ u4 hrow hb4;obtain⟨o4,r1,r2⟩:=aW5 hrow;obtain⟨G2,hG2⟩:∃ G2,G2=[(g,o4)] ++ [(bd,reO s p (3+s.b) (3+s.b+3*s.a) bw gs (tp,tc) s.n)]:=⟨_,rfl⟩
 have H4:Hid (Mz 1 W0 u4 F s G2 z1 (Z0 s) (Z0 s)):=by
  rw[hG2];refine H3.out.more hb4 fun y hy=>?_
  rw[List.mem_singleton.1 hy];exact⟨by rw[HG.out];exact zE _,r1⟩
 have HG2:Hid ((g,o4)∈G2/\(bd,reO s p (3+s.b) (3+s.b+3*s.a) bw gs (tp,tc) s.n)∈G2):=by rw[hG2];exact⟨by simp,by simp⟩
 have HI4:Hid (∀ u Z,Mz 1 W0 u F s G2 Z (Z0 s) (Z0 s)->Sd.IntsAt u (some ⟨g,0,none⟩) nb (fun i=>(i:Int))):=fun u Z h=>r2 u (h.ot HG2.out.1)
 clear hrow hb4 r1 r2 hG2 H3 HR HB HG;obtain⟨n,hn⟩:∃ n,s.cl.length=n:=⟨_,rfl⟩
 have tl:=HSH.out.2.tl;rw[hn]at tl;have hn8c:n<=8:=by have:=HNB.out;omega
 obtain⟨x0,x1,x2,x3,x4,x5,x6,x7⟩:=a43 (HX.out u4 (Mz.bl H4.out)).1;rw[hn]at x6;have HCN:Hid (∀ k,k<=8->nCalls s k<=512):=fun k hk=>by
  have:=aN4 (f:=fun t=>(s.cs t).length) (m:=64) k (fun i _=>HSH.out.2.few i)
  show su (fun t=>(s.cs t).length) k<=512
  omega
 have HCA:Hid (nCalls s n=nCalls s s.n):=by rw[<- hn];exact aB8 HSH.out.2
 go_upto_block 2 with fail
 refine bx3 _ (pt:=p.pt) (ct:=p.ct) (n:=n) (s:=s) hn8c (zH ⟨hn,(HIA.out u4 (Mz.bl H4.out)).2,fun k hk=>HCN.out k (by omega)⟩) _ (by kernel_rfl) _ _ _ _ _ _ _ _ _ _ _ _ _ _ _ _ _ _ _ _ _ _ _ _ _ _ _ _ _ _ _ _ _ _ _ _ _ _ _ _ _ _ _ _ _ _ _ _ _ _ _ _ _ _ _ _ _ _ _ _ _ _ _ _ _ _ _ _ _ _ _ _ _ _ _ _ _ _ _ _ _ _ _ _ _ _ _ _ _ _ _ _ _ _ _ _ _ _ _ _ _ _ _ _ _ _ _ _ _ _ _ _ _ _ _ _ _ _ _ _ _ _ _ _ _ _ _ _ _ _ _ _ _ _ _ _ _ _ _ _ _ _ _ _ _ _ _ _ _ _ _ _ _ _ _ _ _ _ _ _ _ _ _ _ _ _ _ _ _ _ _ _ _ _ _ _ _ _ _ _ _ _ _ _ _ _ _ _ _ _ _ _ _ _ _ _ _ _ _ _ _ _ _ _ _ _ _ _ _ _ _ _ _ _ _ _ _ _ _ _ _ _ _ _ _ _ _ _ _ _ _ _ (by exact fun _ _ _ _ _ h=>h) ?_;intro _ _ _ _ _ _ _ _ _ u5 hu5;subst u5;have hC5:=HCN.out n hn8c;obtain⟨C,hC⟩:∃ C,nCalls s n=C:=⟨_,rfl⟩
 rw[hC]at hC5 HCA ⊢;have hC5':(C:Int)<=512:=by omega
 clear HIA HCN hC hn tl
 by_cases hc24:C<=24
 ·have hc24':¬ (24:Int)<(C:Int):=by omega
  by_cases hfu:s.c<=100
  ·have hfu':¬ (100:Int)<s.c:=by omega
   go_upto_block 4 with fail
   refine bc8 _ (W0:=W0) (F:=F) (s:=s) (G:=G2) (g:=g) (nb:=nb) (zH ⟨HSH.out.2,hfu,hnb,hn8⟩) HI4 (zH ⟨z1,H4.out,HZ1.out.2.1,HZ1.out.2.2.1,by have:=HZ1.out.2.2.2.2 hfu;rw[<- HCA.out]at this;omega,by have:=HZ1.out.2.2.2.1;omega⟩) _ (by kernel_rfl) _ _ _ _ _ _ _ _ _ _ _ _ _ _ _ _ _ _ _ _ _ _ _ _ _ _ _ _ _ _ _ _ _ _ _ _ _ _ _ _ _ _ _ _ _ _ _ _ _ _ _ _ _ _ _ _ _ _ _ _ _ _ _ _ _ _ _ _ _ _ _ _ _ _ _ _ _ _ _ _ _ _ _ _ _ _ _ _ _ _ _ _ _ _ _ _ _ _ _ _ _ _ _ _ _ _ _ _ _ _ _ _ _ _ _ _ _ _ _ _ _ _ _ _ _ _ _ _ _ _ _ _ _ _ _ _ _ _ _ _ _ _ _ _ _ _ _ _ _ _ _ _ _ _ _ _ _ _ _ _ _ _ _ _ _ _ _ _ _ _ _ _ _ _ _ _ _ _ _ _ _ _ _ _ _ _ _ _ _ _ _ _ _ _ _ _ _ _ _ _ _ _ _ _ _ _ _ _ _ _ _ _ _ _ _ _ _ _ _ _ _ _ _ _ _ _ _ _ _ _ _ _ _ (by exact fun _ _ _ _ _ h=>h) ?_;intro _ _ _ _ _ _ _ _ _ _ _ _ _ u6 Z hM hHA hTG hov;have H6:=zH hM;have HQ:=zH (And.intro hHA (And.intro hTG hov));clear hM hHA hTG hov H4 HZ1 HI4 x0 x1 x2 x3 x4 x5 x6 x7;have hwi:=H6.out.wi (by decide);have hfin:∀ u,u<s.n->finE Z.X.H.E u:=(aG2 s.n).1 HQ.out.2.2
   obtain⟨q1,q2,q3',q4,q5,q6,q7⟩:=aG8 hwi HQ.out.1 hfin;have few:=hwi.few HSH.out.2;have wlen:=hwi.len;have HST0:Hid (∀ c,c<s.a.toNat->((a76 s Z.X.H.E.ws).getD c 0:Int)=wordAt Z.X.H.E.ws (3+s.b+3*(c:Int)+1)):=fun c hc=>az0 HSH.out.2 hwi HQ.out.1 hfin hc
   have HF:Hid (∀ i,i<Z.X.H.dn->(Z.X.H.D i).en≠0/\(tagT (Z.X.H.D i).tx=2 ↔ isU (Z.X.H.D i).tx=true)/\endT (Z.X.H.D i).tx (macT (Z.X.H.D i).tx).how=(macT (Z.X.H.D i).tx).how/\(macT (Z.X.H.D i).tx).how≠0/\(isU (Z.X.H.D i).tx=true->((macT (Z.X.H.D i).tx).how=1 ↔ comU (Z.X.H.D i).tx=true))/\(isU (Z.X.H.D i).tx=false->comU (Z.X.H.D i).tx=false)):=fun i hi=>⟨q2 i hi,aJ1 hwi HQ.out.2.1 hi (q2 i hi)⟩
   have HOV:Hid (Calls Tryz.prog 23 #[.pointer (some ⟨(F 0).b,0,none⟩)] u6 fun r w'=>r=.returned (.bool true)/\Hid (Mz 1 W0 w' F s G2 Z (Z0 s) (Z0 s))):=by
    have:=H6.out.over HSH.out.2 (by decide);rwa[HQ.out.2.2]at this
   have HDE:Hid (∀ u,Mz 1 W0 u F s G2 Z (Z0 s) (Z0 s)->Calls Tryz.prog 24 #[.pointer (some ⟨(F 0).b,0,none⟩)] u fun r w'=>∃ g,r=.returned (.slice (some ⟨g,0,none⟩) Z.X.H.dn Z.X.H.dn)/\Hid ((∃ B D,DdsAt w' B g Z.X.H.dn Z.X.H.dn s Z D)/\Mz 1 W0 w' F s G2 Z (Z0 s) (Z0 s)/\Bl u w')):=fun u hu=>(hu.deeds HSH.out.2 (by decide)).mono fun r w' ⟨g,e,q⟩=>⟨g,e,q.out.1,hu.on q.out.2,q.out.2⟩
   have HWO:Hid (∀ u,Mz 1 W0 u F s G2 Z (Z0 s) (Z0 s)->Calls Tryz.prog 25 #[.pointer (some ⟨(F 0).b,0,none⟩)] u fun r w'=>∃ g,r=.returned (.slice (some ⟨g,0,none⟩) Z.X.H.E.ws.length Z.X.H.E.ws.length)/\Hid (Md.RowAt w' g Z.X.H.E.ws/\Mz 1 W0 w' F s G2 Z (Z0 s) (Z0 s))):=fun u hu=>(hu.words (by decide)).mono fun r w' ⟨g,e,q⟩=>⟨g,e,q.out.1,hu.on q.out.2⟩
   have HSA:Hid (∀ u,Mz 1 W0 u F s G2 Z (Z0 s) (Z0 s)->Calls Tryz.prog 26 #[.pointer (some ⟨(F 0).b,0,none⟩)] u fun r w'=>∃ g,r=.returned (.slice (some ⟨g,0,none⟩) s.a.toNat s.a.toNat)/\Hid (RowAt 71 w' (some ⟨g,0,none⟩) s.a.toNat (fls (a76 s Z.X.H.E.ws))/\Mz 1 W0 w' F s G2 Z (Z0 s) (Z0 s)/\Bl u w')):=fun u hu=>(hu.state HSH.out.2 (by decide)).mono fun r w' ⟨g,e,q⟩=>⟨g,e,q.out.1,hu.on q.out.2,q.out.2⟩
   have HSL:Hid ((a76 s Z.X.H.E.ws).length=s.a.toNat):=by show _=_;simp[a76]
   obtain⟨dn,hdn⟩:∃ dn,Z.X.H.dn=dn:=⟨_,rfl⟩
   rw[hdn]at q1 q3' q4 q5 few HF HDE;obtain⟨ws,hws⟩:∃ ws,Z.X.H.E.ws=ws:=⟨_,rfl⟩
   rw[hws]at q3' q4 q5 q6 wlen HST0 HWO HSA HSL;obtain⟨N,hN⟩:∃ N,ws.length=N:=⟨_,rfl⟩
   rw[hN]at wlen HWO;obtain⟨an,han⟩:∃ an,s.a.toNat=an:=⟨_,rfl⟩
   rw[han]at HSA HST0 HSL;have a256:=HSH.out.2.a256;have b8:=HSH.out.2.b8;have ean:(an:Int)=s.a:=by omega
   have an256:an<=256:=by omega
   have hNi:(N:Int)<=4096:=by omega
   obtain⟨cU,hcU⟩:∃ cU,cu (fun i=>isU (Z.X.H.D i).tx) dn=cU:=⟨_,rfl⟩
   obtain⟨cC,hcC⟩:∃ cC,cu (fun i=>comU (Z.X.H.D i).tx) dn=cC:=⟨_,rfl⟩
   have lU:=aw4 (fun i=>isU (Z.X.H.D i).tx) dn;have lC:=aw4 (fun i=>comU (Z.X.H.D i).tx) dn;rw[hcU]at q3' q4 lU;rw[hcC]at q5 lC;have lU':(cU:Int)<=512:=by omega
   have lC':(cC:Int)<=512:=by omega
   have hdC:dn=C:=q1.trans HCA.out.symm;have HWS:=zH (And.intro q3' (And.intro q4 (And.intro q5 (And.intro q6 (And.intro wlen hN)))));have HAN:=zH ean;subst hdC;clear hwi hfin q1 q2 q3' q4 q5 q6 q7 wlen hdn hws hN han a256 b8 ean HCA lU lC
   go_upto_block 6 with(first
    | (go_at_call 24;refine(HDE.out u7 H7.out).mono ?_;rintro r u8 ⟨g8,rfl,q⟩;have H8:=zH q.out;clear q)
    | (go_at_call 23;refine HOV.out.mono ?_;rintro r u7 ⟨rfl,q⟩;have H7:=zH q.out;clear q))
   obtain⟨B8,D8,hD8⟩:=H8.out.1;have HD8:=zH hD8;clear hD8;refine bx5 _ (B:=B8) (g:=g8) (dn:=dn) (s:=s) (Z:=Z) (Dn:=D8) few HD8 HF _ (by kernel_rfl) _ _ _ _ _ _ _ _ _ _ _ _ _ _ _ _ _ _ _ _ _ _ _ _ _ _ _ _ _ _ _ _ _ _ _ _ _ _ _ _ _ _ _ _ _ _ _ _ _ _ _ _ _ _ _ _ _ _ _ _ _ _ _ _ _ _ _ _ _ _ _ _ _ _ _ _ _ _ _ _ _ _ _ _ _ _ _ _ _ _ _ _ _ _ _ _ _ _ _ _ _ _ _ _ _ _ _ _ _ _ _ _ _ _ _ _ _ _ _ _ _ _ _ _ _ _ _ _ _ _ _ _ _ _ _ _ _ _ _ _ _ _ _ _ _ _ _ _ _ _ _ _ _ _ _ _ _ _ _ _ _ _ _ _ _ _ _ _ _ _ _ _ _ _ _ _ _ _ _ _ _ _ _ _ _ _ _ _ _ _ _ _ _ _ _ _ _ _ _ _ _ _ _ _ _ _ _ _ _ _ _ _ _ _ _ _ _ _ _ _ _ _ _ _ _ _ _ _ _ _ _ (by exact fun _ _ _ _ _ h=>h) ?_;intro _ _ _ _ _ _ _ _ _ _ _ _ _ _ _ _ _ _ _ _ _ _ _ _ _ _ u9 hb9;have H9:=zH (H8.out.2.1.on hb9);rw[hcU,hcC];clear hb9 H8 HD8 HF hcU hcC H7 HOV H6
   go_upto_region 42 with(first
    | (go_at_call 26;refine(HSA.out u10 H10.out.2).mono ?_;rintro r u11 ⟨g11,rfl,q⟩;have H11:=zH q.out;clear q)
    | (go_at_call 25;refine(HWO.out u9 H9.out).mono ?_;rintro r u10 ⟨g10,rfl,q⟩;have H10:=zH q.out;clear q))
   have HCL:Hid (∀ u,Bl u11 u->(u.cell? ⟨g10,0,none⟩=some (.int .u64 (cU:Int))/\u.cell? ⟨g10,1,none⟩=some (.int .u64 (cU:Int))/\u.cell? ⟨g10,2,none⟩=some (.int .u64 (cC:Int))/\g10<u.heap.size)/\(u.cell? ⟨bd,7,none⟩=some (.int .i64 0)/\u.cell? ⟨bd,8,none⟩=some (.int .i64 1)/\u.cell? ⟨bd,9,none⟩=some (.int .i64 2)/\u.cell? ⟨bd,10,none⟩=some (.int .i64 3)/\u.cell? ⟨bd,11,none⟩=some (.int .i64 (3+s.b))/\u.cell? ⟨bd,12,none⟩=some (.int .i64 (N:Int))/\bd<u.heap.size)/\(u.cell? ⟨W.heap.size,0,none⟩=some (.int .i64 (an:Int))/\u.cell? ⟨W.heap.size,1,none⟩=some (.int .i64 (nb:Int))/\W.heap.size<u.heap.size)/\Md.RowAt u g10 ws/\RowAt 71 u (some ⟨g11,0,none⟩) an (fls (a76 s ws))/\Bl W u):=fun u hu=>by
    have hm:=H11.out.2.1.on hu;have hbx:=hm.ot HG2.out.2;have hrw:Md.RowAt u g10 ws:=by
     have e1:u11.heap[g10]?=_:=(H11.out.2.2.block _ (lt_of_block H10.out.1)).trans H10.out.1;exact(hu.block _ (ac7 e1)).trans e1
    obtain⟨w0,w1,w2,w3,wl,wN⟩:=HWS.out;have hl:3<ws.length:=by have:=HSH.out.2.a256;have:=HSH.out.2.b8;omega
    obtain⟨y0,y1,y2,y3,y4,y5,y6,y7⟩:=a43 (HX.out u hm.bl).1;rw[<- HAN.out]at y0;rw[<- HNB.out]at y1;have c12:=(zR u bd 12 _ _ _ hbx).trans (rfl:_=some (Value.int .i64 (3+s.b+3*s.a)));rw[<- wl]at c12;have k0:=a89 hrw (k:=0) (by omega);have k1:=a89 hrw (k:=1) (by omega);have k2:=a89 hrw (k:=2) (by omega);refine⟨⟨k0.1.trans ?_,k1.1.trans ?_,k2.1.trans ?_,k0.2⟩,⟨(zR u bd 7 _ _ _ hbx).trans rfl,(zR u bd 8 _ _ _ hbx).trans rfl,(zR u bd 9 _ _ _ hbx).trans rfl,(zR u bd 10 _ _ _ hbx).trans rfl,(zR u bd 11 _ _ _ hbx).trans rfl,c12,ac7 hbx⟩,⟨y0,y1,y7⟩,hrw,H11.out.1.on hu,(HX.out u hm.bl).2⟩
    ·rw[<- w0];rfl
    ·rw[<- w1];rfl
    ·rw[<- w2];rfl
   obtain⟨⟨k0,k1,k2,kl⟩,⟨d7,d8,d9,d10,d11,d12,dl⟩,⟨y0,y1,yl⟩,_,_,_⟩:=HCL.out u11 (zF _ _);have hN0:(0:Int)<(N:Int)/\(1:Int)<(N:Int)/\(2:Int)<(N:Int):=by have:=HWS.out.2.2.2.2.1;have:=HSH.out.2.a256;have:=HSH.out.2.b8;exact⟨by omega,by omega,by omega⟩
   obtain⟨hN0,hN1,hN2⟩:=hN0
   go_upto_block 8 with(go_at_call 24;refine(HDE.out u11 H11.out.2.1).mono ?_;rintro r u12 ⟨g12,rfl,q⟩;have H12:=zH q.out.2.2;clear q)
   clear k0 k1 k2 kl d7 d8 d9 d10 d11 d12 dl y0 y1 yl;obtain⟨⟨_,_,_,kl⟩,⟨_,_,_,d10,d11,_,dl⟩,⟨_,y1,yl⟩,hrw,hst,hbW⟩:=HCL.out u12 H12.out;have HRW:=zH (And.intro hrw (And.intro hst hbW));have hN3:3+nb<=N:=by have:=HWS.out.2.2.2.2.1;have:=HNB.out;have:=HSH.out.2.a256;omega
   have HK1:=zH (And.intro y1 (And.intro yl (And.intro d10 (And.intro d11 (And.intro dl kl)))));have HWC:Hid (∀ t,t<nb->u12.cell? ⟨g10,3+t,none⟩=some (.int .u64 0)):=fun t ht=>by
    obtain⟨w0,w1,w2,w3,wl,wN⟩:=HWS.out;refine(a89 HRW.out.1 (k:=3+t) (by omega)).1.trans ?_;have:=w3 t (by omega);have e:wordAt ws (3+(t:Int))=ws.getD (3+t) 0:=by unfold wordAt;congr 1
    rw[<- e,this]
   have HWT:Hid (g11<u12.heap.size/\∀ i j:Nat,i<an->(j:Int)=(3+s.b)+3*(i:Int)+1->u12.cell? ⟨g11,i,none⟩=some (.float .f64 ((a76 s ws).getD i 0))/\u12.cell? ⟨g10,j,none⟩=some (.int .u64 (((a76 s ws).getD i 0:Nat):Int))):=by
    obtain⟨w0,w1,w2,w3,wl,wN⟩:=HWS.out;have lg:g11<u12.heap.size:=HRW.out.2.1.blw g11 (by simp[fpR]);refine⟨lg,fun i j hi hj=>⟨?_,?_⟩⟩
    ·obtain⟨g',o',e,_,c⟩:=HRW.out.2.1.fl i (by rw[HSL.out];exact hi)
     injection e with e;injection e with e1 e2 _;subst e1 e2;rw[Nat.zero_add]at c;exact c
    ·have hb:=HSH.out.2.b8
     have ha:=HAN.out;refine(a89 HRW.out.1 (k:=j) (by omega)).1.trans ?_;rw[HST0.out i hi];have e:wordAt ws (3+s.b+3*(i:Int)+1)=ws.getD j 0:=by unfold wordAt;rw[<- hj];rfl
     rw[e]
   clear hrw hst hbW y1 yl d10 d11 dl kl;refine bc7 _ (sb:=W.heap.size) (bd:=bd) (gw:=g10) (N:=N) (nb:=nb) hn8 hN3 hNi HK1.out.1 HK1.out.2.1 HK1.out.2.2.1 HK1.out.2.2.2.2.1 HK1.out.2.2.2.2.2 HWC _ (by kernel_rfl) _ _ _ _ _ _ _ _ _ _ _ _ _ _ _ _ _ _ _ _ _ _ _ _ _ _ _ _ _ _ _ _ _ _ _ _ _ _ _ _ _ _ _ _ _ _ _ _ _ _ _ _ _ _ _ _ _ _ _ _ _ _ _ _ _ _ _ _ _ _ _ _ _ _ _ _ _ _ _ _ _ _ _ _ _ _ _ _ _ _ _ _ _ _ _ _ _ _ _ _ _ _ _ _ _ _ _ _ _ _ _ _ _ _ _ _ _ _ _ _ _ _ _ _ _ _ _ _ _ _ _ _ _ _ _ _ _ _ _ _ _ _ _ _ _ _ _ _ _ _ _ _ _ _ _ _ _ _ _ _ _ _ _ _ _ _ _ _ _ _ _ _ _ _ _ _ _ _ _ _ _ _ _ _ _ _ _ _ _ _ _ _ _ _ _ _ _ _ _ _ _ _ _ _ _ _ _ _ _ _ _ _ _ _ _ _ _ _ _ _ _ _ _ _ _ _ _ _ _ _ _ _ (by exact fun _ _ _ _ _ h=>h) ?_;intro _ _ _ _ _ _ _ _ _ _ _ _ _ _ _ _ _ _ _ u13 hu13;subst u13
   go_upto_block 10 with fail
   refine bx6 _ (bd:=bd) (gs:=g11) (gw:=g10) (N:=N) (an:=an) (p4:=3+s.b) (l:=a76 s ws) an256 (by have:=HSH.out.2.b8;exact⟨by omega,by omega⟩) (by have:=HWS.out.2.2.2.2.1;have:=HAN.out;omega) (zH ⟨HK1.out.2.2.2.1,HK1.out.2.2.2.2.1,HK1.out.2.2.2.2.2,HWT.out.1⟩) (zH HWT.out.2) _ (by kernel_rfl) _ _ _ _ _ _ _ _ _ _ _ _ _ _ _ _ _ _ _ _ _ _ _ _ _ _ _ _ _ _ _ _ _ _ _ _ _ _ _ _ _ _ _ _ _ _ _ _ _ _ _ _ _ _ _ _ _ _ _ _ _ _ _ _ _ _ _ _ _ _ _ _ _ _ _ _ _ _ _ _ _ _ _ _ _ _ _ _ _ _ _ _ _ _ _ _ _ _ _ _ _ _ _ _ _ _ _ _ _ _ _ _ _ _ _ _ _ _ _ _ _ _ _ _ _ _ _ _ _ _ _ _ _ _ _ _ _ _ _ _ _ _ _ _ _ _ _ _ _ _ _ _ _ _ _ _ _ _ _ _ _ _ _ _ _ _ _ _ _ _ _ _ _ _ _ _ _ _ _ _ _ _ _ _ _ _ _ _ _ _ _ _ _ _ _ _ _ _ _ _ _ _ _ _ _ _ _ _ _ _ _ _ _ _ _ _ _ _ _ _ _ _ _ _ _ _ _ _ _ _ _ (by exact fun _ _ _ _ _ h=>h) ?_;intro _ _ _ _ _ _ _ _ _ _ _ _ _ _ _ _ _ _ _ _ _ _ _ u14 hs14;go_wp2_with fail;go_ret;exact⟨rfl,HRW.out.2.2.trans (hs14.below _)⟩
  ·have hfu':(100:Int)<s.c:=by omega
   go_wp2_with fail;go_ret;exact⟨rfl,(HX.out u4 (Mz.bl H4.out)).2⟩
 ·have hc24':(24:Int)<(C:Int):=by omega
  go_wp2_with fail;go_ret;exact⟨rfl,(HX.out u4 (Mz.bl H4.out)).2⟩
theorem b09 (hT:Shaped5 W) (h:SuAt W s p) (z:SuSz s) (he:errS s=0) {ga oa:Nat} {na ca:Nat} {x:Nat->Int} (ha:Sd.IntsAt W (some ⟨ga,oa,none⟩) na x) (ma:na<=ca/\ca<=maxLen) (h4:4000<na):Calls Tryz.prog 8 #[.agg (suC s p),.slice (some ⟨ga,oa,none⟩) na ca] W fun r w'=>r=.returned (.bool true)/\Bl W w':=by
 obtain⟨W0,hW0⟩:∃ W0,W0=W.alloc (suO s p):=⟨_,rfl⟩
 obtain⟨PX,PL,PB,_,PS⟩:=aQ3 hT h z hW0;have hs:=suIn h.ok he;have HX:=zH PX;have HLV:=zH PL;have HBG:=zH (PB he);have HSH:=zH (And.intro PS hs);have HIA:Hid (∀ u,Bl W0 u->Sd.IntsAt u (some ⟨ga,oa,none⟩) 4000 x/\ThAt u p.pt s.cl):=fun u hu=>⟨fun i hi=>b95 ha (HX.out u hu).2 (zE _) i (by omega),(h.on (HX.out u hu).2).cl⟩
 have mai:(na:Int)<=(ca:Int):=by omega
 have mbi:(ca:Int)<=9223372036854775807:=by have:=ma.2;unfold maxLen at this;omega
 have h4':(4000:Int)<(na:Int):=by omega
 have h4'':(4000:Int)<=(ca:Int):=by omega
 have h4n:¬ (ca:Int)<4000:=by omega
 have h4m:¬ ca<4000:=by omega
 obtain⟨m,hm⟩:∃ m,m=4000:=⟨_,rfl⟩
 have hm4:m<=4000:=by omega
 have HRU:Hid (∀ u F G,Mz 1 W0 u F s G (Z0 s) (Z0 s) (Z0 s)->Calls Tryz.prog 12 #[.pointer (some ⟨(F 0).b,0,none⟩),.slice (some ⟨ga,oa,none⟩) 4000 ca] u fun r w'=>∃ q,r=.returned q/\Hid (Mz 1 W0 w' F s G (runZ s (Z0 s) (yOf s x) m) (Z0 s) (Z0 s))):=fun u F G hu=>by
  rw[hm];exact(hu.run0 (k:=ca) HSH.out.2 (by decide) (HIA.out u hu.bl).1 (by omega) (by have z0:(Z0 s).X.H.N=0:=rfl;rw[z0];decide)).mono fun r w' q=>⟨_,q.1,q.2⟩
 clear PX PL PB PS h z hT he hs ha ma h4 hm;go_enter Tryz.func8,Tryz.ntmps8
 go_upto_region 1 with fail
 rw[show W.alloc (.cells (suC s p) 28)=W0 from hW0.symm];clear hW0
 go_upto_region 2 with(go_at_call 9;refine(HLV.out W0 (zF _ _)).mono ?_;rintro r u1 ⟨rfl,q⟩;have H1:=zH q.out;clear q)
 obtain⟨x0,x1,x2,x3,x4,x5,x6,x7⟩:=a43 (HX.out u1 H1.out).1
 go_upto_region 5 with(go_at_call 10;refine(HBG.out u1 H1.out).mono ?_;rintro r u2 ⟨f1,bd,rfl,q⟩;obtain⟨v,qb⟩:=q.out;obtain⟨bw,gs,tp,tc,qm⟩:=aV7 HSH.out.1 H1.out qb;have H2:=zH qm;clear q qb qm v x0 x1 x2 x3 x4 x5 x6 x7)
 clear HBG HLV H1;obtain⟨F,hF⟩:∃ F,F=fun _:Nat=>f1:=⟨_,rfl⟩
 have e1:Ex.b f1=(F 0).b:=by rw[hF]
 rw[e1];rw[<- hF]at H2;clear e1 hF;obtain⟨z1,hz1⟩:∃ z1,runZ s (Z0 s) (yOf s x) m=z1:=⟨_,rfl⟩
 rw[hz1]at HRU;have HZ1:Hid (WI s z1.X/\HAE z1.X.H/\TG s z1.X/\z1.X.H.N<=4000/\(s.c<=100->leE 510 z1.X.H.E<=nCalls s s.n*510)):=by
  have hs:=HSH.out.2;have wi0:=WI0 hs;have hy:∀ i,i<m->yOf s x i<s.n:=fun i _=>(bh4 hs x i).2
  have r:=ai3 hs (Z:=Z0 s) wi0 m hy;have z0:(Z0 s).X.H.N=0:=rfl;have ha0:HAE (Z0 s).X.H:=⟨_,_,_,_,HA0 hs⟩;rw[<- hz1];exact⟨r.1,aC0 hs wi0 ha0 m hy,(tg0 s).run hs wi0 m hy,by omega,fun hc=>zQ (aH1 hs wi0 ha0 hc m hy) (bM0 s)⟩
 clear hz1
 go_upto_region 8 with(go_at_call 12;refine(HRU.out u2 F _ H2.out).mono ?_;rintro r u3 ⟨q3,rfl,q⟩;have H3:=zH q.out;clear q)
 clear HRU H2;obtain⟨nb,hnb⟩:∃ nb,s.n=nb:=⟨_,rfl⟩
 have b8:=HSH.out.2.b8;have nbb:=HSH.out.2.nb;rw[hnb]at nbb;have hn8:nb<=8:=by omega
 have hn8':(nb:Int)<=8:=by omega
 obtain⟨x0,x1,x2,x3,x4,x5,x6,x7⟩:=a43 (HX.out u3 (Mz.bl H3.out)).1;rw[<- nbb]at x1;have HNB:=zH nbb;clear nbb;have hmk:=Sd.iMake nb (by omega) u3;have HR:=zH (Sd.row_made u3 nb (by omega) (fun i=>(i:Int)));have HB:=zH (below_alloc u3 (.cells (i64s (List.replicate nb 0)).toArray 3))
 generalize hWW:u3.alloc (.cells (i64s (List.replicate nb 0)).toArray 3)=v3 at hmk HR HB
 clear hWW;obtain⟨g,hg⟩:∃ g,g=u3.heap.size:=⟨_,rfl⟩
 rw[<- hg]at hmk HR;have HG:=zH hg;clear hg b8
 go_upto_block 0 with fail
 clear hmk x0 x1 x2 x3 x4 x5 x6 x7;refine bM9 _ (ub:=u3) (g:=g) (nb:=nb) hn8 (zH ⟨HR.out,HB.out,by rw[HG.out];exact zE _⟩) _ (by kernel_rfl) _ _ _ _ _ _ _ _ _ _ _ _ _ _ _ _ _ _ _ _ _ _ _ _ _ _ _ _ _ _ _ _ _ _ _ _ _ _ _ _ _ _ _ _ _ _ _ _ _ _ _ _ _ _ _ _ _ _ _ _ _ _ _ _ _ _ _ _ _ _ _ _ _ _ _ _ _ _ _ _ _ _ _ _ _ _ _ _ _ _ _ _ _ _ _ _ _ _ _ _ _ _ _ _ _ _ _ _ _ _ _ _ _ _ _ _ _ _ _ _ _ _ _ _ _ _ _ _ _ _ _ _ _ _ _ _ _ _ _ _ _ _ _ _ _ _ _ _ _ _ _ _ _ _ _ _ _ _ _ _ _ _ _ _ _ _ _ _ _ _ _ _ _ _ _ _ _ _ _ _ _ _ _ _ _ _ _ _ _ _ _ _ _ _ _ _ _ _ _ _ _ _ _ _ _ _ _ _ _ _ _ _ _ _ _ _ _ _ _ _ _ _ _ _ _ _ _ _ _ _ _ _ _ (by exact fun _ _ _ _ _ h=>h) ?_;intro _ _ _ _ _ _ _ _ u4 hrow hb4;obtain⟨o4,r1,r2⟩:=aW5 hrow;obtain⟨G2,hG2⟩:∃ G2,G2=[(g,o4)] ++ [(bd,reO s p (3+s.b) (3+s.b+3*s.a) bw gs (tp,tc) s.n)]:=⟨_,rfl⟩
 have H4:Hid (Mz 1 W0 u4 F s G2 z1 (Z0 s) (Z0 s)):=by
  rw[hG2];refine H3.out.more hb4 fun y hy=>?_
  rw[List.mem_singleton.1 hy];exact⟨by rw[HG.out];exact zE _,r1⟩
 have HG2:Hid ((g,o4)∈G2/\(bd,reO s p (3+s.b) (3+s.b+3*s.a) bw gs (tp,tc) s.n)∈G2):=by rw[hG2];exact⟨by simp,by simp⟩
 have HI4:Hid (∀ u Z,Mz 1 W0 u F s G2 Z (Z0 s) (Z0 s)->Sd.IntsAt u (some ⟨g,0,none⟩) nb (fun i=>(i:Int))):=fun u Z h=>r2 u (h.ot HG2.out.1)
 clear hrow hb4 r1 r2 hG2 H3 HR HB HG;obtain⟨n,hn⟩:∃ n,s.cl.length=n:=⟨_,rfl⟩
 have tl:=HSH.out.2.tl;rw[hn]at tl;have hn8c:n<=8:=by have:=HNB.out;omega
 obtain⟨x0,x1,x2,x3,x4,x5,x6,x7⟩:=a43 (HX.out u4 (Mz.bl H4.out)).1;rw[hn]at x6;have HCN:Hid (∀ k,k<=8->nCalls s k<=512):=fun k hk=>by
  have:=aN4 (f:=fun t=>(s.cs t).length) (m:=64) k (fun i _=>HSH.out.2.few i)
  show su (fun t=>(s.cs t).length) k<=512
  omega
 have HCA:Hid (nCalls s n=nCalls s s.n):=by rw[<- hn];exact aB8 HSH.out.2
 go_upto_block 2 with fail
 refine bx3 _ (pt:=p.pt) (ct:=p.ct) (n:=n) (s:=s) hn8c (zH ⟨hn,(HIA.out u4 (Mz.bl H4.out)).2,fun k hk=>HCN.out k (by omega)⟩) _ (by kernel_rfl) _ _ _ _ _ _ _ _ _ _ _ _ _ _ _ _ _ _ _ _ _ _ _ _ _ _ _ _ _ _ _ _ _ _ _ _ _ _ _ _ _ _ _ _ _ _ _ _ _ _ _ _ _ _ _ _ _ _ _ _ _ _ _ _ _ _ _ _ _ _ _ _ _ _ _ _ _ _ _ _ _ _ _ _ _ _ _ _ _ _ _ _ _ _ _ _ _ _ _ _ _ _ _ _ _ _ _ _ _ _ _ _ _ _ _ _ _ _ _ _ _ _ _ _ _ _ _ _ _ _ _ _ _ _ _ _ _ _ _ _ _ _ _ _ _ _ _ _ _ _ _ _ _ _ _ _ _ _ _ _ _ _ _ _ _ _ _ _ _ _ _ _ _ _ _ _ _ _ _ _ _ _ _ _ _ _ _ _ _ _ _ _ _ _ _ _ _ _ _ _ _ _ _ _ _ _ _ _ _ _ _ _ _ _ _ _ _ _ _ _ _ _ _ _ _ _ _ _ _ _ _ _ (by exact fun _ _ _ _ _ h=>h) ?_;intro _ _ _ _ _ _ _ _ _ u5 hu5;subst u5;have hC5:=HCN.out n hn8c;obtain⟨C,hC⟩:∃ C,nCalls s n=C:=⟨_,rfl⟩
 rw[hC]at hC5 HCA ⊢;have hC5':(C:Int)<=512:=by omega
 clear HIA HCN hC hn tl
 by_cases hc24:C<=24
 ·have hc24':¬ (24:Int)<(C:Int):=by omega
  by_cases hfu:s.c<=100
  ·have hfu':¬ (100:Int)<s.c:=by omega
   go_upto_block 4 with fail
   refine bc8 _ (W0:=W0) (F:=F) (s:=s) (G:=G2) (g:=g) (nb:=nb) (zH ⟨HSH.out.2,hfu,hnb,hn8⟩) HI4 (zH ⟨z1,H4.out,HZ1.out.2.1,HZ1.out.2.2.1,by have:=HZ1.out.2.2.2.2 hfu;rw[<- HCA.out]at this;omega,by have:=HZ1.out.2.2.2.1;omega⟩) _ (by kernel_rfl) _ _ _ _ _ _ _ _ _ _ _ _ _ _ _ _ _ _ _ _ _ _ _ _ _ _ _ _ _ _ _ _ _ _ _ _ _ _ _ _ _ _ _ _ _ _ _ _ _ _ _ _ _ _ _ _ _ _ _ _ _ _ _ _ _ _ _ _ _ _ _ _ _ _ _ _ _ _ _ _ _ _ _ _ _ _ _ _ _ _ _ _ _ _ _ _ _ _ _ _ _ _ _ _ _ _ _ _ _ _ _ _ _ _ _ _ _ _ _ _ _ _ _ _ _ _ _ _ _ _ _ _ _ _ _ _ _ _ _ _ _ _ _ _ _ _ _ _ _ _ _ _ _ _ _ _ _ _ _ _ _ _ _ _ _ _ _ _ _ _ _ _ _ _ _ _ _ _ _ _ _ _ _ _ _ _ _ _ _ _ _ _ _ _ _ _ _ _ _ _ _ _ _ _ _ _ _ _ _ _ _ _ _ _ _ _ _ _ _ _ _ _ _ _ _ _ _ _ _ _ _ _ _ (by exact fun _ _ _ _ _ h=>h) ?_;intro _ _ _ _ _ _ _ _ _ _ _ _ _ u6 Z hM hHA hTG hov;have H6:=zH hM;have HQ:=zH (And.intro hHA (And.intro hTG hov));clear hM hHA hTG hov H4 HZ1 HI4 x0 x1 x2 x3 x4 x5 x6 x7;have hwi:=H6.out.wi (by decide);have hfin:∀ u,u<s.n->finE Z.X.H.E u:=(aG2 s.n).1 HQ.out.2.2
   obtain⟨q1,q2,q3',q4,q5,q6,q7⟩:=aG8 hwi HQ.out.1 hfin;have few:=hwi.few HSH.out.2;have wlen:=hwi.len;have HST0:Hid (∀ c,c<s.a.toNat->((a76 s Z.X.H.E.ws).getD c 0:Int)=wordAt Z.X.H.E.ws (3+s.b+3*(c:Int)+1)):=fun c hc=>az0 HSH.out.2 hwi HQ.out.1 hfin hc
   have HF:Hid (∀ i,i<Z.X.H.dn->(Z.X.H.D i).en≠0/\(tagT (Z.X.H.D i).tx=2 ↔ isU (Z.X.H.D i).tx=true)/\endT (Z.X.H.D i).tx (macT (Z.X.H.D i).tx).how=(macT (Z.X.H.D i).tx).how/\(macT (Z.X.H.D i).tx).how≠0/\(isU (Z.X.H.D i).tx=true->((macT (Z.X.H.D i).tx).how=1 ↔ comU (Z.X.H.D i).tx=true))/\(isU (Z.X.H.D i).tx=false->comU (Z.X.H.D i).tx=false)):=fun i hi=>⟨q2 i hi,aJ1 hwi HQ.out.2.1 hi (q2 i hi)⟩
   have HOV:Hid (Calls Tryz.prog 23 #[.pointer (some ⟨(F 0).b,0,none⟩)] u6 fun r w'=>r=.returned (.bool true)/\Hid (Mz 1 W0 w' F s G2 Z (Z0 s) (Z0 s))):=by
    have:=H6.out.over HSH.out.2 (by decide);rwa[HQ.out.2.2]at this
   have HDE:Hid (∀ u,Mz 1 W0 u F s G2 Z (Z0 s) (Z0 s)->Calls Tryz.prog 24 #[.pointer (some ⟨(F 0).b,0,none⟩)] u fun r w'=>∃ g,r=.returned (.slice (some ⟨g,0,none⟩) Z.X.H.dn Z.X.H.dn)/\Hid ((∃ B D,DdsAt w' B g Z.X.H.dn Z.X.H.dn s Z D)/\Mz 1 W0 w' F s G2 Z (Z0 s) (Z0 s)/\Bl u w')):=fun u hu=>(hu.deeds HSH.out.2 (by decide)).mono fun r w' ⟨g,e,q⟩=>⟨g,e,q.out.1,hu.on q.out.2,q.out.2⟩
   have HWO:Hid (∀ u,Mz 1 W0 u F s G2 Z (Z0 s) (Z0 s)->Calls Tryz.prog 25 #[.pointer (some ⟨(F 0).b,0,none⟩)] u fun r w'=>∃ g,r=.returned (.slice (some ⟨g,0,none⟩) Z.X.H.E.ws.length Z.X.H.E.ws.length)/\Hid (Md.RowAt w' g Z.X.H.E.ws/\Mz 1 W0 w' F s G2 Z (Z0 s) (Z0 s))):=fun u hu=>(hu.words (by decide)).mono fun r w' ⟨g,e,q⟩=>⟨g,e,q.out.1,hu.on q.out.2⟩
   have HSA:Hid (∀ u,Mz 1 W0 u F s G2 Z (Z0 s) (Z0 s)->Calls Tryz.prog 26 #[.pointer (some ⟨(F 0).b,0,none⟩)] u fun r w'=>∃ g,r=.returned (.slice (some ⟨g,0,none⟩) s.a.toNat s.a.toNat)/\Hid (RowAt 71 w' (some ⟨g,0,none⟩) s.a.toNat (fls (a76 s Z.X.H.E.ws))/\Mz 1 W0 w' F s G2 Z (Z0 s) (Z0 s)/\Bl u w')):=fun u hu=>(hu.state HSH.out.2 (by decide)).mono fun r w' ⟨g,e,q⟩=>⟨g,e,q.out.1,hu.on q.out.2,q.out.2⟩
   have HSL:Hid ((a76 s Z.X.H.E.ws).length=s.a.toNat):=by show _=_;simp[a76]
   obtain⟨dn,hdn⟩:∃ dn,Z.X.H.dn=dn:=⟨_,rfl⟩
   rw[hdn]at q1 q3' q4 q5 few HF HDE;obtain⟨ws,hws⟩:∃ ws,Z.X.H.E.ws=ws:=⟨_,rfl⟩
   rw[hws]at q3' q4 q5 q6 wlen HST0 HWO HSA HSL;obtain⟨N,hN⟩:∃ N,ws.length=N:=⟨_,rfl⟩
   rw[hN]at wlen HWO;obtain⟨an,han⟩:∃ an,s.a.toNat=an:=⟨_,rfl⟩
   rw[han]at HSA HST0 HSL;have a256:=HSH.out.2.a256;have b8:=HSH.out.2.b8;have ean:(an:Int)=s.a:=by omega
   have an256:an<=256:=by omega
   have hNi:(N:Int)<=4096:=by omega
   obtain⟨cU,hcU⟩:∃ cU,cu (fun i=>isU (Z.X.H.D i).tx) dn=cU:=⟨_,rfl⟩
   obtain⟨cC,hcC⟩:∃ cC,cu (fun i=>comU (Z.X.H.D i).tx) dn=cC:=⟨_,rfl⟩
   have lU:=aw4 (fun i=>isU (Z.X.H.D i).tx) dn;have lC:=aw4 (fun i=>comU (Z.X.H.D i).tx) dn;rw[hcU]at q3' q4 lU;rw[hcC]at q5 lC;have lU':(cU:Int)<=512:=by omega
   have lC':(cC:Int)<=512:=by omega
   have hdC:dn=C:=q1.trans HCA.out.symm;have HWS:=zH (And.intro q3' (And.intro q4 (And.intro q5 (And.intro q6 (And.intro wlen hN)))));have HAN:=zH ean;subst hdC;clear hwi hfin q1 q2 q3' q4 q5 q6 q7 wlen hdn hws hN han a256 b8 ean HCA lU lC
   go_upto_block 6 with(first
    | (go_at_call 24;refine(HDE.out u7 H7.out).mono ?_;rintro r u8 ⟨g8,rfl,q⟩;have H8:=zH q.out;clear q)
    | (go_at_call 23;refine HOV.out.mono ?_;rintro r u7 ⟨rfl,q⟩;have H7:=zH q.out;clear q))
   obtain⟨B8,D8,hD8⟩:=H8.out.1;have HD8:=zH hD8;clear hD8;refine bx5 _ (B:=B8) (g:=g8) (dn:=dn) (s:=s) (Z:=Z) (Dn:=D8) few HD8 HF _ (by kernel_rfl) _ _ _ _ _ _ _ _ _ _ _ _ _ _ _ _ _ _ _ _ _ _ _ _ _ _ _ _ _ _ _ _ _ _ _ _ _ _ _ _ _ _ _ _ _ _ _ _ _ _ _ _ _ _ _ _ _ _ _ _ _ _ _ _ _ _ _ _ _ _ _ _ _ _ _ _ _ _ _ _ _ _ _ _ _ _ _ _ _ _ _ _ _ _ _ _ _ _ _ _ _ _ _ _ _ _ _ _ _ _ _ _ _ _ _ _ _ _ _ _ _ _ _ _ _ _ _ _ _ _ _ _ _ _ _ _ _ _ _ _ _ _ _ _ _ _ _ _ _ _ _ _ _ _ _ _ _ _ _ _ _ _ _ _ _ _ _ _ _ _ _ _ _ _ _ _ _ _ _ _ _ _ _ _ _ _ _ _ _ _ _ _ _ _ _ _ _ _ _ _ _ _ _ _ _ _ _ _ _ _ _ _ _ _ _ _ _ _ _ _ _ _ _ _ _ _ _ _ _ _ _ (by exact fun _ _ _ _ _ h=>h) ?_;intro _ _ _ _ _ _ _ _ _ _ _ _ _ _ _ _ _ _ _ _ _ _ _ _ _ _ u9 hb9;have H9:=zH (H8.out.2.1.on hb9);rw[hcU,hcC];clear hb9 H8 HD8 HF hcU hcC H7 HOV H6
   go_upto_region 42 with(first
    | (go_at_call 26;refine(HSA.out u10 H10.out.2).mono ?_;rintro r u11 ⟨g11,rfl,q⟩;have H11:=zH q.out;clear q)
    | (go_at_call 25;refine(HWO.out u9 H9.out).mono ?_;rintro r u10 ⟨g10,rfl,q⟩;have H10:=zH q.out;clear q))
   have HCL:Hid (∀ u,Bl u11 u->(u.cell? ⟨g10,0,none⟩=some (.int .u64 (cU:Int))/\u.cell? ⟨g10,1,none⟩=some (.int .u64 (cU:Int))/\u.cell? ⟨g10,2,none⟩=some (.int .u64 (cC:Int))/\g10<u.heap.size)/\(u.cell? ⟨bd,7,none⟩=some (.int .i64 0)/\u.cell? ⟨bd,8,none⟩=some (.int .i64 1)/\u.cell? ⟨bd,9,none⟩=some (.int .i64 2)/\u.cell? ⟨bd,10,none⟩=some (.int .i64 3)/\u.cell? ⟨bd,11,none⟩=some (.int .i64 (3+s.b))/\u.cell? ⟨bd,12,none⟩=some (.int .i64 (N:Int))/\bd<u.heap.size)/\(u.cell? ⟨W.heap.size,0,none⟩=some (.int .i64 (an:Int))/\u.cell? ⟨W.heap.size,1,none⟩=some (.int .i64 (nb:Int))/\W.heap.size<u.heap.size)/\Md.RowAt u g10 ws/\RowAt 71 u (some ⟨g11,0,none⟩) an (fls (a76 s ws))/\Bl W u):=fun u hu=>by
    have hm:=H11.out.2.1.on hu;have hbx:=hm.ot HG2.out.2;have hrw:Md.RowAt u g10 ws:=by
     have e1:u11.heap[g10]?=_:=(H11.out.2.2.block _ (lt_of_block H10.out.1)).trans H10.out.1;exact(hu.block _ (ac7 e1)).trans e1
    obtain⟨w0,w1,w2,w3,wl,wN⟩:=HWS.out;have hl:3<ws.length:=by have:=HSH.out.2.a256;have:=HSH.out.2.b8;omega
    obtain⟨y0,y1,y2,y3,y4,y5,y6,y7⟩:=a43 (HX.out u hm.bl).1;rw[<- HAN.out]at y0;rw[<- HNB.out]at y1;have c12:=(zR u bd 12 _ _ _ hbx).trans (rfl:_=some (Value.int .i64 (3+s.b+3*s.a)));rw[<- wl]at c12;have k0:=a89 hrw (k:=0) (by omega);have k1:=a89 hrw (k:=1) (by omega);have k2:=a89 hrw (k:=2) (by omega);refine⟨⟨k0.1.trans ?_,k1.1.trans ?_,k2.1.trans ?_,k0.2⟩,⟨(zR u bd 7 _ _ _ hbx).trans rfl,(zR u bd 8 _ _ _ hbx).trans rfl,(zR u bd 9 _ _ _ hbx).trans rfl,(zR u bd 10 _ _ _ hbx).trans rfl,(zR u bd 11 _ _ _ hbx).trans rfl,c12,ac7 hbx⟩,⟨y0,y1,y7⟩,hrw,H11.out.1.on hu,(HX.out u hm.bl).2⟩
    ·rw[<- w0];rfl
    ·rw[<- w1];rfl
    ·rw[<- w2];rfl
   obtain⟨⟨k0,k1,k2,kl⟩,⟨d7,d8,d9,d10,d11,d12,dl⟩,⟨y0,y1,yl⟩,_,_,_⟩:=HCL.out u11 (zF _ _);have hN0:(0:Int)<(N:Int)/\(1:Int)<(N:Int)/\(2:Int)<(N:Int):=by have:=HWS.out.2.2.2.2.1;have:=HSH.out.2.a256;have:=HSH.out.2.b8;exact⟨by omega,by omega,by omega⟩
   obtain⟨hN0,hN1,hN2⟩:=hN0
   go_upto_block 8 with(go_at_call 24;refine(HDE.out u11 H11.out.2.1).mono ?_;rintro r u12 ⟨g12,rfl,q⟩;have H12:=zH q.out.2.2;clear q)
   clear k0 k1 k2 kl d7 d8 d9 d10 d11 d12 dl y0 y1 yl;obtain⟨⟨_,_,_,kl⟩,⟨_,_,_,d10,d11,_,dl⟩,⟨_,y1,yl⟩,hrw,hst,hbW⟩:=HCL.out u12 H12.out;have HRW:=zH (And.intro hrw (And.intro hst hbW));have hN3:3+nb<=N:=by have:=HWS.out.2.2.2.2.1;have:=HNB.out;have:=HSH.out.2.a256;omega
   have HK1:=zH (And.intro y1 (And.intro yl (And.intro d10 (And.intro d11 (And.intro dl kl)))));have HWC:Hid (∀ t,t<nb->u12.cell? ⟨g10,3+t,none⟩=some (.int .u64 0)):=fun t ht=>by
    obtain⟨w0,w1,w2,w3,wl,wN⟩:=HWS.out;refine(a89 HRW.out.1 (k:=3+t) (by omega)).1.trans ?_;have:=w3 t (by omega);have e:wordAt ws (3+(t:Int))=ws.getD (3+t) 0:=by unfold wordAt;congr 1
    rw[<- e,this]
   have HWT:Hid (g11<u12.heap.size/\∀ i j:Nat,i<an->(j:Int)=(3+s.b)+3*(i:Int)+1->u12.cell? ⟨g11,i,none⟩=some (.float .f64 ((a76 s ws).getD i 0))/\u12.cell? ⟨g10,j,none⟩=some (.int .u64 (((a76 s ws).getD i 0:Nat):Int))):=by
    obtain⟨w0,w1,w2,w3,wl,wN⟩:=HWS.out;have lg:g11<u12.heap.size:=HRW.out.2.1.blw g11 (by simp[fpR]);refine⟨lg,fun i j hi hj=>⟨?_,?_⟩⟩
    ·obtain⟨g',o',e,_,c⟩:=HRW.out.2.1.fl i (by rw[HSL.out];exact hi)
     injection e with e;injection e with e1 e2 _;subst e1 e2;rw[Nat.zero_add]at c;exact c
    ·have hb:=HSH.out.2.b8
     have ha:=HAN.out;refine(a89 HRW.out.1 (k:=j) (by omega)).1.trans ?_;rw[HST0.out i hi];have e:wordAt ws (3+s.b+3*(i:Int)+1)=ws.getD j 0:=by unfold wordAt;rw[<- hj];rfl
     rw[e]
   clear hrw hst hbW y1 yl d10 d11 dl kl;refine bc7 _ (sb:=W.heap.size) (bd:=bd) (gw:=g10) (N:=N) (nb:=nb) hn8 hN3 hNi HK1.out.1 HK1.out.2.1 HK1.out.2.2.1 HK1.out.2.2.2.2.1 HK1.out.2.2.2.2.2 HWC _ (by kernel_rfl) _ _ _ _ _ _ _ _ _ _ _ _ _ _ _ _ _ _ _ _ _ _ _ _ _ _ _ _ _ _ _ _ _ _ _ _ _ _ _ _ _ _ _ _ _ _ _ _ _ _ _ _ _ _ _ _ _ _ _ _ _ _ _ _ _ _ _ _ _ _ _ _ _ _ _ _ _ _ _ _ _ _ _ _ _ _ _ _ _ _ _ _ _ _ _ _ _ _ _ _ _ _ _ _ _ _ _ _ _ _ _ _ _ _ _ _ _ _ _ _ _ _ _ _ _ _ _ _ _ _ _ _ _ _ _ _ _ _ _ _ _ _ _ _ _ _ _ _ _ _ _ _ _ _ _ _ _ _ _ _ _ _ _ _ _ _ _ _ _ _ _ _ _ _ _ _ _ _ _ _ _ _ _ _ _ _ _ _ _ _ _ _ _ _ _ _ _ _ _ _ _ _ _ _ _ _ _ _ _ _ _ _ _ _ _ _ _ _ _ _ _ _ _ _ _ _ _ _ _ _ _ _ (by exact fun _ _ _ _ _ h=>h) ?_;intro _ _ _ _ _ _ _ _ _ _ _ _ _ _ _ _ _ _ _ u13 hu13;subst u13
   go_upto_block 10 with fail
   refine bx6 _ (bd:=bd) (gs:=g11) (gw:=g10) (N:=N) (an:=an) (p4:=3+s.b) (l:=a76 s ws) an256 (by have:=HSH.out.2.b8;exact⟨by omega,by omega⟩) (by have:=HWS.out.2.2.2.2.1;have:=HAN.out;omega) (zH ⟨HK1.out.2.2.2.1,HK1.out.2.2.2.2.1,HK1.out.2.2.2.2.2,HWT.out.1⟩) (zH HWT.out.2) _ (by kernel_rfl) _ _ _ _ _ _ _ _ _ _ _ _ _ _ _ _ _ _ _ _ _ _ _ _ _ _ _ _ _ _ _ _ _ _ _ _ _ _ _ _ _ _ _ _ _ _ _ _ _ _ _ _ _ _ _ _ _ _ _ _ _ _ _ _ _ _ _ _ _ _ _ _ _ _ _ _ _ _ _ _ _ _ _ _ _ _ _ _ _ _ _ _ _ _ _ _ _ _ _ _ _ _ _ _ _ _ _ _ _ _ _ _ _ _ _ _ _ _ _ _ _ _ _ _ _ _ _ _ _ _ _ _ _ _ _ _ _ _ _ _ _ _ _ _ _ _ _ _ _ _ _ _ _ _ _ _ _ _ _ _ _ _ _ _ _ _ _ _ _ _ _ _ _ _ _ _ _ _ _ _ _ _ _ _ _ _ _ _ _ _ _ _ _ _ _ _ _ _ _ _ _ _ _ _ _ _ _ _ _ _ _ _ _ _ _ _ _ _ _ _ _ _ _ _ _ _ _ _ _ _ _ (by exact fun _ _ _ _ _ h=>h) ?_;intro _ _ _ _ _ _ _ _ _ _ _ _ _ _ _ _ _ _ _ _ _ _ _ u14 hs14;go_wp2_with fail;go_ret;exact⟨rfl,HRW.out.2.2.trans (hs14.below _)⟩
  ·have hfu':(100:Int)<s.c:=by omega
   go_wp2_with fail;go_ret;exact⟨rfl,(HX.out u4 (Mz.bl H4.out)).2⟩
 ·have hc24':(24:Int)<(C:Int):=by omega
  go_wp2_with fail;go_ret;exact⟨rfl,(HX.out u4 (Mz.bl H4.out)).2⟩
theorem quiet_any (hT:Shaped5 W) (h:SuAt W s p) (z:SuSz s) {pa:Option Addr} {na ca:Nat} {x:Nat->Int} (ha:Sd.IntsAt W pa na x) (ma:na<=ca/\ca<=maxLen):Calls Tryz.prog 8 #[.agg (suC s p),.slice pa na ca] W fun r w'=>r=.returned (.bool true)/\Bl W w':=by
 by_cases he:errS s=0
 ·by_cases h4:na<=4000
  ·exact aR4 hT h z he ha ma h4
  ·obtain⟨ga,oa,rfl,_⟩:=ha 0 (by omega)
   exact b09 hT h z he ha ma (by omega)
 ·exact bc9 hT h z he pa na ca
end
end Go.Proofs.YtlkldgopliablaaGreatDoor.En
namespace Go.Proofs.YtlkldgopliablaaGreatDoor.En
open Go.ChangeShapes Go.WideShapes Go.ChangeAt Go.RowKit Go.Deep Num Ww
theorem aB0:Tryz.prog.cellsOf 3=1:=by kernel_rfl
theorem aT9:Tryz.prog.cellsOf 133=3:=by kernel_rfl
theorem bz5:Tryz.prog.cellsOf 23=4:=by kernel_rfl
theorem b55:Tryz.prog.cellsOf 136=2:=by kernel_rfl
theorem b53:Tryz.prog.cellsOf 138=2:=by kernel_rfl
theorem bz7:Tryz.prog.cellsOf 134=1:=by kernel_rfl
theorem b54:Tryz.prog.cellsOf 24=1:=by kernel_rfl
theorem bz6:Tryz.prog.cellsOf 59=1:=by kernel_rfl
theorem bz8:Tryz.prog.cellsOf 25=1:=by kernel_rfl
theorem bz9:Tryz.prog.cellsOf 26=1:=by kernel_rfl
theorem bA0:Tryz.prog.cellsOf 28=7:=by kernel_rfl
theorem bi6:Tryz.prog.bytesOf 133=24:=by kernel_rfl
theorem bz2:Tryz.prog.bytesOf 136=32:=by kernel_rfl
theorem bz0:Tryz.prog.bytesOf 138=32:=by kernel_rfl
theorem bz1:Tryz.prog.bytesOf 59=24:=by kernel_rfl
section
variable {H:Type} {enc:TypeId × Value->H}
theorem an6 {P:Program} {e:TypeId} {d:DataW H} {z:Nat}:∀ {l:List (DataW H)},d∈l->z∈d.weights P e->z∈DataW.weightsAll P e l:=by
 intro l
 induction l with
 | nil=>intro h;cases h
 | cons a l ih =>
  intro h hz;simp only[DataW.weightsAll,List.mem_append]
  rcases List.mem_cons.1 h with rfl | q
  ·exact .inl hz
  ·exact .inr (ih q hz)
theorem b06 {W:World} {fuel:Nat} {cs:List Value} {x:DataW H × List MemPlace} (hf:DataW.trod enc Tryz.prog W 0 (fun _=>true) true fuel 134 cs=some x) :
  ∃ (ao:Option Addr) (c:List Ins) (cap:Nat),cs=[.slice ao c.length cap]/\(∀ k,k<c.length->(ci c k).x<18446744073709551616)/\a36 W ao c/\Pln ao c.length cap/\((∀ z∈x.1.weights Tryz.prog 134,z<=reachBytes)->c.length*24<=reachBytes):=by
 rcases open_slice Tryz.underlying134 hf with⟨hcs,_⟩ | ⟨a,len,cap,m,n,D,Pl,hcs,_,hl,hm,hmm,hd,hx⟩
 ·exact⟨none,[],0,hcs,fun i hi=>absurd hi (zI i),fun i hi=>absurd hi (zI i),.inl ⟨rfl,rfl,rfl⟩,fun _=>by simp⟩
 ·simp only[if_true]at hmm
  have hd1:x.1=.slice ((List.range len).map D) ((List.range (m - len)).map fun j=>D (len+j)):=congrArg Prod.fst hd;obtain⟨b,off,spot⟩:=a;have hs:0<len->spot=none:=by
   intro h0;obtain⟨cs',h1,_⟩:=hx 0 (by omega);rw[aT9]at h1;obtain⟨_,hlen,hcell⟩:=World.cells?_some h1
   match cs',hlen with
   | [c0,c1,c2],_ =>
    have f0:=hcell 0 (by omega)
    simpa[Addr.add]using World.cell?_spot f0
  have each:∀ i,i<len->∃ q:Ins,spot=none/\b<W.heap.size/\q.x<18446744073709551616/\W.cell? ⟨b,off+i*3,none⟩=some (.int .i64 q.op)/\W.cell? ⟨b,off+i*3+1,none⟩=some (.int .i64 q.n)/\W.cell? ⟨b,off+i*3+2,none⟩=some (.float .f64 q.x):=by
   intro i hi;obtain⟨cs',h1,h2⟩:=hx i (by omega);rw[aT9]at h1;obtain⟨_,hlen,hcell⟩:=World.cells?_some h1;obtain⟨xs,k,_,_,_,hxl,hg⟩:=DataW.trod_struct Tryz.underlying133 h2
   match xs,hxl,cs',hlen with
   | [y0,y1,y2],_,[c0,c1,c2],_ =>
    have g0:=hg 0 _ rfl;have g1:=hg 1 _ rfl;have g2:=hg 2 _ rfl
    simp[aB0,bv8]at g0 g1 g2
    obtain⟨x0,e0,_,_⟩:=DataW.trod_int Tryz.underlying3 g0;obtain⟨x1,e1,_,_⟩:=DataW.trod_int Tryz.underlying3 g1;obtain⟨x2,e2,hx2⟩:=aX3 g2
    simp at e0 e1 e2
    subst e0 e1 e2;have f0:=hcell 0 (by omega);have f1:=hcell 1 (by omega);have f2:=hcell 2 (by omega);rw[add_add]at f0 f1 f2;have hspot:=hs (by omega);subst hspot;rw[zJ]at f0 f1 f2;exact⟨⟨x0,x1,x2⟩,rfl,zK W _ f0,hx2,f0,f1,f2⟩
  have:Inhabited Ins:=⟨⟨0,0,0⟩⟩;obtain⟨q,hq⟩:=choose_lt each;have hcl:((List.range len).map q).length=len:=by simp
  have hci:∀ i,i<len->ci ((List.range len).map q) i=q i:=fun i hi=>by
   unfold ci
   simp[List.getD_eq_getElem?_getD,hi]
  refine⟨some ⟨b,off,spot⟩,(List.range len).map q,cap,by rw[hcl];exact hcs,fun i hi=>?_,fun i hi=>?_,.inr ⟨b,off,spot,rfl⟩,fun hz=>?_⟩
  ·rw[hcl]at hi
   rw[hci i hi];exact(hq i hi).2.2.1
  ·rw[hcl]at hi
   rw[hci i hi];obtain⟨rfl,h2,_,r⟩:=hq i hi;exact⟨b,off,rfl,h2,r⟩
  ·have:=hz ((len+(m - len))*24) (by
    rw[hd1]
    simp[DataW.weights,Tryz.underlying134,bi6])
   rw[hcl];omega
theorem aL0 {W:World} {fuel:Nat} {cs:List Value} {x:DataW H × List MemPlace} (hf:DataW.trod enc Tryz.prog W 0 (fun _=>true) true fuel 24 cs=some x) :
  ∃ (ao:Option Addr) (l:List Nat) (cap:Nat),cs=[.slice ao l.length cap]/\(∀ y∈l,y<18446744073709551616)/\FlAt W ao l/\Pln ao l.length cap/\l.length<=maxLen/\((∀ z∈x.1.weights Tryz.prog 24,z<=reachBytes)->l.length*8<=reachBytes):=by
 rcases open_slice1 Tryz.underlying24 bv8 hf with⟨hcs,_⟩ | ⟨a,len,cap,m,n,V,D,Pl,hcs,_,hl,hm,hmm,hd,hx⟩
 ·exact⟨none,[],0,hcs,fun y hy=>(by cases hy),fun i hi=>absurd hi (zI i),.inl ⟨rfl,rfl,rfl⟩,zV _,fun _=>by simp⟩
 ·simp only[if_true]at hmm
  have hd1:x.1=.slice ((List.range len).map D) ((List.range (m - len)).map fun j=>D (len+j)):=congrArg Prod.fst hd;obtain⟨b,off,spot⟩:=a;have hs:0<len->spot=none:=by
   intro h0;obtain⟨h1,_⟩:=hx 0 (by omega)
   simpa[Addr.add]using World.cell?_spot h1
  have each:∀ i,i<len->∃ q:Nat,spot=none/\b<W.heap.size/\q<18446744073709551616/\W.cell? ⟨b,off+i,none⟩=some (.float .f64 q):=by
   intro i hi;obtain⟨h1,h2⟩:=hx i (by omega);obtain⟨q,e,hq⟩:=aX3 h2
   simp at e
   rw[e]at h1;have hs:=hs (by omega);subst hs;rw[zJ]at h1;exact⟨q,rfl,zK W _ h1,hq,h1⟩
  obtain⟨q,hq⟩:=choose_lt each;have hlen:((List.range len).map q).length=len:=by simp
  have hget:∀ i,i<len->((List.range len).map q).getD i 0=q i:=fun i hi=>by simp[hi]
  refine⟨some ⟨b,off,spot⟩,(List.range len).map q,cap,by rw[hlen];exact hcs,fun y hy=>?_,fun i hi=>?_,.inr ⟨b,off,spot,rfl⟩,by rw[hlen];exact zQ hl hm,fun hz=>?_⟩
  ·obtain⟨j,hj,rfl⟩:=List.mem_map.1 hy
   exact(hq j (List.mem_range.1 hj)).2.2.1
  ·rw[hlen]at hi
   obtain⟨rfl,r1,_,r3⟩:=hq i hi;exact⟨b,off,rfl,r1,by rw[hget i hi];exact r3⟩
  ·have:=hz ((len+(m - len))*8) (by
    rw[hd1]
    simp[DataW.weights,Tryz.underlying24,bJ0])
   rw[hlen];omega
theorem aQ9 {W:World} {fuel:Nat} {cs:List Value} {x:DataW H × List MemPlace} (hf:DataW.trod enc Tryz.prog W 0 (fun _=>true) true fuel 25 cs=some x) (hz:∀ z∈x.1.weights Tryz.prog 25,z<=reachBytes) :
  ∃ (ao:Option Addr) (l:List (Int × List Ins)) (cap:Nat),cs=[.slice ao l.length cap]/\l.length<=maxLen/\PrAt W ao l/\(∀ p∈l,∀ k,k<p.2.length->(ci p.2 k).x<18446744073709551616)/\l.length*32<=reachBytes/\∀ p∈l,p.2.length*24<=reachBytes:=by
 rcases open_slice Tryz.underlying25 hf with⟨hcs,_⟩ | ⟨a,len,cap,m,n,D,Pl,hcs,_,hl,hm,hmm,hd,hx⟩
 ·exact⟨none,[],0,hcs,zV _,fun i hi=>absurd hi (zI i),fun p hp=>(by cases hp),zV _,fun p hp=>(by cases hp)⟩
 ·simp only[if_true]at hmm
  have hd1:x.1=.slice ((List.range len).map D) ((List.range (m - len)).map fun j=>D (len+j)):=congrArg Prod.fst hd;rw[hd1]at hz;obtain⟨b,off,spot⟩:=a;have hs:0<len->spot=none:=by
   intro h0;obtain⟨cs',h1,_⟩:=hx 0 (by omega);rw[b55]at h1;obtain⟨_,hlen,hcell⟩:=World.cells?_some h1
   match cs',hlen with
   | [c0,c1],_ =>
    have f0:=hcell 0 (by omega)
    simpa[Addr.add]using World.cell?_spot f0
  have each:∀ i,i<len->∃ q:(Int × List Ins) × (Option Addr × Nat),spot=none/\b<W.heap.size/\W.cell? ⟨b,off+i*2,none⟩=some (.int .i64 q.1.1)/\W.cell? ⟨b,off+i*2+1,none⟩=some (.slice q.2.1 q.1.2.length q.2.2)/\a36 W q.2.1 q.1.2/\Pln q.2.1 q.1.2.length q.2.2/\(∀ k,k<q.1.2.length->(ci q.1.2 k).x<18446744073709551616)/\q.1.2.length*24<=reachBytes:=by
   intro i hi;obtain⟨cs',h1,h2⟩:=hx i (by omega);rw[b55]at h1;obtain⟨_,hlen,hcell⟩:=World.cells?_some h1;obtain⟨xs,k,_,hxd,_,hxl,hg⟩:=DataW.trod_struct Tryz.underlying136 h2
   match xs,hxl,cs',hlen with
   | [y0,y1],_,[c0,c1],_ =>
    have g0:=hg 0 _ rfl;have g1:=hg 1 _ rfl
    simp[aB0,bz7]at g0 g1
    obtain⟨x0,e0,_,_⟩:=DataW.trod_int Tryz.underlying3 g0;obtain⟨ao,cc,cp,e1,hcx,hco,hpl,hsz⟩:=b06 g1
    simp at e0 e1
    subst e0 e1;have f0:=hcell 0 (by omega);have f1:=hcell 1 (by omega);rw[add_add]at f0 f1;have hspot:=hs (by omega);subst hspot;rw[zJ]at f0 f1;have hDi:D i=.agg [y0.1,y1.1]:=congrArg Prod.fst hxd;refine⟨((x0,cc),(ao,cp)),rfl,zK W _ f0,f0,f1,hco,hpl,hcx,hsz fun z hz'=>hz z ?_⟩;simp only[DataW.weights,Tryz.underlying25];refine List.mem_cons_of_mem _ (List.mem_append_left _ (an6 (List.mem_map.2 ⟨i,List.mem_range.2 hi,rfl⟩) ?_));rw[hDi]
    simp[DataW.weights,DataW.weightsEach,Tryz.underlying136,hz']
  have:Inhabited ((Int × List Ins) × (Option Addr × Nat)):=⟨((0,[]),(none,0))⟩;obtain⟨q,hq⟩:=choose_lt each;have hcl:((List.range len).map fun i=>(q i).1).length=len:=by simp
  have hget:∀ i,i<len->((List.range len).map fun i=>(q i).1).getD i (0,[])=(q i).1:=fun i hi=>by simp[hi]
  have hr:reachBytes=140737488351232:=rfl;refine⟨some ⟨b,off,spot⟩,(List.range len).map fun i=>(q i).1,cap,by rw[hcl];exact hcs,by rw[hcl];exact zQ hl hm,fun i hi=>?_,fun p hp=>?_,?_,fun p hp=>?_⟩
  ·rw[hcl]at hi
   rw[hget i hi];obtain⟨rfl,r1,r2,r3,r4,r5,_,r6⟩:=hq i hi;exact⟨b,off,(q i).2.1,(q i).2.2,rfl,r1,r2,r3,r4,r5,by omega⟩
  ·obtain⟨j,hj,rfl⟩:=List.mem_map.1 hp
   exact(hq j (List.mem_range.1 hj)).2.2.2.2.2.2.1
  ·have:=hz ((len+(m - len))*32) (by simp[DataW.weights,Tryz.underlying25,bz2])
   rw[hcl];omega
  ·obtain⟨j,hj,rfl⟩:=List.mem_map.1 hp
   exact(hq j (List.mem_range.1 hj)).2.2.2.2.2.2.2
theorem aQ8 {W:World} {fuel:Nat} {cs:List Value} {x:DataW H × List MemPlace} (hf:DataW.trod enc Tryz.prog W 0 (fun _=>true) true fuel 59 cs=some x) (hz:∀ z∈x.1.weights Tryz.prog 59,z<=reachBytes) :
  ∃ (ao:Option Addr) (l:List (Int × List Nat)) (cap:Nat),cs=[.slice ao l.length cap]/\l.length<=maxLen/\CaAt W ao l/\(∀ p∈l,∀ y∈p.2,y<18446744073709551616)/\l.length*32<=reachBytes/\∀ p∈l,p.2.length*8<=reachBytes:=by
 rcases open_slice Tryz.underlying59 hf with⟨hcs,_⟩ | ⟨a,len,cap,m,n,D,Pl,hcs,_,hl,hm,hmm,hd,hx⟩
 ·exact⟨none,[],0,hcs,zV _,fun i hi=>absurd hi (zI i),fun p hp=>(by cases hp),zV _,fun p hp=>(by cases hp)⟩
 ·simp only[if_true]at hmm
  have hd1:x.1=.slice ((List.range len).map D) ((List.range (m - len)).map fun j=>D (len+j)):=congrArg Prod.fst hd;rw[hd1]at hz;obtain⟨b,off,spot⟩:=a;have hs:0<len->spot=none:=by
   intro h0;obtain⟨cs',h1,_⟩:=hx 0 (by omega);rw[b53]at h1;obtain⟨_,hlen,hcell⟩:=World.cells?_some h1
   match cs',hlen with
   | [c0,c1],_ =>
    have f0:=hcell 0 (by omega)
    simpa[Addr.add]using World.cell?_spot f0
  have each:∀ i,i<len->∃ q:(Int × List Nat) × (Option Addr × Nat),spot=none/\b<W.heap.size/\W.cell? ⟨b,off+i*2,none⟩=some (.int .i64 q.1.1)/\W.cell? ⟨b,off+i*2+1,none⟩=some (.slice q.2.1 q.1.2.length q.2.2)/\FlAt W q.2.1 q.1.2/\Pln q.2.1 q.1.2.length q.2.2/\q.1.2.length<=maxLen/\(∀ y∈q.1.2,y<18446744073709551616)/\q.1.2.length*8<=reachBytes:=by
   intro i hi;obtain⟨cs',h1,h2⟩:=hx i (by omega);rw[b53]at h1;obtain⟨_,hlen,hcell⟩:=World.cells?_some h1;obtain⟨xs,k,_,hxd,_,hxl,hg⟩:=DataW.trod_struct Tryz.underlying138 h2
   match xs,hxl,cs',hlen with
   | [y0,y1],_,[c0,c1],_ =>
    have g0:=hg 0 _ rfl;have g1:=hg 1 _ rfl
    simp[aB0,b54]at g0 g1
    obtain⟨x0,e0,_,_⟩:=DataW.trod_int Tryz.underlying3 g0;obtain⟨ao,ll,cp,e1,hll,hfl,hpl,hml,hsz⟩:=aL0 g1
    simp at e0 e1
    subst e0 e1;have f0:=hcell 0 (by omega);have f1:=hcell 1 (by omega);rw[add_add]at f0 f1;have hspot:=hs (by omega);subst hspot;rw[zJ]at f0 f1;have hDi:D i=.agg [y0.1,y1.1]:=congrArg Prod.fst hxd;refine⟨((x0,ll),(ao,cp)),rfl,zK W _ f0,f0,f1,hfl,hpl,hml,hll,hsz fun z hz'=>hz z ?_⟩;simp only[DataW.weights,Tryz.underlying59];refine List.mem_cons_of_mem _ (List.mem_append_left _ (an6 (List.mem_map.2 ⟨i,List.mem_range.2 hi,rfl⟩) ?_));rw[hDi]
    simp[DataW.weights,DataW.weightsEach,Tryz.underlying138,hz']
  have:Inhabited ((Int × List Nat) × (Option Addr × Nat)):=⟨((0,[]),(none,0))⟩;obtain⟨q,hq⟩:=choose_lt each;have hcl:((List.range len).map fun i=>(q i).1).length=len:=by simp
  have hget:∀ i,i<len->((List.range len).map fun i=>(q i).1).getD i (0,[])=(q i).1:=fun i hi=>by simp[hi]
  refine⟨some ⟨b,off,spot⟩,(List.range len).map fun i=>(q i).1,cap,by rw[hcl];exact hcs,by rw[hcl];exact zQ hl hm,fun i hi=>?_,fun p hp=>?_,?_,fun p hp=>?_⟩
  ·rw[hcl]at hi
   rw[hget i hi];obtain⟨rfl,r1,r2,r3,r4,r5,r6,_⟩:=hq i hi;exact⟨b,off,(q i).2.1,(q i).2.2,rfl,r1,r2,r3,r4,r5,r6⟩
  ·obtain⟨j,hj,rfl⟩:=List.mem_map.1 hp
   exact(hq j (List.mem_range.1 hj)).2.2.2.2.2.2.2.1
  ·have:=hz ((len+(m - len))*32) (by simp[DataW.weights,Tryz.underlying59,bz0])
   rw[hcl];omega
  ·obtain⟨j,hj,rfl⟩:=List.mem_map.1 hp
   exact(hq j (List.mem_range.1 hj)).2.2.2.2.2.2.2.2
theorem aG0 {W:World} {fuel:Nat} {cs:List Value} {x:DataW H × List MemPlace} (hf:DataW.trod enc Tryz.prog W 0 (fun _=>true) true fuel 26 cs=some x) (hz:∀ z∈x.1.weights Tryz.prog 26,z<=reachBytes) :
  ∃ (ao:Option Addr) (l:List (List (Int × List Nat))) (cap:Nat),cs=[.slice ao l.length cap]/\l.length<=maxLen/\ThAt W ao l/\(∀ k∈l,∀ p∈k,∀ y∈p.2,y<18446744073709551616)/\l.length*24<=reachBytes/\(∀ k∈l,k.length*32<=reachBytes)/\∀ k∈l,∀ p∈k,p.2.length*8<=reachBytes:=by
 rcases open_slice1 Tryz.underlying26 bz6 hf with⟨hcs,_⟩ | ⟨a,len,cap,m,n,V,D,Pl,hcs,_,hl,hm,hmm,hd,hx⟩
 ·exact⟨none,[],0,hcs,zV _,fun i hi=>absurd hi (zI i),fun p hp=>(by cases hp),zV _,fun p hp=>(by cases hp),fun p hp=>(by cases hp)⟩
 ·simp only[if_true]at hmm
  have hd1:x.1=.slice ((List.range len).map D) ((List.range (m - len)).map fun j=>D (len+j)):=congrArg Prod.fst hd;rw[hd1]at hz;obtain⟨b,off,spot⟩:=a;have hs:0<len->spot=none:=by
   intro h0;obtain⟨h1,_⟩:=hx 0 (by omega)
   simpa[Addr.add]using World.cell?_spot h1
  have each:∀ i,i<len->∃ q:List (Int × List Nat) × (Option Addr × Nat),spot=none/\b<W.heap.size/\W.cell? ⟨b,off+i,none⟩=some (.slice q.2.1 q.1.length q.2.2)/\CaAt W q.2.1 q.1/\q.1.length<=maxLen/\(∀ p∈q.1,∀ y∈p.2,y<18446744073709551616)/\q.1.length*32<=reachBytes/\∀ p∈q.1,p.2.length*8<=reachBytes:=by
   intro i hi;obtain⟨h1,h2⟩:=hx i (by omega);obtain⟨ao,ll,cp,e1,hml,hca,hll,hb1,hb2⟩:=aQ8 h2 fun z hz'=>hz z (by
    simp only[DataW.weights,Tryz.underlying26];exact List.mem_cons_of_mem _ (List.mem_append_left _ (an6 (List.mem_map.2 ⟨i,List.mem_range.2 hi,rfl⟩) hz')))
   simp at e1
   rw[e1]at h1;have hs:=hs (by omega);subst hs;rw[zJ]at h1;exact⟨(ll,(ao,cp)),rfl,zK W _ h1,h1,hca,hml,hll,hb1,hb2⟩
  have:Inhabited (List (Int × List Nat) × (Option Addr × Nat)):=⟨([],(none,0))⟩;obtain⟨q,hq⟩:=choose_lt each;have hcl:((List.range len).map fun i=>(q i).1).length=len:=by simp
  have hget:∀ i,i<len->((List.range len).map fun i=>(q i).1).getD i []=(q i).1:=fun i hi=>by simp[hi]
  refine⟨some ⟨b,off,spot⟩,(List.range len).map fun i=>(q i).1,cap,by rw[hcl];exact hcs,by rw[hcl];exact zQ hl hm,fun i hi=>?_,fun p hp=>?_,?_,fun p hp=>?_,fun p hp=>?_⟩
  ·rw[hcl]at hi
   rw[hget i hi];obtain⟨rfl,r1,r2,r3,r4,_⟩:=hq i hi;exact⟨b,off,(q i).2.1,(q i).2.2,rfl,r1,r2,r3,r4⟩
  ·obtain⟨j,hj,rfl⟩:=List.mem_map.1 hp
   exact(hq j (List.mem_range.1 hj)).2.2.2.2.2.1
  ·have:=hz ((len+(m - len))*24) (by simp[DataW.weights,Tryz.underlying26,bz1])
   rw[hcl];omega
  ·obtain⟨j,hj,rfl⟩:=List.mem_map.1 hp
   exact(hq j (List.mem_range.1 hj)).2.2.2.2.2.2.1
  ·obtain⟨j,hj,rfl⟩:=List.mem_map.1 hp
   exact(hq j (List.mem_range.1 hj)).2.2.2.2.2.2.2
theorem open_setup {W:World} {base:Nat} {v:Value} {d:DataW H} {ps:List MemPlace} (hval:Value.okWide Tryz.prog W .any base 28 v) (h:DataW.Trod enc Tryz.prog W 0 (fun _=>true) true 28 v d ps)
  {ts:List TypeId} {ds:List (DataW H)} (hz:(DataW.weightsEach Tryz.prog ts ds).all (·<=reachBytes)=true) {j:Nat} (h1:ts[j]?=some 28) (h2:ds[j]?=some d) :
  ∃ s p,v=.agg (suC s p)/\SuAt W s p/\SuSz s:=by
 obtain⟨csv,rfl,hsz⟩:=okWide_struct Tryz.underlying28 hval;rw[bA0]at hsz;obtain⟨lv⟩:=csv
 match lv,hsz with
 | [c0,c1,c2,c3,c4,c5,c6],_ =>
  obtain⟨fuel,hf⟩:=h;obtain⟨xs,n,_,hxd,_,hlen,hg⟩:=DataW.trod_struct Tryz.underlying28 hf
  match xs,hlen with
  | [y0,y1,y2,y3],_ =>
   have g0:=hg 0 _ rfl;have g1:=hg 1 _ rfl;have g2:=hg 2 _ rfl;have g3:=hg 3 _ rfl
   simp[bz5,b54,bz8,bz9,Value.cells]at g0 g1 g2 g3
   obtain⟨zs,n0,_,_,_,zl,zg⟩:=DataW.trod_struct Tryz.underlying23 g0;have hd0:d=.agg [y0.1,y1.1,y2.1,y3.1]:=congrArg Prod.fst hxd;have wt:∀ z∈d.weights Tryz.prog 28,z<=reachBytes:=fun z hz'=>by simpa using List.all_eq_true.1 hz _ (DataW.weights_mem_each h1 h2 z hz')
   rw[hd0]at wt;simp only[DataW.weights,Tryz.underlying28]at wt
   match zs,zl with
   | [z0,z1,z2,z3],_ =>
    have k0:=zg 0 _ rfl;have k1:=zg 1 _ rfl;have k2:=zg 2 _ rfl;have k3:=zg 3 _ rfl
    simp[aB0]at k0 k1 k2 k3
    obtain⟨a,ea,_,_⟩:=DataW.trod_int Tryz.underlying3 k0;obtain⟨b,eb,_,_⟩:=DataW.trod_int Tryz.underlying3 k1;obtain⟨c,ec,_,_⟩:=DataW.trod_int Tryz.underlying3 k2;obtain⟨e,ee,_,_⟩:=DataW.trod_int Tryz.underlying3 k3;obtain⟨po,l,co,e1,r1,r2,_,r4,r5⟩:=aL0 g1;obtain⟨pp,lp,cp,e2,s1,s2,s3,s4,s5⟩:=aQ9 g2 fun z hz'=>wt z (by simp[DataW.weightsEach,hz'])
    obtain⟨pt,lt,ct,e3,t1,t2,t3,t4,t5,t6⟩:=aG0 g3 fun z hz'=>wt z (by simp[DataW.weightsEach,hz'])
    simp at ea eb ec ee e1 e2 e3
    have hr:reachBytes=140737488351232:=rfl;have r6:=r5 fun z hz'=>wt z (by simp[DataW.weightsEach,hz'])
    rw[hr]at r6 s4 s5 t4 t5 t6;refine⟨⟨a,b,c,e,l,lp,lt⟩,⟨po,co,pp,cp,pt,ct⟩,by rw[ea,eb,ec,ee,e1,e2,e3],⟨r2,s2,t2,r4,s1,t1,⟨r1,s3,t3⟩⟩,⟨by dsimp only;omega,by dsimp only;omega,fun p hp=>?_,by dsimp only;omega,fun k hk=>?_,fun k hk p hp=>?_⟩⟩
    ·have:=s5 p hp;omega
    ·have:=t5 k hk;omega
    ·have:=t6 k hk p hp;omega
theorem bb4 {W:World} {base:Nat} {v:Value} {d:DataW H} {ps:List MemPlace} (hval:Value.okWide Tryz.prog W .any base 36 v) (h:DataW.Trod enc Tryz.prog W 0 (fun _=>true) true 36 v d ps) :
  ∃ ao len cap x,v=.slice ao len cap/\len<=maxLen/\Sd.IntsAt W ao len x/\Pln ao len cap:=by
 obtain⟨a0,len,cap,rfl⟩:=okWide_slice Tryz.underlying36 hval;obtain⟨fuel,hf⟩:=h
 rcases open_slice1 Tryz.underlying36 aB0 hf with⟨hcs,_⟩ | ⟨a,len',cap',m,n,V,D,Pl,hcs,_,hl,hm,hmm,hd,hx⟩
 ·simp[Value.cells]at hcs
  obtain⟨rfl,rfl,rfl⟩:=hcs;exact⟨none,0,0,fun _=>0,rfl,zV _,fun i hi=>absurd hi (zI i),.inl ⟨rfl,rfl,rfl⟩⟩
 ·simp[Value.cells]at hcs
  obtain⟨rfl,rfl,rfl⟩:=hcs;simp only[if_true]at hmm;obtain⟨b,off,spot⟩:=a;have hs:0<len->spot=none:=by
   intro h0;obtain⟨h1,_⟩:=hx 0 (by omega)
   simpa[Addr.add]using World.cell?_spot h1
  have each:∀ i,i<len->∃ q:Int,spot=none/\b<W.heap.size/\W.cell? ⟨b,off+i,none⟩=some (.int .i64 q):=by
   intro i hi;obtain⟨h1,h2⟩:=hx i (by omega);obtain⟨q,e,_,_⟩:=DataW.trod_int Tryz.underlying3 h2
   simp at e
   rw[e]at h1;have hs:=hs (by omega);subst hs;rw[zJ]at h1;exact⟨q,rfl,zK W _ h1,h1⟩
  obtain⟨q,hq⟩:=choose_lt each;refine⟨some ⟨b,off,spot⟩,len,cap,q,rfl,by omega,fun i hi=>?_,.inr ⟨b,off,spot,rfl⟩⟩;obtain⟨rfl,r⟩:=hq i hi;exact⟨b,off,rfl,r⟩
end
theorem open_intsc {H:Type} {enc:TypeId × Value->H} {W:World} {base:Nat} {v:Value} {d:DataW H} {ps:List MemPlace} (hval:Value.okWide Tryz.prog W .any base 36 v) (h:DataW.Trod enc Tryz.prog W 0 (fun _=>true) true 36 v d ps) :
  ∃ ao len cap x,v=.slice ao len cap/\(len<=cap/\cap<=maxLen)/\Sd.IntsAt W ao len x/\Pln ao len cap:=by
 obtain⟨ao,len,cap,x,rfl,_,h2,h3⟩:=bb4 hval h;refine⟨ao,len,cap,x,rfl,?_,h2,h3⟩;obtain⟨fuel,hf⟩:=h
 rcases open_slice1 Tryz.underlying36 aB0 hf with⟨hcs,_⟩ | ⟨a,len',cap',m,n,V,D,Pl,hcs,_,hl,hm,_⟩
 ·simp[Value.cells]at hcs
  obtain⟨_,rfl,rfl⟩:=hcs;exact⟨zE _,zV _⟩
 ·simp[Value.cells]at hcs
  obtain⟨_,rfl,rfl⟩:=hcs;exact⟨hl,hm⟩
end Go.Proofs.YtlkldgopliablaaGreatDoor.En
