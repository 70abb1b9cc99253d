import Derived.Test.YteinilmecnlanaaGreatDoorJA4
import Derived.Deep.CutBlock
namespace Go.Proofs.YteinilmecnlanaaGreatDoor.Ww
open Go.ChangeShapes Go.WideShapes Go.ChangeAt Go.RowKit Num Rr
set_option linter.unusedVariables false
def findBk (n : Nat) : Code → Option Code
  | .seq x y => match findBk n x with
    | some c => some c
    | none => findBk n y
  | .block m c => if m = n then some (.block m c) else findBk n c
  | .scope c => findBk n c
  | .loop c => findBk n c
  | .cond _ x y => match findBk n x with
    | some c => some c
    | none => findBk n y
  | _ => none
theorem kept_then {L : List Nat} {u v w : World} (h : Kept L u v) (k : Below v.heap.size v w) (hl : Blw u L) : Kept L u w := ⟨Nat.le_trans h.1 k.size, fun i hi => (k.block i (Nat.lt_of_lt_of_le (hl i hi) h.1)).trans (h.2 i hi)⟩
theorem few_listsA {x : Wx} (h : InY x) : x.args.length ≤ 9223372036854775807 ∧ x.m.reads.length ≤ 9223372036854775807 ∧ x.m.buf.length ≤ 9223372036854775807 ∧ x.m.out.length ≤ 9223372036854775807 := by
  have h1 := h.few
  have h2 := h.rest.inv.reads
  have h3 := h.rest.inv.used
  have h4 := h.rest.inv.fuel
  have h5 := h.rest.inv.out
  have h6 := h.rest.inv.few
  have h7 := h.rest.inv.wmax
  have h8 : (x.m.reads.length : Int) ≤ 1024 := by split at h2 <;> omega
  omega
theorem numsL_ok {ws : List Int} (hok : okW ws) (x : Wx) : okS (numsL x ws) := fun v hv => by
  unfold numsL at hv
  obtain ⟨c, _, rfl⟩ := List.mem_map.1 hv
  exact now_ok hok x _
theorem numsL_fix (x : Wx) (ws : List Int) : (numsL x ws).map fixB = numsL x ws := by
  unfold numsL
  rw [List.map_map]
  refine List.map_congr_left fun c _ => ?_
  show fixB (nowN x ws (c : Int)) = nowN x ws (c : Int)
  unfold nowN
  exact fixB_fixB _
theorem BkI.ended {x0 y : Wx} {ws2 wp : List Int} {N i : Nat} (h : BkI x0 y ws2 wp N i) (h9 : y.part = 9) (hpl : plY x0 = (N : Int)) (hl : wp.length = N) (hok : okW wp) (hR : Rest x0.m) : y.m = endM (numsL x0 wp) x0.m ∧ aftS (numsL x0 wp) y.m = numsL x0 ws2 := by
  have hs := numsL_ok hok x0
  obtain ⟨j, hj⟩ := h.q.mac
  have hh := h.inx.fin (by omega)
  refine ⟨?_, ?_⟩
  · rw [hj] at hh ⊢
    exact ended_is hs hR hh
  · have hn : ∀ c : Nat, (c : Int) < y.a → nowN y ws2 (c : Int) = (aftS (numsL x0 wp) y.m).getD c 0 := fun c hc => h.q.nows h.inx h9 (by rw [plY_alike h.al, hpl, hl]) (fun c h0 h1 => by
      rw [numsL_at x0 wp h0 (by rw [← h.al.a]; exact h1)]
      unfold nowN atC
      rw [h.al.b]) (by rw [numsL_len, h.al.a]; have := h.inx.ca; rw [h.al.a] at this; omega) hc
    refine List.ext_getElem (by rw [aftS_len, numsL_len, numsL_len]) fun k k1 k2 => ?_
    have k3 : (k : Int) < y.a := by rw [numsL_len] at k2; rw [h.al.a]; omega
    have := hn k k3
    rw [List.getD_eq_getElem?_getD, List.getElem?_eq_getElem k1] at this
    have e2 : (numsL x0 ws2)[k] = nowN x0 ws2 (k : Int) := by simp [numsL]
    rw [show (aftS (numsL x0 wp) y.m)[k] = nowN y ws2 (k : Int) from this.symm, e2]
    unfold nowN atC
    rw [h.al.b]
section
attribute [local go_sem] bits_run
set_option maxRecDepth 100000 in
set_option maxHeartbeats 4000000 in
theorem apoke (w : World) {W1 : World} {rb bx : Nat} {z : Wz} {mb mg bd : Nat} {zd : Dz} {bw gw : Nat} {x0 : Wx} {wsv : List Int} {N nb : Nat} (hn : nb ≤ 8) (hN : 3 + nb ≤ N) (HRC : Hid (∀ u, Below W1.heap.size W1 u → u.cell? ⟨rb, 1, none⟩ = some (.int .i64 (nb : Int)) ∧ rb < u.heap.size)) (HS : Hid (∃ wp, PkI wsv wp N 0 ∧ Both W1 w bx z mb mg x0 wp false 0 bd zd bw gw x0 wsv 0)) (D : Code) (hD : D = (Tryz.f8.body.bind (findBk 0)).getD .skip) (c0 c2 c3 c4 c7 c9 c10 c11 c12 c13 c14 c15 c16 c17 c18 c19 c20 c21 c22 c23 c24 c25 c26 c27 c28 c29 c30 c31 c32 c33 c34 c35 c36 c37 c38 c39 c40 c41 c42 c43 c44 c45 c46 c47 c48 c49 c50 c51 c52 c53 c54 c55 c56 c57 c58 c59 c60 c61 c62 c63 c64 c65 c66 c67 c68 c69 c70 c71 c72 c73 c74 c75 c76 c77 c78 c79 c80 c81 c82 c83 c84 c85 c86 c87 c88 c89 c90 c91 c92 c93 c94 c95 c96 c97 c98 c99 c100 c101 c102 c103 c104 c105 c106 c107 c108 c109 c110 c111 c112 c113 c114 c115 c116 c117 c118 c119 c120 c121 c122 c123 c124 c125 c126 c127 c128 c129 c130 c131 c132 c133 c134 c135 c136 c137 c138 c139 c140 c141 c142 c143 c144 c145 c146 c147 c148 c149 c150 c151 c152 c153 c154 c155 c156 c157 c158 c159 c160 c161 c162 c163 c164 c165 c166 c167 c168 c169 c170 c171 c172 c173 c174 c175 c176 c177 c178 c179 c180 c181 c182 c183 c184 c185 c186 c187 c188 c189 c190 c191 c192 c193 c194 : Value) (Q : Exit → Act → World → Prop) (hQ : ∀ v t1 t2 d u, Q (.panic v) ⟨t1, d⟩ u → Q (.panic v) ⟨t2, d⟩ u) (hK : ∀ (u59 u60 u61 u62 u63 u64 u65 u66 u67 u68 u69 u70 u71 u72 u73 u74 : Value) (wp : List Int) (wz : World), PkI wsv wp N nb → Both W1 wz bx z mb mg x0 wp false 0 bd zd bw gw x0 wsv 0 → Q .normal ⟨#[c0, .pointer (some ⟨rb, 0, none⟩), c2, c3, c4, .pointer (some ⟨bd, 0, none⟩), .pointer (some ⟨mb, 0, none⟩), c7, .int .i64 (nb : Int), c9, c10, c11, c12, c13, c14, c15, c16, c17, c18, c19, c20, c21, c22, c23, c24, c25, c26, c27, c28, c29, c30, c31, c32, c33, c34, c35, c36, c37, c38, c39, c40, c41, c42, c43, c44, c45, c46, c47, c48, c49, c50, c51, c52, c53, c54, c55, c56, c57, c58, u59, u60, u61, u62, u63, u64, u65, u66, u67, u68, u69, u70, u71, u72, u73, u74, c75, c76, c77, c78, c79, c80, c81, c82, c83, c84, c85, c86, c87, c88, c89, c90, c91, c92, c93, c94, c95, c96, c97, c98, c99, c100, c101, c102, c103, c104, c105, c106, c107, c108, c109, c110, c111, c112, c113, c114, c115, c116, c117, c118, c119, c120, c121, c122, c123, c124, c125, c126, c127, c128, c129, c130, c131, c132, c133, c134, c135, c136, c137, c138, c139, c140, c141, c142, c143, c144, c145, c146, c147, c148, c149, c150, c151, c152, c153, c154, c155, c156, c157, c158, c159, c160, c161, c162, c163, c164, c165, c166, c167, c168, c169, c170, c171, c172, c173, c174, c175, c176, c177, c178, c179, c180, c181, c182, c183, c184, c185, c186, c187, c188, c189, c190, c191, c192, c193, c194], []⟩ wz) : D.wp Tryz.prog Q ⟨#[c0, .pointer (some ⟨rb, 0, none⟩), c2, c3, c4, .pointer (some ⟨bd, 0, none⟩), .pointer (some ⟨mb, 0, none⟩), c7, .int .i64 0, c9, c10, c11, c12, c13, c14, c15, c16, c17, c18, c19, c20, c21, c22, c23, c24, c25, c26, c27, c28, c29, c30, c31, c32, c33, c34, c35, c36, c37, c38, c39, c40, c41, c42, c43, c44, c45, c46, c47, c48, c49, c50, c51, c52, c53, c54, c55, c56, c57, c58, c59, c60, c61, c62, c63, c64, c65, c66, c67, c68, c69, c70, c71, c72, c73, c74, c75, c76, c77, c78, c79, c80, c81, c82, c83, c84, c85, c86, c87, c88, c89, c90, c91, c92, c93, c94, c95, c96, c97, c98, c99, c100, c101, c102, c103, c104, c105, c106, c107, c108, c109, c110, c111, c112, c113, c114, c115, c116, c117, c118, c119, c120, c121, c122, c123, c124, c125, c126, c127, c128, c129, c130, c131, c132, c133, c134, c135, c136, c137, c138, c139, c140, c141, c142, c143, c144, c145, c146, c147, c148, c149, c150, c151, c152, c153, c154, c155, c156, c157, c158, c159, c160, c161, c162, c163, c164, c165, c166, c167, c168, c169, c170, c171, c172, c173, c174, c175, c176, c177, c178, c179, c180, c181, c182, c183, c184, c185, c186, c187, c188, c189, c190, c191, c192, c193, c194], []⟩ w := by
  have HK : Hid (∀ (u59 u60 u61 u62 u63 u64 u65 u66 u67 u68 u69 u70 u71 u72 u73 u74 : Value) (wp : List Int) (wz : World), PkI wsv wp N nb → Both W1 wz bx z mb mg x0 wp false 0 bd zd bw gw x0 wsv 0 → Q .normal ⟨#[c0, .pointer (some ⟨rb, 0, none⟩), c2, c3, c4, .pointer (some ⟨bd, 0, none⟩), .pointer (some ⟨mb, 0, none⟩), c7, .int .i64 (nb : Int), c9, c10, c11, c12, c13, c14, c15, c16, c17, c18, c19, c20, c21, c22, c23, c24, c25, c26, c27, c28, c29, c30, c31, c32, c33, c34, c35, c36, c37, c38, c39, c40, c41, c42, c43, c44, c45, c46, c47, c48, c49, c50, c51, c52, c53, c54, c55, c56, c57, c58, u59, u60, u61, u62, u63, u64, u65, u66, u67, u68, u69, u70, u71, u72, u73, u74, c75, c76, c77, c78, c79, c80, c81, c82, c83, c84, c85, c86, c87, c88, c89, c90, c91, c92, c93, c94, c95, c96, c97, c98, c99, c100, c101, c102, c103, c104, c105, c106, c107, c108, c109, c110, c111, c112, c113, c114, c115, c116, c117, c118, c119, c120, c121, c122, c123, c124, c125, c126, c127, c128, c129, c130, c131, c132, c133, c134, c135, c136, c137, c138, c139, c140, c141, c142, c143, c144, c145, c146, c147, c148, c149, c150, c151, c152, c153, c154, c155, c156, c157, c158, c159, c160, c161, c162, c163, c164, c165, c166, c167, c168, c169, c170, c171, c172, c173, c174, c175, c176, c177, c178, c179, c180, c181, c182, c183, c184, c185, c186, c187, c188, c189, c190, c191, c192, c193, c194], []⟩ wz) := hK
  clear hK
  rw [hD]
  clear hD
  conv => arg 2; whnf
  have HPO : Hid (∀ u wp (tt : Nat), 3 + tt < wp.length → Both W1 u bx z mb mg x0 wp false 0 bd zd bw gw x0 wsv 0 → Calls Tryz.prog 26 #[.pointer (some ⟨mb, 0, none⟩), .int .i64 (3 + (tt : Int)), .int .u64 0] u fun r w' => r = .returned (.int .i64 0) ∧ Both W1 w' bx z mb mg x0 (wp.set (3 + tt) 0) false 0 bd zd bw gw x0 wsv 0) := fun u wp tt hl q => q.poke (i := 3 + tt) hl 0
  go_wp2_with fail
  go_loopw [8] (fun vt wr => ∃ tt : Nat, vt = .int .i64 tt ∧ tt ≤ nb ∧ Hid (∃ wp, PkI wsv wp N tt ∧ Both W1 wr bx z mb mg x0 wp false 0 bd zd bw gw x0 wsv 0)) (fun vt _ => nb - (intOf vt).toNat)
  case atStart => exact ⟨0, rfl, by omega, HS.out⟩
  case round =>
    obtain ⟨tt, rfl, htb, HR0⟩ := hrel
    obtain ⟨wp, hPk, hB0⟩ := HR0.out
    have HPK := Lib.hid hPk
    have HB0 := Lib.hid hB0
    obtain ⟨y1, yb⟩ := HRC.out _ hB0.below
    obtain ⟨z0, z1, z2, z3, z4, z5, zb⟩ := hB0.plan
    clear HS HR0 hPk hB0 z0 z1 z2 z4 z5
    by_cases htt : tt < nb
    · have htti : (tt : Int) < (nb : Int) := by omega
      go_wp2_with (go_at_call 26; refine (HPO.out _ _ _ (by rw [HPK.out.len]; omega) HB0.out).mono ?_; rintro r u5 ⟨rfl, q⟩; have H5 := Lib.hid q; clear q)
      first
      | exact ⟨⟨tt + 1, rfl, by omega, _, HPK.out.poke (by omega), H5.out⟩, by simp [intOf]; omega⟩
      | exact ⟨⟨_, _, _, _, _, _, _, _, _, _, _, _, _, _, _, _, _, ⟨tt + 1, rfl, by omega, _, HPK.out.poke (by omega), H5.out⟩, rfl⟩, by show nb - (intOf (.int .i64 ((tt : Int) + 1))).toNat < nb - (intOf (.int .i64 (tt : Int))).toNat; simp [intOf]; omega⟩
    · obtain rfl : tt = nb := by omega
      have htti : ¬ (tt : Int) < (tt : Int) := by omega
      go_wp2_with fail
      exact HK.out _ _ _ _ _ _ _ _ _ _ _ _ _ _ _ _ _ _ HPK.out HB0.out
set_option maxRecDepth 100000 in
set_option maxHeartbeats 4000000 in
theorem acmp (w : World) {pt pn : Option Addr} {ct cn an : Nat} {l : List Nat} (han : an ≤ 256) (HL : Hid (l.length = an)) (H1 : Hid (FlAt w pt l)) (H2 : Hid (FlAt w pn l)) (D : Code) (hD : D = (Tryz.f8.body.bind (findBk 4)).getD .skip) (c0 c1 c2 c3 c4 c5 c6 c7 c8 c9 c10 c11 c12 c13 c14 c15 c16 c17 c19 c20 c21 c22 c23 c24 c25 c26 c27 c28 c29 c30 c31 c32 c33 c34 c35 c36 c37 c38 c39 c40 c41 c42 c43 c44 c45 c46 c47 c48 c49 c50 c51 c52 c53 c54 c55 c56 c57 c58 c59 c60 c61 c62 c63 c64 c65 c66 c67 c68 c69 c70 c71 c72 c73 c74 c75 c76 c77 c78 c79 c80 c81 c82 c83 c84 c85 c86 c87 c88 c89 c90 c91 c92 c93 c94 c95 c96 c97 c98 c99 c100 c101 c102 c103 c104 c105 c106 c107 c108 c109 c110 c111 c112 c113 c114 c115 c116 c117 c118 c119 c120 c121 c122 c123 c124 c125 c126 c127 c128 c129 c130 c131 c132 c133 c134 c135 c136 c137 c138 c139 c140 c141 c142 c143 c144 c145 c146 c147 c148 c149 c150 c151 c152 c153 c154 c155 c156 c157 c158 c159 c160 c161 c162 c163 c164 c168 c169 c170 c171 c172 c173 c174 c175 c176 c177 c178 c179 c180 c181 c182 c183 c184 c185 c186 c187 c188 c189 c190 c191 c192 c193 c194 : Value) (Q : Exit → Act → World → Prop) (hQ : ∀ v t1 t2 d u, Q (.panic v) ⟨t1, d⟩ u → Q (.panic v) ⟨t2, d⟩ u) (hK : ∀ (u2 u19 u20 u168 u169 u170 u171 u172 u173 u174 u175 u176 u177 u178 u179 u180 u181 u182 u183 u184 u185 u186 : Value) (wz : World), wz = w → Q .normal ⟨#[c0, c1, u2, c3, c4, c5, c6, c7, c8, c9, c10, c11, c12, c13, c14, c15, c16, c17, .slice pt an ct, u19, u20, c21, c22, c23, c24, c25, c26, c27, c28, c29, c30, c31, c32, c33, c34, c35, c36, c37, c38, c39, c40, c41, c42, c43, c44, c45, c46, c47, c48, c49, c50, c51, c52, c53, c54, c55, c56, c57, c58, c59, c60, c61, c62, c63, c64, c65, c66, c67, c68, c69, c70, c71, c72, c73, c74, c75, c76, c77, c78, c79, c80, c81, c82, c83, c84, c85, c86, c87, c88, c89, c90, c91, c92, c93, c94, c95, c96, c97, c98, c99, c100, c101, c102, c103, c104, c105, c106, c107, c108, c109, c110, c111, c112, c113, c114, c115, c116, c117, c118, c119, c120, c121, c122, c123, c124, c125, c126, c127, c128, c129, c130, c131, c132, c133, c134, c135, c136, c137, c138, c139, c140, c141, c142, c143, c144, c145, c146, c147, c148, c149, c150, c151, c152, c153, c154, c155, c156, c157, c158, c159, c160, c161, c162, c163, c164, .slice pn an cn, .int .i64 (an : Int), .int .i64 (an : Int), u168, u169, u170, u171, u172, u173, u174, u175, u176, u177, u178, u179, u180, u181, u182, u183, u184, u185, u186, c187, c188, c189, c190, c191, c192, c193, c194], []⟩ wz) : D.wp Tryz.prog Q ⟨#[c0, c1, c2, c3, c4, c5, c6, c7, c8, c9, c10, c11, c12, c13, c14, c15, c16, c17, .slice pt an ct, c19, c20, c21, c22, c23, c24, c25, c26, c27, c28, c29, c30, c31, c32, c33, c34, c35, c36, c37, c38, c39, c40, c41, c42, c43, c44, c45, c46, c47, c48, c49, c50, c51, c52, c53, c54, c55, c56, c57, c58, c59, c60, c61, c62, c63, c64, c65, c66, c67, c68, c69, c70, c71, c72, c73, c74, c75, c76, c77, c78, c79, c80, c81, c82, c83, c84, c85, c86, c87, c88, c89, c90, c91, c92, c93, c94, c95, c96, c97, c98, c99, c100, c101, c102, c103, c104, c105, c106, c107, c108, c109, c110, c111, c112, c113, c114, c115, c116, c117, c118, c119, c120, c121, c122, c123, c124, c125, c126, c127, c128, c129, c130, c131, c132, c133, c134, c135, c136, c137, c138, c139, c140, c141, c142, c143, c144, c145, c146, c147, c148, c149, c150, c151, c152, c153, c154, c155, c156, c157, c158, c159, c160, c161, c162, c163, c164, .slice pn an cn, .int .i64 (an : Int), .int .i64 0, c168, c169, c170, c171, c172, c173, c174, c175, c176, c177, c178, c179, c180, c181, c182, c183, c184, c185, c186, c187, c188, c189, c190, c191, c192, c193, c194], []⟩ w := by
  have HK : Hid (∀ (u2 u19 u20 u168 u169 u170 u171 u172 u173 u174 u175 u176 u177 u178 u179 u180 u181 u182 u183 u184 u185 u186 : Value) (wz : World), wz = w → Q .normal ⟨#[c0, c1, u2, c3, c4, c5, c6, c7, c8, c9, c10, c11, c12, c13, c14, c15, c16, c17, .slice pt an ct, u19, u20, c21, c22, c23, c24, c25, c26, c27, c28, c29, c30, c31, c32, c33, c34, c35, c36, c37, c38, c39, c40, c41, c42, c43, c44, c45, c46, c47, c48, c49, c50, c51, c52, c53, c54, c55, c56, c57, c58, c59, c60, c61, c62, c63, c64, c65, c66, c67, c68, c69, c70, c71, c72, c73, c74, c75, c76, c77, c78, c79, c80, c81, c82, c83, c84, c85, c86, c87, c88, c89, c90, c91, c92, c93, c94, c95, c96, c97, c98, c99, c100, c101, c102, c103, c104, c105, c106, c107, c108, c109, c110, c111, c112, c113, c114, c115, c116, c117, c118, c119, c120, c121, c122, c123, c124, c125, c126, c127, c128, c129, c130, c131, c132, c133, c134, c135, c136, c137, c138, c139, c140, c141, c142, c143, c144, c145, c146, c147, c148, c149, c150, c151, c152, c153, c154, c155, c156, c157, c158, c159, c160, c161, c162, c163, c164, .slice pn an cn, .int .i64 (an : Int), .int .i64 (an : Int), u168, u169, u170, u171, u172, u173, u174, u175, u176, u177, u178, u179, u180, u181, u182, u183, u184, u185, u186, c187, c188, c189, c190, c191, c192, c193, c194], []⟩ wz) := hK
  clear hK
  rw [hD]
  clear hD
  conv => arg 2; whnf
  go_wp2_with fail
  go_loopw [167] (fun vk wi => ∃ k : Nat, vk = .int .i64 k ∧ k ≤ an ∧ wi = w) (fun vk _ => an - (intOf vk).toNat)
  case atStart => exact ⟨0, rfl, by omega, by first | rfl | trivial⟩
  case round =>
    obtain ⟨k, rfl, hk, hwr⟩ := hrel
    subst wr
    by_cases htt : k < an
    · have htti : (k : Int) < (an : Int) := by omega
      have htn : ¬ (an : Int) ≤ (k : Int) := by omega
      obtain ⟨ga, oa, hpa, la, ca⟩ := H1.out k (by rw [HL.out]; exact htt)
      obtain ⟨gb, ob, hpb, lb, cb⟩ := H2.out k (by rw [HL.out]; exact htt)
      subst hpa hpb
      generalize l.getD k 0 = f at ca cb
      go_wp2_with fail
      exact ⟨⟨k + 1, rfl, by omega, by first | rfl | trivial⟩, by simp [intOf]; omega⟩
    · obtain rfl : k = an := by omega
      have htti : ¬ (k : Int) < (k : Int) := by omega
      go_wp2_with fail
      exact HK.out _ _ _ _ _ _ _ _ _ _ _ _ _ _ _ _ _ _ _ _ _ _ _ rfl
set_option maxRecDepth 100000 in
set_option maxHeartbeats 4000000 in
theorem anot (w : World) {bx mb : Nat} {P : World → Prop} (HST : Hid (Calls Tryz.prog 14 #[.pointer (some ⟨bx, 0, none⟩), .pointer (some ⟨mb, 0, none⟩)] w fun r w' => r = .returned (.tuple #[.bool false, .int .i64 0]) ∧ P w')) (D : Code) (hD : D = (Tryz.f8.body.bind (findBk 3)).getD .skip) (c0 c1 c2 c3 c5 c7 c8 c9 c10 c11 c12 c13 c14 c15 c16 c17 c18 c19 c20 c21 c22 c23 c24 c25 c26 c27 c28 c29 c30 c31 c32 c33 c34 c35 c36 c37 c38 c39 c40 c41 c42 c43 c44 c45 c46 c47 c48 c49 c50 c51 c52 c53 c54 c55 c56 c57 c58 c59 c60 c61 c62 c63 c64 c65 c66 c67 c68 c69 c70 c71 c72 c73 c74 c75 c76 c77 c78 c79 c80 c81 c82 c83 c84 c85 c86 c87 c88 c89 c90 c91 c92 c93 c94 c95 c96 c97 c98 c99 c100 c101 c102 c103 c104 c105 c106 c107 c108 c109 c110 c111 c112 c113 c114 c115 c116 c117 c118 c119 c120 c121 c122 c123 c124 c125 c126 c127 c128 c129 c130 c131 c132 c133 c134 c135 c136 c137 c138 c139 c140 c141 c142 c143 c144 c145 c146 c147 c148 c149 c150 c151 c152 c153 c154 c155 c156 c157 c158 c159 c160 c161 c162 c163 c164 c165 c166 c167 c168 c169 c170 c171 c172 c173 c174 c175 c176 c177 c178 c179 c180 c181 c182 c183 c184 c185 c186 c187 c188 c189 c190 c191 c192 c193 c194 : Value) (Q : Exit → Act → World → Prop) (hQ : ∀ v t1 t2 d u, Q (.panic v) ⟨t1, d⟩ u → Q (.panic v) ⟨t2, d⟩ u) (hK : ∀ (u122 u123 u124 u125 u126 u127 u128 u129 u130 u131 : Value) (wz : World), P wz → Q .normal ⟨#[c0, c1, c2, c3, .pointer (some ⟨bx, 0, none⟩), c5, .pointer (some ⟨mb, 0, none⟩), c7, c8, c9, c10, c11, c12, c13, .bool false, .int .i64 0, c16, c17, c18, c19, c20, c21, c22, c23, c24, c25, c26, c27, c28, c29, c30, c31, c32, c33, c34, c35, c36, c37, c38, c39, c40, c41, c42, c43, c44, c45, c46, c47, c48, c49, c50, c51, c52, c53, c54, c55, c56, c57, c58, c59, c60, c61, c62, c63, c64, c65, c66, c67, c68, c69, c70, c71, c72, c73, c74, c75, c76, c77, c78, c79, c80, c81, c82, c83, c84, c85, c86, c87, c88, c89, c90, c91, c92, c93, c94, c95, c96, c97, c98, c99, c100, c101, c102, c103, c104, c105, c106, c107, c108, c109, c110, c111, c112, c113, c114, c115, c116, c117, c118, c119, c120, c121, u122, u123, u124, u125, u126, u127, u128, u129, u130, u131, c132, c133, c134, c135, c136, c137, c138, c139, c140, c141, c142, c143, c144, c145, c146, c147, c148, c149, c150, c151, c152, c153, c154, c155, c156, c157, c158, c159, c160, c161, c162, c163, c164, c165, c166, c167, c168, c169, c170, c171, c172, c173, c174, c175, c176, c177, c178, c179, c180, c181, c182, c183, c184, c185, c186, c187, c188, c189, c190, c191, c192, c193, c194], []⟩ wz) : D.wp Tryz.prog Q ⟨#[c0, c1, c2, c3, .pointer (some ⟨bx, 0, none⟩), c5, .pointer (some ⟨mb, 0, none⟩), c7, c8, c9, c10, c11, c12, c13, c14, c15, c16, c17, c18, c19, c20, c21, c22, c23, c24, c25, c26, c27, c28, c29, c30, c31, c32, c33, c34, c35, c36, c37, c38, c39, c40, c41, c42, c43, c44, c45, c46, c47, c48, c49, c50, c51, c52, c53, c54, c55, c56, c57, c58, c59, c60, c61, c62, c63, c64, c65, c66, c67, c68, c69, c70, c71, c72, c73, c74, c75, c76, c77, c78, c79, c80, c81, c82, c83, c84, c85, c86, c87, c88, c89, c90, c91, c92, c93, c94, c95, c96, c97, c98, c99, c100, c101, c102, c103, c104, c105, c106, c107, c108, c109, c110, c111, c112, c113, c114, c115, c116, c117, c118, c119, c120, c121, c122, c123, c124, c125, c126, c127, c128, c129, c130, c131, c132, c133, c134, c135, c136, c137, c138, c139, c140, c141, c142, c143, c144, c145, c146, c147, c148, c149, c150, c151, c152, c153, c154, c155, c156, c157, c158, c159, c160, c161, c162, c163, c164, c165, c166, c167, c168, c169, c170, c171, c172, c173, c174, c175, c176, c177, c178, c179, c180, c181, c182, c183, c184, c185, c186, c187, c188, c189, c190, c191, c192, c193, c194], []⟩ w := by
  have HK : Hid (∀ (u122 u123 u124 u125 u126 u127 u128 u129 u130 u131 : Value) (wz : World), P wz → Q .normal ⟨#[c0, c1, c2, c3, .pointer (some ⟨bx, 0, none⟩), c5, .pointer (some ⟨mb, 0, none⟩), c7, c8, c9, c10, c11, c12, c13, .bool false, .int .i64 0, c16, c17, c18, c19, c20, c21, c22, c23, c24, c25, c26, c27, c28, c29, c30, c31, c32, c33, c34, c35, c36, c37, c38, c39, c40, c41, c42, c43, c44, c45, c46, c47, c48, c49, c50, c51, c52, c53, c54, c55, c56, c57, c58, c59, c60, c61, c62, c63, c64, c65, c66, c67, c68, c69, c70, c71, c72, c73, c74, c75, c76, c77, c78, c79, c80, c81, c82, c83, c84, c85, c86, c87, c88, c89, c90, c91, c92, c93, c94, c95, c96, c97, c98, c99, c100, c101, c102, c103, c104, c105, c106, c107, c108, c109, c110, c111, c112, c113, c114, c115, c116, c117, c118, c119, c120, c121, u122, u123, u124, u125, u126, u127, u128, u129, u130, u131, c132, c133, c134, c135, c136, c137, c138, c139, c140, c141, c142, c143, c144, c145, c146, c147, c148, c149, c150, c151, c152, c153, c154, c155, c156, c157, c158, c159, c160, c161, c162, c163, c164, c165, c166, c167, c168, c169, c170, c171, c172, c173, c174, c175, c176, c177, c178, c179, c180, c181, c182, c183, c184, c185, c186, c187, c188, c189, c190, c191, c192, c193, c194], []⟩ wz) := hK
  clear hK
  rw [hD]
  clear hD
  conv => arg 2; whnf
  go_wp2_with (go_at_call 14; refine HST.out.mono ?_; rintro r u7 ⟨rfl, q⟩; have H7 := Lib.hid q; clear q HST)
  exact HK.out _ _ _ _ _ _ _ _ _ _ _ H7.out
set_option maxRecDepth 100000 in
set_option maxHeartbeats 4000000 in
theorem aover (w : World) {W1 : World} {rb bx : Nat} {z : Wz} {mb mg bd : Nat} {zd : Dz} {bw gw : Nat} {x0 : Wx} {wsv wp : List Int} {N nb an bs rp : Nat} {F Lb : List Nat} {w6 : World} {R : Rs} {mE : Mac} {y : Wx} {ws2 : List Int} {o2 : Bool} {n2 : Int} (HST : Hid (Calls Tryz.prog 14 #[.pointer (some ⟨bx, 0, none⟩), .pointer (some ⟨mb, 0, none⟩)] w fun r w' => r = .returned (.tuple #[.bool true, .int .i64 0]) ∧ BothR W1 w' bx z mb mg y ws2 o2 n2 bd zd bw gw x0 wsv 0 Lb ∧ Kept Lb w6 w')) (HY : Hid (InY y ∧ y.part = 9 ∧ y.m = mE)) (HRC : Hid (∀ u, Below W1.heap.size W1 u → u.cell? ⟨rb, 0, none⟩ = some (.int .i64 (an : Int)) ∧ rb < u.heap.size)) (HKL : Hid (∀ u, Kept Lb w6 u → u.heap[rp]? = some (.cells (resC R mE) 83 (0, 0)) ∧ FlAt u R.po mE.out ∧ TlAt u R.pr mE.reads ∧ TlAt u R.pw mE.buf ∧ Sx.Cel 121 u bs F (aftS (numsL x0 wp) mE))) (HLB : Hid (Blw w6 Lb)) (hN0 : 3 + x0.b + 3 * x0.a = (N : Int)) (hb8 : 1 ≤ x0.b ∧ x0.b ≤ 8) (hxa : x0.a = (an : Int)) (han : an ≤ 256) (l2 : ws2.length = N) (hok2 : okW ws2) (HNE : Hid (aftS (numsL x0 wp) mE = numsL x0 ws2)) (D : Code) (hD : D = (Tryz.f8.body.bind (findBk 3)).getD .skip) (c0 c2 c7 c8 c10 c13 c14 c15 c16 c17 c18 c19 c20 c21 c22 c23 c24 c25 c26 c27 c28 c29 c30 c31 c32 c33 c34 c35 c36 c37 c38 c39 c40 c41 c42 c43 c44 c45 c46 c47 c48 c49 c50 c51 c52 c53 c54 c55 c56 c57 c58 c59 c60 c61 c62 c63 c64 c65 c66 c67 c68 c69 c70 c71 c72 c73 c74 c75 c76 c77 c78 c79 c80 c81 c82 c83 c84 c85 c86 c87 c88 c89 c90 c91 c92 c93 c94 c95 c96 c97 c98 c99 c100 c101 c102 c103 c104 c105 c106 c107 c108 c109 c110 c111 c112 c113 c114 c115 c116 c117 c118 c119 c120 c121 c122 c123 c124 c125 c126 c127 c128 c129 c130 c131 c132 c133 c134 c135 c136 c137 c138 c139 c140 c141 c142 c143 c144 c145 c146 c147 c148 c149 c150 c151 c152 c153 c154 c155 c156 c157 c158 c159 c160 c161 c162 c163 c164 c165 c166 c167 c168 c169 c170 c171 c172 c173 c174 c175 c176 c177 c178 c179 c180 c181 c182 c183 c184 c185 c186 c187 c188 c189 c190 c191 c192 c193 c194 : Value) (Q : Exit → Act → World → Prop) (hQ : ∀ v t1 t2 d u, Q (.panic v) ⟨t1, d⟩ u → Q (.panic v) ⟨t2, d⟩ u) (hR : ∀ (a : Act) (wz : World), a.tmps.getD 2 undef = .bool true → a.defers = [] → Below W1.heap.size W1 wz → Q .ret a wz) : D.wp Tryz.prog Q ⟨#[c0, .pointer (some ⟨rb, 0, none⟩), c2, .bool true, .pointer (some ⟨bx, 0, none⟩), .pointer (some ⟨bd, 0, none⟩), .pointer (some ⟨mb, 0, none⟩), c7, c8, .pointer (some ⟨bs, 0, none⟩), c10, .pointer (some ⟨rp, 0, none⟩), .int .i64 0, c13, c14, c15, c16, c17, c18, c19, c20, c21, c22, c23, c24, c25, c26, c27, c28, c29, c30, c31, c32, c33, c34, c35, c36, c37, c38, c39, c40, c41, c42, c43, c44, c45, c46, c47, c48, c49, c50, c51, c52, c53, c54, c55, c56, c57, c58, c59, c60, c61, c62, c63, c64, c65, c66, c67, c68, c69, c70, c71, c72, c73, c74, c75, c76, c77, c78, c79, c80, c81, c82, c83, c84, c85, c86, c87, c88, c89, c90, c91, c92, c93, c94, c95, c96, c97, c98, c99, c100, c101, c102, c103, c104, c105, c106, c107, c108, c109, c110, c111, c112, c113, c114, c115, c116, c117, c118, c119, c120, c121, c122, c123, c124, c125, c126, c127, c128, c129, c130, c131, c132, c133, c134, c135, c136, c137, c138, c139, c140, c141, c142, c143, c144, c145, c146, c147, c148, c149, c150, c151, c152, c153, c154, c155, c156, c157, c158, c159, c160, c161, c162, c163, c164, c165, c166, c167, c168, c169, c170, c171, c172, c173, c174, c175, c176, c177, c178, c179, c180, c181, c182, c183, c184, c185, c186, c187, c188, c189, c190, c191, c192, c193, c194], []⟩ w := by
  have HR : Hid (∀ (a : Act) (wz : World), a.tmps.getD 2 undef = .bool true → a.defers = [] → Below W1.heap.size W1 wz → Q .ret a wz) := hR
  clear hR
  rw [hD]
  clear hD
  conv => arg 2; whnf
  obtain ⟨tg, htg⟩ : ∃ tg, y.tag = tg := ⟨_, rfl⟩
  obtain ⟨st, hst⟩ : ∃ st, y.steps = st := ⟨_, rfl⟩
  obtain ⟨ar, har⟩ : ∃ ar, y.args = ar := ⟨_, rfl⟩
  obtain ⟨na, hna⟩ : ∃ na, ar.length = na := ⟨_, rfl⟩
  obtain ⟨mk, hmk⟩ : ∃ mk, markY y = mk := ⟨_, rfl⟩
  obtain ⟨nu, hnu⟩ : ∃ nu, y.num = nu := ⟨_, rfl⟩
  have hE : ∀ v : Int, endJ y v = v := fun v => by unfold endJ; rw [if_pos HY.out.2.1]
  have HDE : Hid (∀ u, BothR W1 u bx z mb mg y ws2 o2 n2 bd zd bw gw x0 wsv 0 Lb → Calls Tryz.prog 20 #[.pointer (some ⟨bx, 0, none⟩)] u fun r w' => ∃ D, r = .returned (.agg (dC tg na mE D mk nu mE.how mE.cod mE.err st)) ∧ Hid (DdIn w' D ar mE ∧ Below u.heap.size u w')) := fun u q => by
    obtain ⟨v, k, kv⟩ := q.b.raw
    subst htg hst har
    refine (Deed_any k kv HY.out.1 hna HY.out.2.2 hmk hnu (hE _) (hE _) (hE _)).mono ?_
    rintro r w' ⟨D, q1, q2, q3⟩
    exact ⟨D, q1, q2.in_, q3⟩
  have HSD : Hid (∀ u D, DdIn u D ar mE → FlAt u R.po mE.out ∧ TlAt u R.pr mE.reads ∧ TlAt u R.pw mE.buf → Calls Tryz.prog 33 #[.agg (dC tg na mE D mk nu mE.how mE.cod mE.err st), .agg #[.int .i64 0, .int .i64 0, .int .i64 0, .int .i64 tg, .slice D.pa na D.ca, .int .i64 mk, .int .i64 nu, .slice R.pr mE.reads.length R.cr, .slice R.pw mE.buf.length R.cw, .slice R.po mE.out.length R.co, .int .i64 mE.how, .int .i64 mE.cod, .int .i64 mE.err, .int .i64 0, .int .i64 0, .int .i64 st, .int .i64 0, .int .i64 0, .int .i64 0]] u fun e w' => e = .returned (.bool true) ∧ Below u.heap.size u w') := fun u D q1 q2 => by
    have fl := few_listsA HY.out.1
    rw [har, HY.out.2.2, hna] at fl
    exact samedeed_any (D' := ⟨D.pa, D.ca, R.pr, R.cr, R.pw, R.cw, R.po, R.co⟩) q1 ⟨q1.a, q2.2.1, q2.2.2, q2.1⟩ hna fl.1 fl.2.1 fl.2.2.1 fl.2.2.2
  have HNW : Hid (∀ u, BothR W1 u bx z mb mg y ws2 o2 n2 bd zd bw gw x0 wsv 0 Lb → Calls Tryz.prog 31 #[.pointer (some ⟨mb, 0, none⟩), .agg #[.int .i64 0, .int .i64 1, .int .i64 2, .int .i64 3, .int .i64 (3 + x0.b), .int .i64 (N : Int)], .int .i64 (an : Int)] u fun r w' => ∃ p c, r = .returned (.slice p an c) ∧ Hid (FlAt w' p (numsL x0 ws2) ∧ Below u.heap.size u w')) := fun u q => nows_any q.b.mem l2 hN0 hb8 hxa han hok2
  clear htg hst har hna hmk hnu hE
  go_upto_region 25 with (first
    | (go_at_call 14; refine HST.out.mono ?_; rintro r u7 ⟨rfl, q1, q2⟩; have H7 := Lib.hid q1; have K7 := Lib.hid q2; clear q1 q2 HST)
    | (go_at_call 20; refine (HDE.out _ H7.out).mono ?_; rintro r u8 ⟨D, rfl, q⟩; have H8 := Lib.hid (H7.out.on q.out.2); have K8 := Lib.hid (kept_then K7.out q.out.2 HLB.out); have T8 := Lib.hid q.out.1; clear q H7 K7 HDE)
    | (refine wpList_store_row rfl 61 _ _ rfl u8.heap.size (dC tg na mE D mk nu mE.how mE.cod mE.err st) rfl rfl _ _ (heap_alloc_new _ _) deedInfo rfl (deed_one _ _ _ _ _ _ _ _ _ _) ?_; rw [World.setRow_alloc_new]))
  obtain ⟨u9, hu9⟩ : ∃ u9, u9 = u8.alloc (.cells (dC tg na mE D mk nu mE.how mE.cod mE.err st) 61) := ⟨_, rfl⟩
  rw [← hu9]
  have HB9 : Hid (Below u8.heap.size u8 u9 ∧ u9.heap[u8.heap.size]? = some (.cells (dC tg na mE D mk nu mE.how mE.cod mE.err st) 61 (0, 0))) := by rw [hu9]; exact ⟨below_alloc _ _, heap_alloc_new _ _⟩
  clear hu9
  have H9 := Lib.hid (H8.out.on HB9.out.1)
  have K9 := Lib.hid (kept_then K8.out HB9.out.1 HLB.out)
  have T9 := Lib.hid (T8.out.on HB9.out.1)
  obtain ⟨db, hdb⟩ : ∃ db, u8.heap.size = db := ⟨_, rfl⟩
  have HD9 : Hid (u9.heap[db]? = some (.cells (dC tg na mE D mk nu mE.how mE.cod mE.err st) 61 (0, 0))) := by rw [← hdb]; exact HB9.out.2
  rw [hdb]
  clear hdb HB9 H8 K8 T8
  have e3 : u9.cell? ⟨db, 3, none⟩ = some (.int .i64 tg) := (cell_of_row _ _ 3 _ _ _ HD9.out).trans rfl
  have e4 : u9.cell? ⟨db, 4, none⟩ = some (.slice D.pa na D.ca) := (cell_of_row _ _ 4 _ _ _ HD9.out).trans rfl
  have e5 : u9.cell? ⟨db, 5, none⟩ = some (.int .i64 mk) := (cell_of_row _ _ 5 _ _ _ HD9.out).trans rfl
  have e6 : u9.cell? ⟨db, 6, none⟩ = some (.int .i64 nu) := (cell_of_row _ _ 6 _ _ _ HD9.out).trans rfl
  have e15 : u9.cell? ⟨db, 15, none⟩ = some (.int .i64 st) := (cell_of_row _ _ 15 _ _ _ HD9.out).trans rfl
  have el := lt_of_block HD9.out
  obtain ⟨hbx, hf1, hf2, hf3, _⟩ := HKL.out _ K9.out
  have r0 : u9.cell? ⟨rp, 0, none⟩ = some (.int .i64 mE.how) := (cell_of_row _ _ 0 _ _ _ hbx).trans rfl
  have r1 : u9.cell? ⟨rp, 1, none⟩ = some (.int .i64 mE.cod) := (cell_of_row _ _ 1 _ _ _ hbx).trans rfl
  have r2 : u9.cell? ⟨rp, 2, none⟩ = some (.int .i64 mE.err) := (cell_of_row _ _ 2 _ _ _ hbx).trans rfl
  have r3 : u9.cell? ⟨rp, 3, none⟩ = some (.slice R.po mE.out.length R.co) := (cell_of_row _ _ 3 _ _ _ hbx).trans rfl
  have r4 : u9.cell? ⟨rp, 4, none⟩ = some (.slice R.pr mE.reads.length R.cr) := (cell_of_row _ _ 4 _ _ _ hbx).trans rfl
  have r5 : u9.cell? ⟨rp, 5, none⟩ = some (.slice R.pw mE.buf.length R.cw) := (cell_of_row _ _ 5 _ _ _ hbx).trans rfl
  have rl := lt_of_block hbx
  have HSF := Lib.hid (HSD.out u9 D T9.out ⟨hf1, hf2, hf3⟩)
  clear hbx hf1 hf2 hf3 HSD T9
  go_upto_region 26 with (first
    | (go_at_call 33; refine HSF.out.mono ?_; rintro r ua ⟨rfl, q⟩; have HA := Lib.hid (H9.out.on q); have KA := Lib.hid (kept_then K9.out q HLB.out); clear q HSF)
    | (refine wpList_load_row rfl 61 _ rfl db rfl _ (dC tg na mE D mk nu mE.how mE.cod mE.err st) _ _ HD9.out Tryz.underlying61 rfl deedInfo ?_))
  clear e3 e4 e5 e6 e15 el r0 r1 r2 r3 r4 r5 rl HD9 H9 K9
  have HAL : Hid (Calls Tryz.prog 34 #[.pointer (some ⟨bs, 0, none⟩)] ua fun r w' => ∃ g, r = .returned (.slice (some ⟨g, 0, none⟩) an an) ∧ Hid (FlAt w' (some ⟨g, 0, none⟩) (numsL x0 ws2) ∧ Below ua.heap.size ua w')) := by
    obtain ⟨_, _, _, _, hc⟩ := HKL.out _ KA.out
    refine (Sx.all_any hc).mono ?_
    rintro r w' ⟨rfl, q1, q2⟩
    have hl : (aftS (numsL x0 wp) mE).length = an := by rw [aftS_len, numsL_len, hxa]; rfl
    rw [hl]
    refine ⟨_, rfl, ?_, q2⟩
    have := q1.fl
    rw [HNE.out] at this
    exact this
  go_upto_region 27 with (go_at_call 34; refine HAL.out.mono ?_; rintro r ub ⟨gt, rfl, q⟩; have HB := Lib.hid (HA.out.on q.out.2); have FB := Lib.hid q.out.1; clear q HAL HA KA)
  obtain ⟨z0, z1, z2, z3, z4, z5, zb⟩ := HB.out.b.plan
  have z5' : ub.cell? ⟨bd, 5, none⟩ = some (.int .i64 (N : Int)) := by rw [z5]; rw [hN0]
  clear z5
  obtain ⟨ra, rbl⟩ := HRC.out _ HB.out.b.below
  have SB := And.intro (And.intro z0 (And.intro z1 (And.intro z2 (And.intro z3 (And.intro z4 z5'))))) ra
  have HSS : Hid (∀ u, Below ub.heap.size ub u → (u.cell? ⟨bd, 0, none⟩ = some (.int .i64 0) ∧ u.cell? ⟨bd, 1, none⟩ = some (.int .i64 1) ∧ u.cell? ⟨bd, 2, none⟩ = some (.int .i64 2) ∧ u.cell? ⟨bd, 3, none⟩ = some (.int .i64 3) ∧ u.cell? ⟨bd, 4, none⟩ = some (.int .i64 (3 + x0.b)) ∧ u.cell? ⟨bd, 5, none⟩ = some (.int .i64 (N : Int))) ∧ u.cell? ⟨rb, 0, none⟩ = some (.int .i64 (an : Int))) := fun u q => ⟨⟨(q.cell (p := ⟨bd, 0, none⟩) zb).trans z0, (q.cell (p := ⟨bd, 1, none⟩) zb).trans z1, (q.cell (p := ⟨bd, 2, none⟩) zb).trans z2, (q.cell (p := ⟨bd, 3, none⟩) zb).trans z3, (q.cell (p := ⟨bd, 4, none⟩) zb).trans z4, (q.cell (p := ⟨bd, 5, none⟩) zb).trans z5'⟩, (q.cell (p := ⟨rb, 0, none⟩) rbl).trans ra⟩
  generalize 3 + x0.b = p4 at *
  refine wp_region_seq (fun u => (u.cell? ⟨bd, 0, none⟩ = some (.int .i64 0) ∧ u.cell? ⟨bd, 1, none⟩ = some (.int .i64 1) ∧ u.cell? ⟨bd, 2, none⟩ = some (.int .i64 2) ∧ u.cell? ⟨bd, 3, none⟩ = some (.int .i64 3) ∧ u.cell? ⟨bd, 4, none⟩ = some (.int .i64 p4) ∧ u.cell? ⟨bd, 5, none⟩ = some (.int .i64 (N : Int))) ∧ u.cell? ⟨rb, 0, none⟩ = some (.int .i64 (an : Int))) ((0, true) :: (1, true) :: (2, true) :: (3, true) :: (4, true) :: (5, true) :: (6, true) :: (7, true) :: (10, true) :: (8, false) :: (9, true) :: []) Md.Cv.follows13 (by kernel_rfl) (fun v t1 t2 d u h => hQ v t1 t2 d u h) SB ?_
  (repeat ((first | (refine wpSeq_take (v := ?_) rfl (by rfl) (fun wq hSq => ?_) ?_; rotate_left; (focus ((try dsimp only at hSq); go_simp; try with_reducible rfl))) | refine wpSeq_skip rfl (by rfl) ?_); simp only [Act.put, List.setIfInBounds_toArray, List.set_cons_zero, List.set_cons_succ]))
  (refine wpSeq_do rfl (by rfl) (fun KK hK => ?_); go_simp)
  refine (HNW.out _ (HB.out.on ((Same.drew _).below _))).mono ?_
  rintro r uc ⟨pn, cn, rfl, q⟩
  have HBC : Hid (Below ub.heap.size ub uc) := ((Same.drew ub).below _).trans q.out.2
  have FC : Hid (FlAt uc pn (numsL x0 ws2) ∧ FlAt uc (some ⟨gt, 0, none⟩) (numsL x0 ws2)) := ⟨q.out.1, FB.out.on HBC.out⟩
  have HZ : Hid (Below W1.heap.size W1 uc) := (HB.out.on HBC.out).b.below
  refine hK.out _ _ (HSS.out _ HBC.out) ?_
  clear q
  (clear hK KK; try simp only [Act.put, List.setIfInBounds_toArray, List.set_cons_zero, List.set_cons_succ])
  (repeat ((first | (refine wpSeq_take (v := ?_) rfl (by rfl) (fun wq hSq => ?_) ?_; rotate_left; (focus ((try dsimp only at hSq); go_simp; try with_reducible rfl))) | refine wpSeq_skip rfl (by rfl) ?_); simp only [Act.put, List.setIfInBounds_toArray, List.set_cons_zero, List.set_cons_succ]))
  refine wpSeq_nil ?_
  clear HSS SB z0 z1 z2 z3 z4 z5' zb ra rbl HNW HB FB
  go_upto_block 4 with fail
  have hnl : Hid ((numsL x0 ws2).length = an) := by rw [numsL_len, hxa]; rfl
  refine acmp _ (pt := some ⟨gt, 0, none⟩) (pn := pn) (ct := an) (cn := cn) (an := an) (l := numsL x0 ws2) han hnl (Lib.hid FC.out.2) (Lib.hid FC.out.1) _ (by kernel_rfl) _ _ _ _ _ _ _ _ _ _ _ _ _ _ _ _ _ _ _ _ _ _ _ _ _ _ _ _ _ _ _ _ _ _ _ _ _ _ _ _ _ _ _ _ _ _ _ _ _ _ _ _ _ _ _ _ _ _ _ _ _ _ _ _ _ _ _ _ _ _ _ _ _ _ _ _ _ _ _ _ _ _ _ _ _ _ _ _ _ _ _ _ _ _ _ _ _ _ _ _ _ _ _ _ _ _ _ _ _ _ _ _ _ _ _ _ _ _ _ _ _ _ _ _ _ _ _ _ _ _ _ _ _ _ _ _ _ _ _ _ _ _ _ _ _ _ _ _ _ _ _ _ _ _ _ _ _ _ _ _ _ _ _ _ _ _ _ _ _ _ _ _ _ _ _ _ _ _ _ _ _ _ _ _ _ _ _ _ _ _ _ _ (fun v t1 t2 d u h => hQ v t1 t2 d u h) ?_
  intro _ _ _ _ _ _ _ _ _ _ _ _ _ _ _ _ _ _ _ _ _ _ wz hwz
  subst wz
  clear FC hnl
  go_wp2_with fail
  exact HR.out _ _ rfl rfl HZ.out
set_option maxRecDepth 100000 in
set_option maxHeartbeats 4000000 in
theorem aloop (w : World) {W1 : World} {rb bx : Nat} {z : Wz} {mb mg bd : Nat} {zd : Dz} {bw gw : Nat} {x0 : Wx} {wsv wp : List Int} {N nb an bs rp : Nat} {F Lb : List Nat} {w6 : World} {R : Rs} {mE : Mac} {c e : Int} (hsh : Shaped5 W1) (hc : 1 ≤ c ∧ c ≤ 100000) (he : 1 ≤ e ∧ e ≤ 32) (hnb : 1 ≤ nb ∧ nb ≤ 8) (HRD : Hid (∀ u, Below W1.heap.size W1 u → u.cell? ⟨rb, 0, none⟩ = some (.int .i64 (an : Int)) ∧ u.cell? ⟨rb, 1, none⟩ = some (.int .i64 (nb : Int)) ∧ u.cell? ⟨rb, 2, none⟩ = some (.int .i64 c) ∧ u.cell? ⟨rb, 3, none⟩ = some (.int .i64 e) ∧ rb < u.heap.size)) (HX0 : Hid (plY x0 = (N : Int) ∧ leftY x0 = c + (nb : Int) + 3 * e + 6)) (HRC : Hid (∀ u, Below W1.heap.size W1 u → u.cell? ⟨rb, 0, none⟩ = some (.int .i64 (an : Int)) ∧ rb < u.heap.size)) (HKL : Hid (∀ u, Kept Lb w6 u → u.heap[rp]? = some (.cells (resC R mE) 83 (0, 0)) ∧ FlAt u R.po mE.out ∧ TlAt u R.pr mE.reads ∧ TlAt u R.pw mE.buf ∧ Sx.Cel 121 u bs F (aftS (numsL x0 wp) mE))) (HLB : Hid (Blw w6 Lb)) (hN0 : 3 + x0.b + 3 * x0.a = (N : Int)) (hb8 : 1 ≤ x0.b ∧ x0.b ≤ 8) (hxa : x0.a = (an : Int)) (han : an ≤ 256) (hwl : wp.length = N) (hok : okW wp) (HM0 : Hid (Rest x0.m)) (HME : Hid (endM (numsL x0 wp) x0.m = mE)) (HSV : Hid (wordAt wp 0 = wordAt wp 1 ∧ ∀ t : Int, 0 ≤ t → t < x0.b → wordAt wp (3 + t) = 0)) (HS0 : Hid (∃ x ws o n, BkI x0 x ws wp N 0 ∧ x.part ≠ 9 ∧ Kept Lb w6 w ∧ BothR W1 w bx z mb mg x ws o n bd zd bw gw x0 wsv 0 Lb)) (D : Code) (hD : D = (Tryz.f8.body.bind (findBk 2)).getD .skip) (c0 c2 c7 c8 c10 c14 c15 c16 c17 c18 c19 c20 c21 c22 c23 c24 c25 c26 c27 c28 c29 c30 c31 c32 c33 c34 c35 c36 c37 c38 c39 c40 c41 c42 c43 c44 c45 c46 c47 c48 c49 c50 c51 c52 c53 c54 c55 c56 c57 c58 c59 c60 c61 c62 c63 c64 c65 c66 c67 c68 c69 c70 c71 c72 c73 c74 c75 c76 c77 c78 c79 c80 c81 c82 c83 c84 c85 c86 c87 c88 c89 c90 c91 c92 c93 c94 c95 c96 c97 c98 c99 c100 c101 c102 c103 c104 c105 c106 c107 c108 c109 c110 c111 c112 c113 c114 c115 c116 c117 c118 c119 c120 c121 c122 c123 c124 c125 c126 c127 c128 c129 c130 c131 c132 c133 c134 c135 c136 c137 c138 c139 c140 c141 c142 c143 c144 c145 c146 c147 c148 c149 c150 c151 c152 c153 c154 c155 c156 c157 c158 c159 c160 c161 c162 c163 c164 c165 c166 c167 c168 c169 c170 c171 c172 c173 c174 c175 c176 c177 c178 c179 c180 c181 c182 c183 c184 c185 c186 c187 c188 c189 c190 c191 c192 c193 c194 : Value) (Q : Exit → Act → World → Prop) (hQ : ∀ v t1 t2 d u, Q (.panic v) ⟨t1, d⟩ u → Q (.panic v) ⟨t2, d⟩ u) (hR : ∀ (a : Act) (wz : World), a.tmps.getD 2 undef = .bool true → a.defers = [] → Below W1.heap.size W1 wz → Q .ret a wz) : D.wp Tryz.prog Q ⟨#[c0, .pointer (some ⟨rb, 0, none⟩), c2, .bool true, .pointer (some ⟨bx, 0, none⟩), .pointer (some ⟨bd, 0, none⟩), .pointer (some ⟨mb, 0, none⟩), c7, c8, .pointer (some ⟨bs, 0, none⟩), c10, .pointer (some ⟨rp, 0, none⟩), .int .i64 0, .int .i64 0, c14, c15, c16, c17, c18, c19, c20, c21, c22, c23, c24, c25, c26, c27, c28, c29, c30, c31, c32, c33, c34, c35, c36, c37, c38, c39, c40, c41, c42, c43, c44, c45, c46, c47, c48, c49, c50, c51, c52, c53, c54, c55, c56, c57, c58, c59, c60, c61, c62, c63, c64, c65, c66, c67, c68, c69, c70, c71, c72, c73, c74, c75, c76, c77, c78, c79, c80, c81, c82, c83, c84, c85, c86, c87, c88, c89, c90, c91, c92, c93, c94, c95, c96, c97, c98, c99, c100, c101, c102, c103, c104, c105, c106, c107, c108, c109, c110, c111, c112, c113, c114, c115, c116, c117, c118, c119, c120, c121, c122, c123, c124, c125, c126, c127, c128, c129, c130, c131, c132, c133, c134, c135, c136, c137, c138, c139, c140, c141, c142, c143, c144, c145, c146, c147, c148, c149, c150, c151, c152, c153, c154, c155, c156, c157, c158, c159, c160, c161, c162, c163, c164, c165, c166, c167, c168, c169, c170, c171, c172, c173, c174, c175, c176, c177, c178, c179, c180, c181, c182, c183, c184, c185, c186, c187, c188, c189, c190, c191, c192, c193, c194], []⟩ w := by
  have HR : Hid (∀ (a : Act) (wz : World), a.tmps.getD 2 undef = .bool true → a.defers = [] → Below W1.heap.size W1 wz → Q .ret a wz) := hR
  clear hR
  rw [hD]
  clear hD
  conv => arg 2; whnf
  go_wp2_with fail
  go_loopw [13] (fun vi wr => ∃ i : Nat, vi = .int .i64 i ∧ Hid (∃ x ws o n, BkI x0 x ws wp N i ∧ x.part ≠ 9 ∧ Kept Lb w6 wr ∧ BothR W1 wr bx z mb mg x ws o n bd zd bw gw x0 wsv 0 Lb)) (fun vi _ => (c + (nb : Int) + 3 * e + 8).toNat - (intOf vi).toNat)
  case atStart => exact ⟨0, rfl, HS0.out⟩
  case round =>
    obtain ⟨i, rfl, HR0⟩ := hrel
    clear HS0
    obtain ⟨x, ws, o, n0, hI, hp9, hK6, hB⟩ := HR0.out
    have HW := Lib.hid hI
    have HB := Lib.hid hB
    have K6 := Lib.hid hK6
    have HP9 := Lib.hid hp9
    obtain ⟨y0, y1, y2, y3, yb⟩ := HRD.out _ hB.b.below
    have hlt : (i : Int) < c + (nb : Int) + 3 * e + 8 := by
      have := hI.more hp9
      rw [HX0.out.2] at this
      omega
    clear HR0 hI hB hK6 hp9 y0
    obtain ⟨y, ws2, ac, hy⟩ : ∃ y ws2 ac, stepY x ws = (y, ws2, ac) := ⟨_, _, _, rfl⟩
    obtain ⟨n', hn'⟩ : ∃ n', (if ac then up n0 else n0) = n' := ⟨_, rfl⟩
    obtain ⟨ov, hov⟩ : ∃ ov, decide ((y.part : Int) = 9) = ov := ⟨_, rfl⟩
    have HS := Lib.hid (HW.out.next HP9.out HSV.out.1 HSV.out.2 hy)
    have HST : Hid (Calls Tryz.prog 14 #[.pointer (some ⟨bx, 0, none⟩), .pointer (some ⟨mb, 0, none⟩)] _ fun r w' => r = .returned (.tuple #[.bool ov, .int .i64 0]) ∧ BothR W1 w' bx z mb mg y ws2 (!ac) n' bd zd bw gw x0 wsv 0 Lb ∧ Kept Lb w6 w') := (HB.out.step hsh HW.out.inx HP9.out (by rw [plY_alike HW.out.al, HX0.out.1, HW.out.len]; omega) (by rw [HW.out.st]; omega) (by rw [HW.out.st]; omega) hy hn' hov).mono fun r w' ⟨k1, k2, k3⟩ => ⟨k1, k2, ⟨Nat.le_trans K6.out.1 k3.1, fun i hi => (k3.2 i hi).trans (K6.out.2 i hi)⟩⟩
    have HOV := Lib.hid hov
    clear hy hn' hov
    go_upto_block 3 with fail
    cases ov
    · have h9 : y.part ≠ 9 := fun q => by have := of_decide_eq_false HOV.out; omega
      refine anot _ (bx := bx) (mb := mb) (P := fun w' => BothR W1 w' bx z mb mg y ws2 (!ac) n' bd zd bw gw x0 wsv 0 Lb ∧ Kept Lb w6 w') HST _ (by kernel_rfl) _ _ _ _ _ _ _ _ _ _ _ _ _ _ _ _ _ _ _ _ _ _ _ _ _ _ _ _ _ _ _ _ _ _ _ _ _ _ _ _ _ _ _ _ _ _ _ _ _ _ _ _ _ _ _ _ _ _ _ _ _ _ _ _ _ _ _ _ _ _ _ _ _ _ _ _ _ _ _ _ _ _ _ _ _ _ _ _ _ _ _ _ _ _ _ _ _ _ _ _ _ _ _ _ _ _ _ _ _ _ _ _ _ _ _ _ _ _ _ _ _ _ _ _ _ _ _ _ _ _ _ _ _ _ _ _ _ _ _ _ _ _ _ _ _ _ _ _ _ _ _ _ _ _ _ _ _ _ _ _ _ _ _ _ _ _ _ _ _ _ _ _ _ _ _ _ _ _ _ _ _ _ _ _ _ _ _ _ _ _ _ _ _ _ (fun v t1 t2 d u h => hQ v t1 t2 d u h) ?_
      intro _ _ _ _ _ _ _ _ _ _ wz hwz
      have HWZ := Lib.hid hwz
      clear hwz HST
      go_wp2_with fail
      exact ⟨⟨i + 1, rfl, y, ws2, _, _, HS.out, h9, HWZ.out.2, HWZ.out.1⟩, by simp [intOf]; omega⟩
    · have h9 : y.part = 9 := by have := of_decide_eq_true HOV.out; omega
      have HYE := Lib.hid (HS.out.ended h9 HX0.out.1 hwl hok HM0.out)
      refine aover _ (W1 := W1) (rb := rb) (bx := bx) (z := z) (mb := mb) (mg := mg) (bd := bd) (zd := zd) (bw := bw) (gw := gw) (x0 := x0) (wsv := wsv) (wp := wp) (N := N) (nb := nb) (an := an) (bs := bs) (rp := rp) (F := F) (Lb := Lb) (w6 := w6) (R := R) (mE := mE) (y := y) (ws2 := ws2) (o2 := !ac) (n2 := n') HST (Lib.hid ⟨HS.out.inx, h9, HYE.out.1.trans HME.out⟩) HRC HKL HLB hN0 hb8 hxa han HS.out.len HS.out.ok (Lib.hid (by rw [← HME.out, ← HYE.out.1]; exact HYE.out.2)) _ (by kernel_rfl) _ _ _ _ _ _ _ _ _ _ _ _ _ _ _ _ _ _ _ _ _ _ _ _ _ _ _ _ _ _ _ _ _ _ _ _ _ _ _ _ _ _ _ _ _ _ _ _ _ _ _ _ _ _ _ _ _ _ _ _ _ _ _ _ _ _ _ _ _ _ _ _ _ _ _ _ _ _ _ _ _ _ _ _ _ _ _ _ _ _ _ _ _ _ _ _ _ _ _ _ _ _ _ _ _ _ _ _ _ _ _ _ _ _ _ _ _ _ _ _ _ _ _ _ _ _ _ _ _ _ _ _ _ _ _ _ _ _ _ _ _ _ _ _ _ _ _ _ _ _ _ _ _ _ _ _ _ _ _ _ _ _ _ _ _ _ _ _ _ _ _ _ _ _ _ _ _ _ _ _ _ _ _ _ _ _ _ _ (fun v t1 t2 d u h => hQ v t1 t2 d u h) ?_
      intro a wz h2 hd hz
      exact HR.out a wz h2 hd hz
end
end Go.Proofs.YteinilmecnlanaaGreatDoor.Ww
namespace Go.Proofs.YteinilmecnlanaaGreatDoor.Ww
open Go.ChangeShapes Go.WideShapes Go.ChangeAt Go.RowKit Num Rr
section
variable {W : World} {a b c e th t : Int} {ao : Option Addr} {cs : List Ins} {n cap : Nat} {po : Option Addr} {l : List Nat} {k co : Nat} {pw : Option Addr} {lw : List Int} {kw cw : Nat} {pp : Option Addr} {lp : List (Int × Int)} {kp cp : Nat} {sp : Int}
set_option maxRecDepth 100000 in
set_option maxHeartbeats 4000000 in
theorem alones (h : RideAll W cs l ao po n k lw pw kw lp pp kp) : Calls Tryz.prog 8 #[.agg (rideV a b c e th t ao n cap po k co pw kw cw pp kp cp sp)] W fun r w' => r = .returned (.bool true) ∧ Below W.heap.size W w' := by
  obtain ⟨w1, hw1⟩ : ∃ w1, w1 = (W.alloc (.cells (rideV a b c e th t ao n cap po k co pw kw cw pp kp cp sp) 31)) := ⟨_, rfl⟩
  have H0 : Hid (Below W.heap.size W w1 ∧ w1.heap[W.heap.size]? = some (.cells (rideV a b c e th t ao n cap po k co pw kw cw pp kp cp sp) 31 (0, 0))) := by rw [hw1]; exact ⟨below_alloc _ _, heap_alloc_new _ _⟩
  have HL : Hid (Calls Tryz.prog 9 #[] w1 fun e w' => e = .returned (.bool true) ∧ Below w1.heap.size w1 w') := live_any (h.at_.sh.on H0.out.1)
  have HG : Hid (∀ u, Below w1.heap.size w1 u → Calls Tryz.prog 10 #[.agg (rideV a b c e th t ao n cap po k co pw kw cw pp kp cp sp)] u fun r w' => ∃ q1 q2, r = .returned (.tuple #[.pointer q1, .pointer q2]) ∧ Hid ((mayX a b c e k th = true ∧ ∃ bx bd, q1 = some ⟨bx, 0, none⟩ ∧ q2 = some ⟨bd, 0, none⟩ ∧ Bgn u w' bx bd (newY a b c e t cs l th) ao cs) ∨ (mayX a b c e k th = false ∧ q1 = none ∧ q2 = none ∧ Below u.heap.size u w'))) := fun u q => begun_any ((h.at_.on H0.out.1).on q)
  have HX := Lib.hid (h.on H0.out.1)
  have HRC : Hid (∀ u, Below w1.heap.size w1 u → u.cell? ⟨W.heap.size, 0, none⟩ = some (.int .i64 a) ∧ u.cell? ⟨W.heap.size, 1, none⟩ = some (.int .i64 b) ∧ u.cell? ⟨W.heap.size, 2, none⟩ = some (.int .i64 c) ∧ u.cell? ⟨W.heap.size, 3, none⟩ = some (.int .i64 e) ∧ u.cell? ⟨W.heap.size, 4, none⟩ = some (.int .i64 th) ∧ u.cell? ⟨W.heap.size, 5, none⟩ = some (.int .i64 t) ∧ u.cell? ⟨W.heap.size, 6, none⟩ = some (.slice ao n cap) ∧ u.cell? ⟨W.heap.size, 7, none⟩ = some (.slice po k co) ∧ u.cell? ⟨W.heap.size, 8, none⟩ = some (.slice pw kw cw) ∧ u.cell? ⟨W.heap.size, 9, none⟩ = some (.slice pp kp cp) ∧ u.cell? ⟨W.heap.size, 10, none⟩ = some (.int .i64 sp) ∧ W.heap.size < u.heap.size) := fun u q => ride_cells ((q.block _ (lt_of_block H0.out.2)).trans H0.out.2)
  clear h
  go_enter Tryz.func8, Tryz.ntmps8
  go_upto_region 3 with (first
    | (go_at_call 10; refine (HG.out _ H1.out).mono ?_; rintro r u2 ⟨q1, q2, rfl, H2⟩; clear HG)
    | (go_at_call 9; try simp only [← hw1]; refine HL.out.mono ?_; rintro r u1 ⟨rfl, q⟩; have H1 := Lib.hid q; obtain ⟨x0, x1, x2, x3, x4, x5, x6, x7, x8, x9, x10, xb⟩ := HRC.out _ q; clear q HL))
  clear x0 x1 x2 x3 x4 x5 x6 x7 x8 x9 x10 xb hw1
  rcases H2.out with ⟨hm, bx, bd, rfl, rfl, hB⟩ | ⟨hm, rfl, rfl, hB⟩
  rotate_left
  · have HB := Lib.hid (H0.out.1.trans ((H1.out.trans (hB.mono H1.out.size)).mono H0.out.1.size))
    clear hB H2
    go_wp2_with fail
    go_ret
    exact ⟨rfl, HB.out⟩
  have HI := Lib.hid (HX.out.at_.inY (t := t) hm)
  have hcf : Md.cfgB a b c e = true := by simp only [mayX, Bool.and_eq_true] at hm; exact hm.1.1
  obtain ⟨N, hN⟩ : ∃ N : Nat, 3 + b + 3 * a = (N : Int) := ⟨(3 + b + 3 * a).toNat, by have := Md.cfgB_iff.1 hcf; omega⟩
  have N1 : 1 ≤ N := by have := Md.cfgB_iff.1 hcf; omega
  have HFU : Hid (1 ≤ c ∧ c ≤ 100000) := by have := Md.cfgB_iff.1 hcf; exact ⟨by omega, by omega⟩
  have HB2 : Hid (Below w1.heap.size w1 u2) := H1.out.trans (hB.bl.mono H1.out.size)
  have HGD0 : Hid (Md.cfgB a b c e = true ∧ k ≤ 8) := by simp only [mayX, Bool.and_eq_true, decide_eq_true_eq] at hm; exact ⟨hm.1.1, hm.1.2⟩
  have HLA : Hid (Calls Tryz.prog 11 #[cfgV a b c e, .slice pw kw cw] u2 fun r w' => ∃ mb bw, r = .returned (.tuple #[.pointer (some ⟨mb, 0, none⟩), .pointer (some ⟨bw, 0, none⟩)]) ∧ Hid (∃ mg gw ws, Laid u2 w' N mb mg bw gw ws)) := laid_any hcf ((HX.out.on HB2.out).words) HX.out.wl HX.out.wx HX.out.wb hN
  have HBG := Lib.hid hB
  obtain ⟨x0, x1, x2, x3, x4, x5, x6, x7, x8, x9, x10, xb⟩ := HRC.out _ HB2.out
  clear H2 hB
  go_upto_region 8 with (go_at_call 11; refine HLA.out.mono ?_; rintro r u3 ⟨mb, bw, rfl, H3⟩; clear HLA)
  have HN : Hid (3 + b + 3 * a = (N : Int)) := hN
  have HBO : Hid (∃ mg gw ws z zd, ws.length = N ∧ okW ws ∧ zd.cs = cs ∧ Both w1 u3 bx z mb mg (newY a b c e t cs l th) ws false 0 bd zd bw gw (newY a b c e t cs l th) ws 0) := by
    obtain ⟨mg, gw, ws, q⟩ := H3.out
    obtain ⟨z, zd, k1, k2⟩ := both_new H1.out HBG.out q.mem q.wds q.bl q.am q.ag q.aw q.av q.sep
    exact ⟨mg, gw, ws, z, zd, q.len, q.ok, k1, k2⟩
  obtain ⟨mg, gw, ws, z, zd, hwl, hwo, hzd, hbo⟩ := HBO.out
  have HB3 := Lib.hid hbo
  have HW3 : Hid (ws.length = N ∧ okW ws) := ⟨hwl, hwo⟩
  clear H3 HBO hbo hwl hwo hN hcf hm HBG HB2 x0 x1 x2 x3 x4 x5 x6 x7 x8 x9 x10 xb
  have hbE : Hid (1 ≤ b ∧ b ≤ 8 ∧ 1 ≤ e ∧ e ≤ 32 ∧ 1 ≤ a ∧ a ≤ 256) := by
    have h1 := HI.out.cb
    have h2 := HI.out.rest.inv.wmax
    have h3 := HI.out.ca
    exact ⟨h1.1, h1.2, h2.1, h2.2, h3.1, h3.2⟩
  have HSV : Hid (Calls Tryz.prog 25 #[.pointer (some ⟨mb, 0, none⟩), .pointer (some ⟨bw, 0, none⟩), .agg #[.int .i64 0, .int .i64 1, .int .i64 2, .int .i64 3, .int .i64 (3 + b), .int .i64 (3 + b + 3 * a)]] u3 fun r w' => r = .returned (.tuple #[]) ∧ Both w1 w' bx z mb mg (newY a b c e t cs l th) (servL ws) false 0 bd zd bw gw (newY a b c e t cs l th) (servL ws) 0) := served_any HB3.out HW3.out.2 HW3.out.1 (by have h1 := hbE.out; have h2 := HN.out; omega) (3 + b) (3 + b + 3 * a)
  obtain ⟨d0, d1, d2, d3, d4, d5, db⟩ := HB3.out.plan
  have d4' : u3.cell? ⟨bd, 4, none⟩ = some (.int .i64 (3 + b)) := d4
  have d5' : u3.cell? ⟨bd, 5, none⟩ = some (.int .i64 (3 + b + 3 * a)) := d5
  clear d4 d5
  go_upto_region 9 with (go_at_call 25; refine HSV.out.mono ?_; rintro r u4 ⟨rfl, q⟩; have H4 := Lib.hid q; clear q HSV)
  clear d0 d1 d2 d3 d4' d5' db HB3
  have HW4 : Hid ((servL ws).length = N ∧ okW (servL ws)) := ⟨(servL_len ws).trans HW3.out.1, servL_ok HW3.out.2⟩
  have HS4 : Hid (wordAt (servL ws) 0 = wordAt (servL ws) 1) := by
    have h3 : 3 ≤ ws.length := by rw [HW3.out.1]; have h1 := hbE.out; have h2 := HN.out; omega
    show (servL ws).getD 0 0 = (servL ws).getD 1 0
    unfold servL
    rw [getD_set_eq (by simp; omega), getD_set_ne (by omega), getD_set_ne (by omega), getD_set_eq (by omega)]
  have HS5 : Hid ((0 ≤ wordAt (servL ws) 0 ∧ wordAt (servL ws) 0 < 1099511627776) ∧ (0 ≤ wordAt (servL ws) 2 ∧ wordAt (servL ws) 2 < 1099511627776)) := by
    have h3 : 3 ≤ ws.length := by rw [HW3.out.1]; have h1 := hbE.out; have h2 := HN.out; omega
    have e0 : wordAt (servL ws) 0 = ws.getD 0 0 % 1099511627776 := by
      show (servL ws).getD 0 0 = _
      unfold servL
      rw [getD_set_ne (by omega), getD_set_ne (by omega), getD_set_eq (by omega)]
    have e2 : wordAt (servL ws) 2 = ws.getD 2 0 % 1099511627776 := by
      show (servL ws).getD 2 0 = _
      unfold servL
      rw [getD_set_ne (by omega), getD_set_eq (by simp; omega)]
    rw [e0, e2]
    exact ⟨⟨by omega, by omega⟩, ⟨by omega, by omega⟩⟩
  generalize servL ws = wsv at H4 HW4 HS4 HS5
  clear HW3
  obtain ⟨nb, rfl⟩ : ∃ nb : Nat, b = (nb : Int) := ⟨b.toNat, by have := hbE.out; omega⟩
  obtain ⟨an, rfl⟩ : ∃ an : Nat, a = (an : Int) := ⟨a.toNat, by have := hbE.out; omega⟩
  obtain ⟨hb1, hb2, he1, he2, ha1, ha2⟩ := hbE.out
  have hc1 : 1 ≤ c := HFU.out.1
  have hc2 : c ≤ 100000 := HFU.out.2
  have hNe : 3 + (nb : Int) + 3 * (an : Int) = (N : Int) := HN.out
  have hN6 : 6 ≤ N := by omega
  have hN9 : N ≤ 1000 := by omega
  obtain ⟨x0, hx0⟩ : ∃ x0, x0 = newY an nb c e t cs l th := ⟨_, rfl⟩
  have HX0 : Hid (plY x0 = (N : Int) ∧ InY x0 ∧ x0.b = (nb : Int) ∧ x0.part = 1 ∧ x0.steps = 0 ∧ leftY x0 = c + (nb : Int) + 3 * e + 6 ∧ x0.a = (an : Int) ∧ x0.m = newM an c e t cs l ∧ Rest x0.m ∧ ∀ wp, QY wp (numsL x0 wp) x0.m x0 wp) := by rw [hx0]; exact ⟨HN.out, HI.out, rfl, rfl, rfl, by unfold leftY; rw [if_pos (show (newY an nb c e t cs l th).part = 1 from rfl)]; show c - 0 + (nb : Int) + 3 * e + 6 = _; omega, rfl, rfl, HI.out.rest, fun wp => qy_new rfl rfl rfl rfl rfl⟩
  rw [← hx0] at H4
  clear hx0 HI H1 hbE
  go_upto_block 0 with fail
  refine apoke _ (W1 := w1) (rb := W.heap.size) (bx := bx) (z := z) (mb := mb) (mg := mg) (bd := bd) (zd := zd) (bw := bw) (gw := gw) (x0 := x0) (wsv := wsv) (N := N) (nb := nb) (by omega) (by omega) (Lib.hid (fun u q => ⟨(HRC.out u q).2.1, (HRC.out u q).2.2.2.2.2.2.2.2.2.2.2⟩)) (Lib.hid ⟨wsv, ⟨HW4.out.1, HW4.out.2, ⟨rfl, rfl, rfl⟩, fun t h0 h1 => by omega⟩, H4.out⟩) _ (by kernel_rfl) _ _ _ _ _ _ _ _ _ _ _ _ _ _ _ _ _ _ _ _ _ _ _ _ _ _ _ _ _ _ _ _ _ _ _ _ _ _ _ _ _ _ _ _ _ _ _ _ _ _ _ _ _ _ _ _ _ _ _ _ _ _ _ _ _ _ _ _ _ _ _ _ _ _ _ _ _ _ _ _ _ _ _ _ _ _ _ _ _ _ _ _ _ _ _ _ _ _ _ _ _ _ _ _ _ _ _ _ _ _ _ _ _ _ _ _ _ _ _ _ _ _ _ _ _ _ _ _ _ _ _ _ _ _ _ _ _ _ _ _ _ _ _ _ _ _ _ _ _ _ _ _ _ _ _ _ _ _ _ _ _ _ _ _ _ _ _ _ _ _ _ _ _ _ _ _ _ _ _ _ _ _ _ _ _ _ _ _ _ _ _ _ (fun _ _ _ _ _ h => h) ?_
  intro _ _ _ _ _ _ _ _ _ _ _ _ _ _ _ _ wp wz hpk hb0
  have HPK := Lib.hid hpk
  have HB0 := Lib.hid hb0
  clear hpk hb0 H4
  have hxa : x0.a = (an : Int) := HX0.out.2.2.2.2.2.2.1
  have hxb : x0.b = (nb : Int) := HX0.out.2.2.1
  have hN0 : 3 + x0.b + 3 * x0.a = (N : Int) := by rw [hxa, hxb]; exact hNe
  have hb8 : 1 ≤ x0.b ∧ x0.b ≤ 8 := by rw [hxb]; omega
  have han : an ≤ 256 := by omega
  obtain ⟨s, hs⟩ : ∃ s, s = numsL x0 wp := ⟨_, rfl⟩
  have HSN : Hid (okS s ∧ s.length = an ∧ s.map fixB = s ∧ s = numsL x0 wp) := by
    rw [hs]
    exact ⟨numsL_ok HPK.out.ok x0, by rw [numsL_len, hxa]; rfl, numsL_fix _ _, rfl⟩
  have HNW : Hid (∀ u, Both w1 u bx z mb mg x0 wp false 0 bd zd bw gw x0 wsv 0 → Calls Tryz.prog 31 #[.pointer (some ⟨mb, 0, none⟩), .agg #[.int .i64 0, .int .i64 1, .int .i64 2, .int .i64 3, .int .i64 (3 + x0.b), .int .i64 (N : Int)], .int .i64 (an : Int)] u fun r w' => ∃ p c, r = .returned (.slice p an c) ∧ Hid (FlAt w' p s ∧ Below u.heap.size u w')) := fun u q => by rw [hs]; exact nows_any q.mem HPK.out.len hN0 hb8 hxa han HPK.out.ok
  have HOF : Hid (∀ u p c, FlAt u p s → Calls Tryz.prog 30 #[.slice p an c] u fun e w' => ∃ b F, e = .returned (.tuple #[.pointer (some ⟨b, 0, none⟩), .int .i64 0]) ∧ Hid (Sx.Cel 121 w' b F s ∧ Abv u.heap.size F ∧ Below u.heap.size u w')) := fun u p c q => by
    refine (ofF_any (c := c) HSN.out.2.1 q (by unfold Sx.mayN; simp; omega)).mono ?_
    rintro r w' ⟨b, F, q1, q2, q3, q4⟩
    rw [HSN.out.2.2.1] at q2
    exact ⟨b, F, q1, q2, q3, q4⟩
  obtain ⟨mE, hmE⟩ : ∃ mE, endM s x0.m = mE := ⟨_, rfl⟩
  have HRU : Hid (∀ u bs F, Below w1.heap.size w1 u → Sx.Cel 121 u bs F s → Calls Tryz.prog 32 #[cfgV an nb c e, .agg #[.int .i64 t, .slice ao n cap], .slice po k co, .pointer (some ⟨bs, 0, none⟩)] u fun r w' => ∃ R, r = .returned (.tuple #[resV R mE, .int .i64 0]) ∧ Hid (ResAt w' u.heap.size R mE ∧ Sx.Cel 121 w' bs F (aftS s mE) ∧ Turn F F u w')) := fun u bs F q1 q2 => by
    have hx := HX.out.on q1
    have hg : goodB an nb c e s.length k = true := by
      unfold goodB
      rw [HSN.out.2.1, HGD0.out.1]
      have := HGD0.out.2
      simp
      omega
    refine (_root_.Go.Proofs.YteinilmecnlanaaGreatDoor.run_any (co := co) (cap := cap) hx.at_.sh hx.at_.hn hx.at_.hk hx.at_.code hx.at_.cx hx.at_.args hx.at_.lx (by have := hx.at_.nb; omega) q2 HSN.out.1).mono ?_
    rintro r w' ⟨R, k1, k2, k3, k4⟩
    have eR : runR an nb c e t cs l s = mE := by
      unfold runR
      rw [hx.at_.hk, if_pos hg, ← hmE, HX0.out.2.2.2.2.2.2.2.1]
    rw [eR] at k1 k2 k3
    unfold runE at k1
    rw [if_pos hg] at k1
    exact ⟨R, k1, k2, k3, k4⟩
  have HME := Lib.hid hmE
  clear hmE hs
  go_upto_region 13 with fail
  obtain ⟨z0, z1, z2, z3, z4, z5, zb⟩ := HB0.out.plan
  have z5' : wz.cell? ⟨bd, 5, none⟩ = some (.int .i64 (N : Int)) := by rw [z5]; rw [hN0]
  clear z5
  obtain ⟨ra, rbl⟩ : wz.cell? ⟨W.heap.size, 0, none⟩ = some (.int .i64 (an : Int)) ∧ W.heap.size < wz.heap.size := ⟨(HRC.out _ HB0.out.below).1, (HRC.out _ HB0.out.below).2.2.2.2.2.2.2.2.2.2.2⟩
  have SB := And.intro (And.intro z0 (And.intro z1 (And.intro z2 (And.intro z3 (And.intro z4 z5'))))) ra
  have HSS : Hid (∀ u, Below wz.heap.size wz u → (u.cell? ⟨bd, 0, none⟩ = some (.int .i64 0) ∧ u.cell? ⟨bd, 1, none⟩ = some (.int .i64 1) ∧ u.cell? ⟨bd, 2, none⟩ = some (.int .i64 2) ∧ u.cell? ⟨bd, 3, none⟩ = some (.int .i64 3) ∧ u.cell? ⟨bd, 4, none⟩ = some (.int .i64 (3 + x0.b)) ∧ u.cell? ⟨bd, 5, none⟩ = some (.int .i64 (N : Int))) ∧ u.cell? ⟨W.heap.size, 0, none⟩ = some (.int .i64 (an : Int))) := fun u q => ⟨⟨(q.cell (p := ⟨bd, 0, none⟩) zb).trans z0, (q.cell (p := ⟨bd, 1, none⟩) zb).trans z1, (q.cell (p := ⟨bd, 2, none⟩) zb).trans z2, (q.cell (p := ⟨bd, 3, none⟩) zb).trans z3, (q.cell (p := ⟨bd, 4, none⟩) zb).trans z4, (q.cell (p := ⟨bd, 5, none⟩) zb).trans z5'⟩, (q.cell (p := ⟨W.heap.size, 0, none⟩) rbl).trans ra⟩
  obtain ⟨p4, hp4⟩ : ∃ p4, 3 + x0.b = p4 := ⟨_, rfl⟩
  rw [hp4] at SB HSS HNW z4
  clear hp4
  refine wp_region_seq (fun u => (u.cell? ⟨bd, 0, none⟩ = some (.int .i64 0) ∧ u.cell? ⟨bd, 1, none⟩ = some (.int .i64 1) ∧ u.cell? ⟨bd, 2, none⟩ = some (.int .i64 2) ∧ u.cell? ⟨bd, 3, none⟩ = some (.int .i64 3) ∧ u.cell? ⟨bd, 4, none⟩ = some (.int .i64 p4) ∧ u.cell? ⟨bd, 5, none⟩ = some (.int .i64 (N : Int))) ∧ u.cell? ⟨W.heap.size, 0, none⟩ = some (.int .i64 (an : Int)) )  ((0, true) :: (1, true) :: (2, true) :: (3, true) :: (4, true) :: (5, true) :: (6, true) :: (7, true) :: (8, false) :: (9, false) :: (10, true) :: (11, true) :: (12, true) :: (13, true) :: (14, true) :: [])  Md.Cv.follows13 (by kernel_rfl) (fun _ _ _ _ _ h => h)  SB ?_
  (repeat ((first | (refine wpSeq_take (v := ?_) rfl (by rfl) (fun wq hSq => ?_) ?_; rotate_left; (focus ((try dsimp only at hSq); go_simp; try with_reducible rfl))) | refine wpSeq_skip rfl (by rfl) ?_); simp only [Act.put, List.setIfInBounds_toArray, List.set_cons_zero, List.set_cons_succ]))
  (refine wpSeq_do rfl (by rfl) (fun KK hK => ?_); go_simp)
  refine (HNW.out _ (HB0.out.on ((Same.drew _).below _))).mono ?_
  rintro r uN ⟨pn, cn, rfl, q⟩
  have HBN : Hid (Below wz.heap.size wz uN) := ((Same.drew wz).below _).trans q.out.2
  have FN := Lib.hid q.out.1
  refine hK.out _ _ (HSS.out _ HBN.out) ?_
  clear q
  (clear hK KK; try simp only [Act.put, List.setIfInBounds_toArray, List.set_cons_zero, List.set_cons_succ])
  (repeat ((first | (refine wpSeq_take (v := ?_) rfl (by rfl) (fun wq hSq => ?_) ?_; rotate_left; (focus ((try dsimp only at hSq); go_simp; try with_reducible rfl))) | refine wpSeq_skip rfl (by rfl) ?_); simp only [Act.put, List.setIfInBounds_toArray, List.set_cons_zero, List.set_cons_succ]))
  (refine wpSeq_do rfl (by rfl) (fun KK hK => ?_); go_simp)
  refine (HOF.out _ _ _ FN.out).mono ?_
  rintro r u4 ⟨bs, F, rfl, q⟩
  have H4 : Hid (Sx.Cel 121 u4 bs F s ∧ Abv wz.heap.size F ∧ Below wz.heap.size wz u4) := ⟨q.out.1, fun i hi => Nat.le_trans HBN.out.size (q.out.2.1 i hi), HBN.out.trans (q.out.2.2.mono HBN.out.size)⟩
  refine hK.out _ _ (HSS.out _ H4.out.2.2) ?_
  clear q
  (clear hK KK; try simp only [Act.put, List.setIfInBounds_toArray, List.set_cons_zero, List.set_cons_succ])
  (repeat ((first | (refine wpSeq_take (v := ?_) rfl (by rfl) (fun wq hSq => ?_) ?_; rotate_left; (focus ((try dsimp only at hSq); go_simp; try with_reducible rfl))) | refine wpSeq_skip rfl (by rfl) ?_); simp only [Act.put, List.setIfInBounds_toArray, List.set_cons_zero, List.set_cons_succ]))
  refine wpSeq_nil ?_
  clear z0 z1 z2 z3 z4 z5' zb ra rbl SB HSS FN HOF HNW HBN
  have HB4 := Lib.hid (HB0.out.on H4.out.2.2)
  obtain ⟨y0, y1, y2, y3, y4, y5, y6, y7, y8, y9, y10, yb⟩ := HRC.out _ HB4.out.below
  clear y4 y8 y9 y10
  go_upto_region 17 with (go_at_call 32; refine (HRU.out _ _ _ HB4.out.below H4.out.1).mono ?_; rintro r u5 ⟨R, rfl, q⟩; have H5 := Lib.hid q.out; clear q HRU)
  obtain ⟨w6, hw6⟩ : ∃ w6, w6 = u5.alloc (.cells (resC R mE) 83) := ⟨_, rfl⟩
  have H6 : Hid (Below wz.heap.size wz w6 ∧ w6.heap[u5.heap.size]? = some (.cells (resC R mE) 83 (0, 0)) ∧ ResAt w6 wz.heap.size R mE ∧ Sx.Cel 121 w6 bs F (aftS s mE) ∧ wz.heap.size ≤ u5.heap.size) := by
    have b4 := H4.out.2.2
    have b5 : Below wz.heap.size wz u5 := b4.trans (H5.out.2.2.below H4.out.2.1 b4.size)
    rw [hw6]
    have r6 := H5.out.1.on (below_alloc u5 (.cells (resC R mE) 83))
    exact ⟨b5.alloc b5.size _, heap_alloc_new _ _, ⟨r6.out, r6.reads, r6.writes, r6.ao.mono b4.size, r6.ar.mono b4.size, r6.aw.mono b4.size⟩, H5.out.2.1.on (below_alloc _ _), b5.size⟩
  rw [← hw6]
  obtain ⟨rp, hrp⟩ : ∃ rp, u5.heap.size = rp := ⟨_, rfl⟩
  rw [hrp] at H6 ⊢
  clear hw6 hrp H5 HB4 y0 y1 y2 y3 y5 y6 y7 yb
  obtain ⟨ps, cs0, hce, hF⟩ := H6.out.2.2.2.1
  obtain ⟨Lb, hL⟩ : ∃ Lb, Lb = rp :: (F ++ (fpR R.po ++ (fpR R.pr ++ fpR R.pw))) := ⟨_, rfl⟩
  have HM : Hid (∀ i, i ∈ Lb ↔ i = rp ∨ i ∈ F ∨ i ∈ fpR R.po ∨ i ∈ fpR R.pr ∨ i ∈ fpR R.pw) := fun i => by rw [hL]; simp only [List.mem_cons, List.mem_append]
  have HLB : Hid (Blw w6 Lb ∧ ∀ i ∈ Lb, wz.heap.size ≤ i) := by
    refine ⟨fun i hi => ?_, fun i hi => ?_⟩
    · rcases (HM.out i).1 hi with q | q | q | q | q
      · rw [q]; exact lt_of_block H6.out.2.1
      · rw [hF] at q; exact hce.blw i q
      · exact H6.out.2.2.1.out.blw i q
      · exact H6.out.2.2.1.reads.blw i q
      · exact H6.out.2.2.1.writes.blw i q
    · rcases (HM.out i).1 hi with q | q | q | q | q
      · rw [q]; exact H6.out.2.2.2.2
      · exact H4.out.2.1 i q
      · exact H6.out.2.2.1.ao i q
      · exact H6.out.2.2.1.ar i q
      · exact H6.out.2.2.1.aw i q
  have HKL : Hid (∀ u, Kept Lb w6 u → u.heap[rp]? = some (.cells (resC R mE) 83 (0, 0)) ∧ FlAt u R.po mE.out ∧ TlAt u R.pr mE.reads ∧ TlAt u R.pw mE.buf ∧ Sx.Cel 121 u bs F (aftS (numsL x0 wp) mE)) := fun u q => by
    rw [← HSN.out.2.2.2]
    have K : ∀ G : List Nat, (∀ i ∈ G, i ∈ Lb) → Kept G w6 u := fun G hG => ⟨q.1, fun i hi => q.2 i (hG i hi)⟩
    refine ⟨(q.2 rp ((HM.out rp).2 (.inl rfl))).trans H6.out.2.1, (H6.out.2.2.1.out.keep (K _ fun i hi => (HM.out i).2 (.inr (.inr (.inl hi))))).fl, (H6.out.2.2.1.reads.keep (K _ fun i hi => (HM.out i).2 (.inr (.inr (.inr (.inl hi)))))).tl, (H6.out.2.2.1.writes.keep (K _ fun i hi => (HM.out i).2 (.inr (.inr (.inr (.inr hi)))))).tl, ps, cs0, ⟨(q.2 bs ((HM.out bs).2 (.inr (.inl (by rw [hF]; simp))))).trans hce.box, hce.row.keep (K _ fun i hi => (HM.out i).2 (.inr (.inl (by rw [hF]; simp [hi])))), hce.ne, hce.many⟩, hF⟩
  have HB6 : Hid (BothR w1 w6 bx z mb mg x0 wp false 0 bd zd bw gw x0 wsv 0 Lb) := HB0.out.rows H6.out.1 (fun g hg => ⟨HLB.out.2 g hg, HLB.out.1 g hg⟩)
  clear hL hce
  go_upto_block 2 with fail
  have HRC2 : Hid (∀ u, Below w1.heap.size w1 u → u.cell? ⟨W.heap.size, 0, none⟩ = some (.int .i64 (an : Int)) ∧ u.cell? ⟨W.heap.size, 1, none⟩ = some (.int .i64 (nb : Int)) ∧ u.cell? ⟨W.heap.size, 2, none⟩ = some (.int .i64 c) ∧ u.cell? ⟨W.heap.size, 3, none⟩ = some (.int .i64 e) ∧ W.heap.size < u.heap.size) := fun u q => ⟨(HRC.out u q).1, (HRC.out u q).2.1, (HRC.out u q).2.2.1, (HRC.out u q).2.2.2.1, (HRC.out u q).2.2.2.2.2.2.2.2.2.2.2⟩
  refine aloop _ (W1 := w1) (rb := W.heap.size) (bx := bx) (z := z) (mb := mb) (mg := mg) (bd := bd) (zd := zd) (bw := bw) (gw := gw) (x0 := x0) (wsv := wsv) (wp := wp) (N := N) (nb := nb) (an := an) (bs := bs) (rp := rp) (F := F) (Lb := Lb) (w6 := w6) (R := R) (mE := mE) (c := c) (e := e) HX.out.at_.sh ⟨hc1, hc2⟩ ⟨he1, he2⟩ ⟨by omega, by omega⟩ HRC2 (Lib.hid ⟨HX0.out.1, HX0.out.2.2.2.2.2.1⟩) (Lib.hid fun u q => ⟨(HRC2.out u q).1, (HRC2.out u q).2.2.2.2⟩) HKL (Lib.hid HLB.out.1) hN0 hb8 hxa han HPK.out.len HPK.out.ok (Lib.hid HX0.out.2.2.2.2.2.2.2.2.1) (Lib.hid (by rw [← HSN.out.2.2.2]; exact HME.out)) (Lib.hid ⟨by rw [HPK.out.lo.1, HPK.out.lo.2.1]; exact HS4.out, fun t h0 h1 => HPK.out.zz t h0 (by rw [HX0.out.2.2.1] at h1; exact h1)⟩) (Lib.hid ⟨x0, wp, false, 0, ⟨⟨HX0.out.2.1, HX0.out.2.2.2.2.1, AlikeY.refl _, HPK.out.ok, HPK.out.len, HX0.out.2.2.2.2.2.2.2.2.2 wp⟩, by omega⟩, by rw [HX0.out.2.2.2.1]; omega, ⟨Nat.le_refl _, fun _ _ => rfl⟩, HB6.out⟩) _ (by kernel_rfl) _ _ _ _ _ _ _ _ _ _ _ _ _ _ _ _ _ _ _ _ _ _ _ _ _ _ _ _ _ _ _ _ _ _ _ _ _ _ _ _ _ _ _ _ _ _ _ _ _ _ _ _ _ _ _ _ _ _ _ _ _ _ _ _ _ _ _ _ _ _ _ _ _ _ _ _ _ _ _ _ _ _ _ _ _ _ _ _ _ _ _ _ _ _ _ _ _ _ _ _ _ _ _ _ _ _ _ _ _ _ _ _ _ _ _ _ _ _ _ _ _ _ _ _ _ _ _ _ _ _ _ _ _ _ _ _ _ _ _ _ _ _ _ _ _ _ _ _ _ _ _ _ _ _ _ _ _ _ _ _ _ _ _ _ _ _ _ _ _ _ _ _ _ _ _ _ _ _ _ _ _ _ _ _ _ _ _ (fun _ _ _ _ _ h => h) ?_
  intro a' wz' h2 hd hz
  simp only [Exit.then]
  refine bodyPost_ret (results_tmp rfl _ _ _) hd ?_
  rw [h2]
  exact ⟨rfl, H0.out.1.trans (hz.mono H0.out.1.size)⟩
end
end Go.Proofs.YteinilmecnlanaaGreatDoor.Ww
