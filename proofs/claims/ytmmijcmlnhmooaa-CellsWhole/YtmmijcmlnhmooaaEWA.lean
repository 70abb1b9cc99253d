import Derived.Test.YtmmijcmlnhmooaaEW8
import Derived.Deep.DeepCutAuto
import Derived.Deep.CutBlock
namespace Go.Proofs.Ytmmijcmlnhmooaa
open Go.ChangeShapes Go.WideShapes Go.ChangeAt Go.RowKit Num
set_option linter.unusedVariables false
set_option maxRecDepth 100000 in
set_option maxHeartbeats 4000000 in
theorem loop_two (w : World) {V : World} {bm gm bq bw pb a x y : Nat} {o : Bool} {nn : Int} {t : Wt} (HQ : Hid (Quad V w bm gm bq bw pb (wsD 0 a x y 3) o nn (rq a x y 0) t)) (D : Code) (hDD : D = (Try.f6.body.bind (findStmt 40)).getD .skip) (c0 c1 c2 c3 c4 c5 c6 c7 c8 c9 c11 c12 c13 c14 c15 c16 c17 c18 c19 c20 c21 c23 c24 c25 c26 c27 c28 c29 c30 c31 c32 c33 c34 c35 c36 c37 c38 c39 c40 c41 c42 c43 c44 c45 c46 c47 c48 c49 c50 c51 c52 c53 c54 c55 c56 c57 c58 c59 c60 c61 c62 c63 c64 c65 c66 c67 c68 c69 c70 c71 c72 c73 c74 c75 c76 c77 c78 c79 c80 c81 c82 c83 c84 c85 c86 c87 c88 c89 c90 c91 c92 c93 c94 c95 c96 c97 c98 c99 c100 c101 c102 c103 c104 c105 c106 c107 c108 c109 c110 c111 c112 c113 c114 c115 c116 c117 c118 c119 c120 c121 c122 c123 c124 c125 c126 c127 c128 c129 c130 c131 c132 c133 c134 c135 c136 c137 c138 c139 c140 c141 c142 c143 c144 c145 c146 c147 c148 c149 c150 c151 c152 c153 c154 c155 c156 c157 c158 c159 c160 c161 c162 c163 c164 c165 c166 c167 c168 c169 c170 c171 c172 c173 c174 c175 c176 c177 c178 c179 c180 c181 c182 c183 c184 c185 c186 c187 c188 c189 c190 c191 c192 c193 c194 c195 c196 c197 : Value) (Q : Exit → Act → World → Prop)
    (hK : ∀ (u2 u23 u24 u25 u164 u165 u166 u167 u168 u169 u170 u171 u172 u173 u174 u175 u176 u177 u178 u179 u180 u181 u182 u183 : Value) (w2 : World) (o2 : Bool) (n2 : Int), Quad V w2 bm gm bq bw pb (wsD 0 a x y 3) o2 n2 (rq a x y 3) t → Q .normal ⟨#[c0, c1, u2, c3, c4, c5, c6, c7, c8, c9, .pointer (some ⟨bm, 0, none⟩), c11, c12, c13, c14, c15, c16, c17, c18, c19, c20, c21, .pointer (some ⟨bq, 0, none⟩), u23, u24, u25, c26, c27, c28, c29, c30, c31, c32, c33, c34, c35, c36, c37, c38, c39, c40, c41, c42, c43, c44, c45, c46, c47, c48, c49, c50, c51, c52, c53, c54, c55, c56, c57, c58, c59, c60, c61, c62, c63, c64, c65, c66, c67, c68, c69, c70, c71, c72, c73, c74, c75, c76, c77, c78, c79, c80, c81, c82, c83, c84, c85, c86, c87, c88, c89, c90, c91, c92, c93, c94, c95, c96, c97, c98, c99, c100, c101, c102, c103, c104, c105, c106, c107, c108, c109, c110, c111, c112, c113, c114, c115, c116, c117, c118, c119, c120, c121, c122, c123, c124, c125, c126, c127, c128, c129, c130, c131, c132, c133, c134, c135, c136, c137, c138, c139, c140, c141, c142, c143, c144, c145, c146, c147, c148, c149, c150, c151, c152, c153, c154, c155, c156, c157, c158, c159, c160, c161, c162, c163, u164, u165, u166, u167, u168, u169, u170, u171, u172, u173, u174, u175, u176, u177, u178, u179, u180, u181, u182, u183, c184, c185, c186, c187, c188, c189, c190, c191, c192, c193, c194, c195, c196, c197], []⟩ w2) :
    D.wp Try.prog Q ⟨#[c0, c1, c2, c3, c4, c5, c6, c7, c8, c9, .pointer (some ⟨bm, 0, none⟩), c11, c12, c13, c14, c15, c16, c17, c18, c19, c20, c21, .pointer (some ⟨bq, 0, none⟩), c23, c24, c25, c26, c27, c28, c29, c30, c31, c32, c33, c34, c35, c36, c37, c38, c39, c40, c41, c42, c43, c44, c45, c46, c47, c48, c49, c50, c51, c52, c53, c54, c55, c56, c57, c58, c59, c60, c61, c62, c63, c64, c65, c66, c67, c68, c69, c70, c71, c72, c73, c74, c75, c76, c77, c78, c79, c80, c81, c82, c83, c84, c85, c86, c87, c88, c89, c90, c91, c92, c93, c94, c95, c96, c97, c98, c99, c100, c101, c102, c103, c104, c105, c106, c107, c108, c109, c110, c111, c112, c113, c114, c115, c116, c117, c118, c119, c120, c121, c122, c123, c124, c125, c126, c127, c128, c129, c130, c131, c132, c133, c134, c135, c136, c137, c138, c139, c140, c141, c142, c143, c144, c145, c146, c147, c148, c149, c150, c151, c152, c153, c154, c155, c156, c157, c158, c159, c160, c161, c162, c163, c164, c165, c166, c167, c168, c169, c170, c171, c172, c173, c174, c175, c176, c177, c178, c179, c180, c181, c182, c183, c184, c185, c186, c187, c188, c189, c190, c191, c192, c193, c194, c195, c196, c197], []⟩ w := by
  have HK : Hid (∀ (u2 u23 u24 u25 u164 u165 u166 u167 u168 u169 u170 u171 u172 u173 u174 u175 u176 u177 u178 u179 u180 u181 u182 u183 : Value) (w2 : World) (o2 : Bool) (n2 : Int), Quad V w2 bm gm bq bw pb (wsD 0 a x y 3) o2 n2 (rq a x y 3) t → Q .normal ⟨#[c0, c1, u2, c3, c4, c5, c6, c7, c8, c9, .pointer (some ⟨bm, 0, none⟩), c11, c12, c13, c14, c15, c16, c17, c18, c19, c20, c21, .pointer (some ⟨bq, 0, none⟩), u23, u24, u25, c26, c27, c28, c29, c30, c31, c32, c33, c34, c35, c36, c37, c38, c39, c40, c41, c42, c43, c44, c45, c46, c47, c48, c49, c50, c51, c52, c53, c54, c55, c56, c57, c58, c59, c60, c61, c62, c63, c64, c65, c66, c67, c68, c69, c70, c71, c72, c73, c74, c75, c76, c77, c78, c79, c80, c81, c82, c83, c84, c85, c86, c87, c88, c89, c90, c91, c92, c93, c94, c95, c96, c97, c98, c99, c100, c101, c102, c103, c104, c105, c106, c107, c108, c109, c110, c111, c112, c113, c114, c115, c116, c117, c118, c119, c120, c121, c122, c123, c124, c125, c126, c127, c128, c129, c130, c131, c132, c133, c134, c135, c136, c137, c138, c139, c140, c141, c142, c143, c144, c145, c146, c147, c148, c149, c150, c151, c152, c153, c154, c155, c156, c157, c158, c159, c160, c161, c162, c163, u164, u165, u166, u167, u168, u169, u170, u171, u172, u173, u174, u175, u176, u177, u178, u179, u180, u181, u182, u183, c184, c185, c186, c187, c188, c189, c190, c191, c192, c193, c194, c195, c196, c197], []⟩ w2) := hK
  clear hK
  rw [hDD]
  clear hDD
  conv => arg 2; whnf
  go_wp2
  go_loopw [23] (fun vj wv => ∃ (j : Nat), vj = .int .i64 j ∧ j ≤ 3 ∧ Hid (∃ o nn, Quad V wv bm gm bq bw pb (wsD 0 a x y 3) o nn (rq a x y j) t)) (fun vj _ => 3 - (intOf vj).toNat)
  case atStart => exact ⟨0, rfl, by omega, _, _, HQ.out⟩
  case round =>
    clear HQ
    obtain ⟨j, rfl, hj, HQ⟩ := hrel
    obtain ⟨o, nn, hq⟩ := HQ.out
    by_cases hlt : j < 3
    · have hlt' : (j : Int) < 3 := by omega
      obtain ⟨g1, g2⟩ := rq_step a x y hlt
      have HOP := Lib.hid hq.opened
      have HSR : Hid (∀ w', Quad V w' bm gm bq bw pb (wsD 0 a x y 3) true nn (rq a x y j) t → Calls Try.prog 29 #[.pointer (some ⟨bq, 0, none⟩), .pointer (some ⟨bm, 0, none⟩)] w' fun e0 w'' => e0 = .returned (.tuple #[.bool (decide (j = 2)), .int .i64 0]) ∧ Quad V w'' bm gm bq bw pb (wsD 0 a x y 3) false (up nn) (rq a x y (j + 1)) t) := fun w' h => by
        have q := h.stepR
        rw [g1, g2] at q
        exact q
      clear hq HQ HK g1 g2
      have : j = 0 ∨ j = 1 ∨ j = 2 := by omega
      rcases this with rfl | rfl | rfl
      · go_wp2_with (first
          | (go_at_call 28; refine HOP.out.mono ?_; rintro e7 w7 ⟨rfl, h⟩; have HQ7 := Lib.hid h; clear h HOP)
          | (go_at_call 29; refine (HSR.out _ HQ7.out).mono ?_; rintro e8 w8 ⟨rfl, h⟩; have HQ8 := Lib.hid h; clear h HQ7))
        exact ⟨⟨1, by first | rfl | (congr 1), by omega, _, _, HQ8.out⟩, by simp [intOf]⟩
      · go_wp2_with (first
          | (go_at_call 28; refine HOP.out.mono ?_; rintro e7 w7 ⟨rfl, h⟩; have HQ7 := Lib.hid h; clear h HOP)
          | (go_at_call 29; refine (HSR.out _ HQ7.out).mono ?_; rintro e8 w8 ⟨rfl, h⟩; have HQ8 := Lib.hid h; clear h HQ7))
        exact ⟨⟨2, by first | rfl | (congr 1), by omega, _, _, HQ8.out⟩, by simp [intOf]⟩
      · go_wp2_with (first
          | (go_at_call 28; refine HOP.out.mono ?_; rintro e7 w7 ⟨rfl, h⟩; have HQ7 := Lib.hid h; clear h HOP)
          | (go_at_call 29; refine (HSR.out _ HQ7.out).mono ?_; rintro e8 w8 ⟨rfl, h⟩; have HQ8 := Lib.hid h; clear h HQ7))
        exact ⟨⟨3, by first | rfl | (congr 1), by omega, _, _, HQ8.out⟩, by simp [intOf]⟩
    · obtain rfl : j = 3 := by omega
      have HQ3 := Lib.hid hq
      clear hq HQ
      go_wp2
      exact HK.out _ _ _ _ _ _ _ _ _ _ _ _ _ _ _ _ _ _ _ _ _ _ _ _ _ _ _ HQ3.out
end Go.Proofs.Ytmmijcmlnhmooaa
