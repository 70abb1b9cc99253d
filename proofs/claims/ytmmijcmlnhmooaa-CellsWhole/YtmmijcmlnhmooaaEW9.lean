import Derived.Test.YtmmijcmlnhmooaaEW8
import Derived.Deep.DeepCutAuto
import Derived.Deep.CutBlock
namespace Go.Proofs.Ytmmijcmlnhmooaa
open Go.ChangeShapes Go.WideShapes Go.ChangeAt Go.RowKit Num
set_option linter.unusedVariables false
set_option maxRecDepth 100000 in
set_option maxHeartbeats 4000000 in
theorem if_told (w : World) {br x n : Nat} {r : Rd} (hn : n ≤ 4) (HEN : Hid (r.n = n)) (HEY : Hid (r.y = fixB x)) (HRD : Hid (RdAt w br r)) (D : Code) (hDD : D = (Try.f6.body.bind (findStmt 35)).getD .skip) (c0 c1 c2 c3 c5 c6 c7 c8 c9 c10 c11 c12 c14 c17 c18 c19 c20 c21 c22 c23 c24 c25 c26 c27 c28 c29 c30 c31 c32 c33 c34 c35 c36 c37 c38 c39 c40 c41 c42 c43 c44 c45 c46 c47 c48 c49 c50 c51 c52 c53 c54 c55 c56 c57 c58 c59 c60 c61 c62 c63 c64 c65 c66 c67 c68 c69 c70 c71 c72 c73 c74 c75 c76 c77 c78 c79 c80 c81 c82 c83 c84 c85 c86 c87 c88 c89 c90 c91 c92 c93 c94 c95 c96 c97 c98 c99 c100 c101 c102 c103 c104 c105 c106 c107 c108 c109 c110 c111 c112 c113 c114 c115 c116 c117 c118 c119 c120 c121 c122 c123 c124 c125 c126 c127 c128 c129 c130 c131 c132 c133 c134 c135 c136 c137 c138 c139 c140 c141 c142 c143 c144 c145 c146 c147 c148 c149 c150 c151 c152 c153 c154 c155 c156 c157 c158 c159 c160 c161 c162 c163 c164 c165 c166 c167 c168 c169 c170 c171 c172 c173 c174 c175 c176 c177 c178 c179 c180 c181 c182 c183 c184 c185 c186 c187 c188 c189 c190 c191 c192 c193 c194 c195 c196 c197 : Value) (Q : Exit → Act → World → Prop)
    (hK : ∀ (u139 u140 u141 u142 u143 u144 u145 u146 u147 u148 u149 u150 u151 u152 u153 u154 u155 u156 u157 u158 : Value) , Q .normal ⟨#[c0, c1, c2, c3, .int .u64 x, c5, c6, c7, c8, c9, c10, c11, c12, .pointer (some ⟨br, 0, none⟩), c14, .bool true, .bool true, c17, c18, c19, c20, c21, c22, c23, c24, c25, c26, c27, c28, c29, c30, c31, c32, c33, c34, c35, c36, c37, c38, c39, c40, c41, c42, c43, c44, c45, c46, c47, c48, c49, c50, c51, c52, c53, c54, c55, c56, c57, c58, c59, c60, c61, c62, c63, c64, c65, c66, c67, c68, c69, c70, c71, c72, c73, c74, c75, c76, c77, c78, c79, c80, c81, c82, c83, c84, c85, c86, c87, c88, c89, c90, c91, c92, c93, c94, c95, c96, c97, c98, c99, c100, c101, c102, c103, c104, c105, c106, c107, c108, c109, c110, c111, c112, c113, c114, c115, c116, c117, c118, c119, c120, c121, c122, c123, c124, c125, c126, c127, c128, c129, c130, c131, c132, c133, c134, c135, c136, c137, c138, u139, u140, u141, u142, u143, u144, u145, u146, u147, u148, u149, u150, u151, u152, u153, u154, u155, u156, u157, u158, c159, c160, c161, c162, c163, c164, c165, c166, c167, c168, c169, c170, c171, c172, c173, c174, c175, c176, c177, c178, c179, c180, c181, c182, c183, c184, c185, c186, c187, c188, c189, c190, c191, c192, c193, c194, c195, c196, c197], []⟩ w) :
    D.wp Try.prog Q ⟨#[c0, c1, c2, c3, .int .u64 x, c5, c6, c7, c8, c9, c10, c11, c12, .pointer (some ⟨br, 0, none⟩), c14, .bool true, .bool true, c17, c18, c19, c20, c21, c22, c23, c24, c25, c26, c27, c28, c29, c30, c31, c32, c33, c34, c35, c36, c37, c38, c39, c40, c41, c42, c43, c44, c45, c46, c47, c48, c49, c50, c51, c52, c53, c54, c55, c56, c57, c58, c59, c60, c61, c62, c63, c64, c65, c66, c67, c68, c69, c70, c71, c72, c73, c74, c75, c76, c77, c78, c79, c80, c81, c82, c83, c84, c85, c86, c87, c88, c89, c90, c91, c92, c93, c94, c95, c96, c97, c98, c99, c100, c101, c102, c103, c104, c105, c106, c107, c108, c109, c110, c111, c112, c113, c114, c115, c116, c117, c118, c119, c120, c121, c122, c123, c124, c125, c126, c127, c128, c129, c130, c131, c132, c133, c134, c135, c136, c137, c138, c139, c140, c141, c142, c143, c144, c145, c146, c147, c148, c149, c150, c151, c152, c153, c154, c155, c156, c157, c158, c159, c160, c161, c162, c163, c164, c165, c166, c167, c168, c169, c170, c171, c172, c173, c174, c175, c176, c177, c178, c179, c180, c181, c182, c183, c184, c185, c186, c187, c188, c189, c190, c191, c192, c193, c194, c195, c196, c197], []⟩ w := by
  have HK : Hid (∀ (u139 u140 u141 u142 u143 u144 u145 u146 u147 u148 u149 u150 u151 u152 u153 u154 u155 u156 u157 u158 : Value) , Q .normal ⟨#[c0, c1, c2, c3, .int .u64 x, c5, c6, c7, c8, c9, c10, c11, c12, .pointer (some ⟨br, 0, none⟩), c14, .bool true, .bool true, c17, c18, c19, c20, c21, c22, c23, c24, c25, c26, c27, c28, c29, c30, c31, c32, c33, c34, c35, c36, c37, c38, c39, c40, c41, c42, c43, c44, c45, c46, c47, c48, c49, c50, c51, c52, c53, c54, c55, c56, c57, c58, c59, c60, c61, c62, c63, c64, c65, c66, c67, c68, c69, c70, c71, c72, c73, c74, c75, c76, c77, c78, c79, c80, c81, c82, c83, c84, c85, c86, c87, c88, c89, c90, c91, c92, c93, c94, c95, c96, c97, c98, c99, c100, c101, c102, c103, c104, c105, c106, c107, c108, c109, c110, c111, c112, c113, c114, c115, c116, c117, c118, c119, c120, c121, c122, c123, c124, c125, c126, c127, c128, c129, c130, c131, c132, c133, c134, c135, c136, c137, c138, u139, u140, u141, u142, u143, u144, u145, u146, u147, u148, u149, u150, u151, u152, u153, u154, u155, u156, u157, u158, c159, c160, c161, c162, c163, c164, c165, c166, c167, c168, c169, c170, c171, c172, c173, c174, c175, c176, c177, c178, c179, c180, c181, c182, c183, c184, c185, c186, c187, c188, c189, c190, c191, c192, c193, c194, c195, c196, c197], []⟩ w) := hK
  clear hK
  rw [hDD]
  clear hDD
  conv => arg 2; whnf
  have hn4 : ¬ (4 : Int) < (n : Int) := by omega
  have HSP : Hid (Calls Try.prog 31 #[.pointer (some ⟨br, 0, none⟩)] w fun e0 w'' => e0 = .returned (.int .i64 (n : Int)) ∧ w'' = w) := by
    have q := steps_any HRD.out
    rw [HEN.out] at q
    exact q
  have HVL : Hid (Calls Try.prog 32 #[.pointer (some ⟨br, 0, none⟩)] w fun e0 w'' => e0 = .returned (.float .f64 (fixB x)) ∧ w'' = w) := by
    have q := value_any HRD.out
    rw [HEY.out] at q
    exact q
  clear HEN HEY HRD
  go_wp2_with (first
    | (go_at_call 24; refine (raw_any _ _).mono ?_; rintro e7 w7 ⟨rfl, hw⟩; subst w7)
    | (go_at_call 21; refine (exact_any _ _ _).mono ?_; rintro e7 w7 ⟨rfl, hw⟩; subst w7)
    | (go_at_call 33; refine (refFix_any _ _).mono ?_; rintro e7 w7 ⟨rfl, hw⟩; subst w7)
    | (go_at_call 31; refine HSP.out.mono ?_; rintro e7 w7 ⟨rfl, hw⟩; subst w7)
    | (go_at_call 32; refine HVL.out.mono ?_; rintro e7 w7 ⟨rfl, hw⟩; subst w7))
  exact HK.out _ _ _ _ _ _ _ _ _ _ _ _ _ _ _ _ _ _ _ _
end Go.Proofs.Ytmmijcmlnhmooaa
