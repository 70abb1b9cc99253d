import Derived.Test.YtfomenkepdeajaaWalkH
import Derived.WalkLawsBesides
import Derived.WalkKit
import Derived.ProofKit
import Derived.OpenShut
import Derived.WalkLawsBesides
namespace Go.Proofs.Ytfomenkepdeajaa.numberOrder
open Go.ChangeShapes Go.WideShapes Go.ChangeAt Go.RowKit Num
set_option linter.unusedVariables false
theorem cmpB_range (a b : Nat) : -1 ≤ cmpB a b ∧ cmpB a b ≤ 1 := by unfold cmpB; split; omega; split <;> omega
theorem cmpB_on (a b c : Nat) : (0 < cmpB a b ∨ 0 < cmpB b c ∨ cmpB a c ≤ 0) ∧ (0 ≤ cmpB a b ∨ 0 < cmpB b c ∨ cmpB a c < 0) := by
  unfold cmpB; split <;> split <;> (try split) <;> (try split) <;> (try split) <;> omega
theorem cmpB_ends {a : Nat} (ha : a < 18446744073709551616) : cmpB 18442240474082181120 a ≤ 0 ∧ cmpB a 9221120237041090561 ≤ 0 := by
  have p1 : place 18442240474082181120 = 4503599627370495 := by decide +kernel
  have p2 : place 9221120237041090561 = 18444492273895866368 := by decide +kernel
  have hr : 4503599627370495 ≤ place a ∧ place a ≤ 18444492273895866368 := by
    unfold place
    cases n : nan a
    · rw [fixB_num n]
      have h := n
      unfold nan at h
      rw [decide_eq_false_iff_not] at h
      rcases Num.shape ha with ⟨g, _, r⟩ | ⟨g, _, r⟩
      · rw [if_neg (by omega)]; omega
      · rw [if_pos g]; omega
    · rw [fixB_nan n]; decide
  unfold cmpB
  rw [p1, p2]
  constructor
  · split; omega; rw [if_neg (by omega)]; omega
  · split; omega; rw [if_neg (by omega)]; omega
theorem place_inj {a b : Nat} (ha : a < 18446744073709551616) (hb : b < 18446744073709551616) (h : place a = place b) : fixB a = fixB b := by
  have h1 := fixB_lt ha
  have h2 := fixB_lt hb
  unfold place at h
  split at h <;> split at h <;> omega
theorem cmpB_same {a b : Nat} (ha : a < 18446744073709551616) (hb : b < 18446744073709551616) : (cmpB a b == 0) = (fixB a == fixB b) := by
  rw [Bool.eq_iff_iff, beq_iff_eq, beq_iff_eq]
  constructor
  · intro h
    apply place_inj ha hb
    unfold cmpB at h
    split at h
    · omega
    · split at h
      · omega
      · omega
  · intro h
    apply cmpB_eq
    unfold place; rw [h]
theorem cmpB_values {a b : Nat} (ha : a < 18446744073709551616) (hb : b < 18446744073709551616) : (FloatKind.f64.format.order a b = some .lt ∧ cmpB a b < 0) ∨ (FloatKind.f64.format.order a b = some .gt ∧ 0 < cmpB a b) ∨ FloatKind.f64.format.order a b = none ∨ FloatKind.f64.format.order a b = some .eq := by
  rcases order_cases a b with ⟨o, _⟩ | ⟨n1, n2, ⟨o, k⟩ | ⟨o, _⟩ | ⟨o, k⟩⟩
  · exact .inr (.inr (.inl o))
  · left
    refine ⟨o, ?_⟩
    rw [cmpB_lt]
    · omega
    · rcases kinds ha with g | g | g | g | g <;> rcases kinds hb with q | q | q | q | q <;> first | omega | (rw [n1] at g; exact absurd g.1 (by decide)) | (rw [n2] at q; exact absurd q.1 (by decide))
  · exact .inr (.inr (.inr o))
  · right; left
    refine ⟨o, ?_⟩
    rw [cmpB_gt]
    · omega
    · rcases kinds ha with g | g | g | g | g <;> rcases kinds hb with q | q | q | q | q <;> first | omega | (rw [n1] at g; exact absurd g.1 (by decide)) | (rw [n2] at q; exact absurd q.1 (by decide))
theorem inf_neg (w : World) : Calls Try.prog 14 #[.int .i64 (-1)] w fun e w' => e = .returned (.float .f64 18442240474082181120) ∧ w' = w := by
  have hf := frombits_run
  go_enter Try.func14, Try.ntmps14
  go_wp2
  go_ret
  exact ⟨rfl, rfl⟩
theorem nan_std (w : World) : Calls Try.prog 31 #[] w fun e w' => e = .returned (.float .f64 9221120237041090561) ∧ w' = w := by
  have hf := frombits_run
  go_enter Try.func31, Try.ntmps31
  go_wp2
  go_ret
  exact ⟨rfl, rfl⟩

/-! a region of the law's own text, by its number -/
def findRegion (n : Nat) : Code → Option Code
  | .region i ops d => if i = n then some (.region i ops d) else none
  | .seq x y => match findRegion n x with
    | some c => some c
    | none => findRegion n y
  | .block _ c => findRegion n c
  | .scope c => findRegion n c
  | .cond _ x y => match findRegion n x with
    | some c => some c
    | none => findRegion n y
  | _ => none
set_option maxRecDepth 100000 in
set_option maxHeartbeats 4000000 in
theorem seg7 (a b c : Nat) (ha : a < 18446744073709551616) (hb : b < 18446744073709551616) (hc : c < 18446744073709551616) (C : Code) (hC : C = (Try.f8.body.bind (findRegion 7)).getD .skip) (c0 c1 c2 c3 c4 c5 c6 c9 c11 c12 c13 c14 c15 c16 c17 c18 c19 c20 c21 c22 c23 c24 c25 c26 c27 c28 c29 c30 c31 c32 c33 c34 c35 c36 c37 c38 c39 c40 c41 c42 c43 c44 c45 c46 c47 c48 c49 c50 c51 c52 c53 c54 c55 c56 c57 c58 c59 c60 c61 c62 c63 c64 c65 c66 c67 c68 c69 c70 c71 c72 c73 c74 c75 c76 c77 c78 c79 c80 c81 c82 c83 c84 c85 c86 c87 c88 c89 c90 c91 c92 c93 c94 c95 c96 c97 c98 c99 c100 c101 c102 c103 c104 c105 c106 c107 c108 c109 c110 c111 c112 c113 c114 c115 c116 c117 c118 c119 c120 c121 c122 c123 c124 c125 c126 c127 c128 c129 c130 c131 c132 c133 c134 c135 c136 c137 c138 c139 c140 c141 c142 c143 c144 c145 c146 c147 c148 c149 c150 c151 : Value) (w : World) (K : Act → World → Prop) (Q : Exit → Act → World → Prop)
    (hK : ∀ (u35 u36 u37 u38 u39 u40 u41 u42 u43 u44 u45 u46 u47 u48 : Value), K ⟨#[c0, c1, c2, c3, c4, c5, c6, .float .f64 a, .float .f64 b, c9, .int .i64 (cmpB a b), c11, c12, .bool true, c14, c15, c16, c17, c18, c19, c20, c21, c22, c23, c24, c25, c26, c27, c28, c29, c30, c31, c32, c33, c34, u35, u36, u37, u38, u39, u40, u41, u42, u43, u44, u45, u46, u47, u48, c49, c50, c51, c52, c53, c54, c55, c56, c57, c58, c59, c60, c61, c62, c63, c64, c65, c66, c67, c68, c69, c70, c71, c72, c73, c74, c75, c76, c77, c78, c79, c80, c81, c82, c83, c84, c85, c86, c87, c88, c89, c90, c91, c92, c93, c94, c95, c96, c97, c98, c99, c100, c101, c102, c103, c104, c105, c106, c107, c108, c109, c110, c111, c112, c113, c114, c115, c116, c117, c118, c119, c120, c121, c122, c123, c124, c125, c126, c127, c128, c129, c130, c131, c132, c133, c134, c135, c136, c137, c138, c139, c140, c141, c142, c143, c144, c145, c146, c147, c148, c149, c150, c151], []⟩ w) :
    C.wp Try.prog (Exit.then K Q) ⟨#[c0, c1, c2, c3, c4, c5, c6, .float .f64 a, .float .f64 b, c9, .int .i64 (cmpB a b), c11, c12, c13, c14, c15, c16, c17, c18, c19, c20, c21, c22, c23, c24, c25, c26, c27, c28, c29, c30, c31, c32, c33, c34, c35, c36, c37, c38, c39, c40, c41, c42, c43, c44, c45, c46, c47, c48, c49, c50, c51, c52, c53, c54, c55, c56, c57, c58, c59, c60, c61, c62, c63, c64, c65, c66, c67, c68, c69, c70, c71, c72, c73, c74, c75, c76, c77, c78, c79, c80, c81, c82, c83, c84, c85, c86, c87, c88, c89, c90, c91, c92, c93, c94, c95, c96, c97, c98, c99, c100, c101, c102, c103, c104, c105, c106, c107, c108, c109, c110, c111, c112, c113, c114, c115, c116, c117, c118, c119, c120, c121, c122, c123, c124, c125, c126, c127, c128, c129, c130, c131, c132, c133, c134, c135, c136, c137, c138, c139, c140, c141, c142, c143, c144, c145, c146, c147, c148, c149, c150, c151], []⟩ w := by
  have HK : Hid (∀ (u35 u36 u37 u38 u39 u40 u41 u42 u43 u44 u45 u46 u47 u48 : Value), K ⟨#[c0, c1, c2, c3, c4, c5, c6, .float .f64 a, .float .f64 b, c9, .int .i64 (cmpB a b), c11, c12, .bool true, c14, c15, c16, c17, c18, c19, c20, c21, c22, c23, c24, c25, c26, c27, c28, c29, c30, c31, c32, c33, c34, u35, u36, u37, u38, u39, u40, u41, u42, u43, u44, u45, u46, u47, u48, c49, c50, c51, c52, c53, c54, c55, c56, c57, c58, c59, c60, c61, c62, c63, c64, c65, c66, c67, c68, c69, c70, c71, c72, c73, c74, c75, c76, c77, c78, c79, c80, c81, c82, c83, c84, c85, c86, c87, c88, c89, c90, c91, c92, c93, c94, c95, c96, c97, c98, c99, c100, c101, c102, c103, c104, c105, c106, c107, c108, c109, c110, c111, c112, c113, c114, c115, c116, c117, c118, c119, c120, c121, c122, c123, c124, c125, c126, c127, c128, c129, c130, c131, c132, c133, c134, c135, c136, c137, c138, c139, c140, c141, c142, c143, c144, c145, c146, c147, c148, c149, c150, c151], []⟩ w) := hK
  clear hK
  rw [hC]
  clear hC
  conv => arg 2; whnf
  have X := cmpB_range a b
  have F := cmpB_flip a b
  go_wp2_with (go_at_call 15; refine (compare_any _ _ _ (by assumption) (by assumption)).mono ?_; rintro e w' ⟨rfl, hw⟩; subst w')
  exact HK.out _ _ _ _ _ _ _ _ _ _ _ _ _ _
set_option maxRecDepth 100000 in
set_option maxHeartbeats 4000000 in
theorem seg8 (a b c : Nat) (ha : a < 18446744073709551616) (hb : b < 18446744073709551616) (hc : c < 18446744073709551616) (C : Code) (hC : C = (Try.f8.body.bind (findRegion 8)).getD .skip) (c0 c1 c2 c3 c4 c5 c6 c7 c8 c9 c13 c14 c15 c16 c17 c18 c19 c20 c21 c22 c23 c24 c25 c26 c27 c28 c29 c30 c31 c32 c33 c34 c35 c36 c37 c38 c39 c40 c41 c42 c43 c44 c45 c46 c47 c48 c49 c50 c51 c52 c53 c54 c55 c56 c57 c58 c59 c60 c61 c62 c63 c64 c65 c66 c67 c68 c69 c70 c71 c72 c73 c74 c75 c76 c77 c78 c79 c80 c81 c82 c83 c84 c85 c86 c87 c88 c89 c90 c91 c92 c93 c94 c95 c96 c97 c98 c99 c100 c101 c102 c103 c104 c105 c106 c107 c108 c109 c110 c111 c112 c113 c114 c115 c116 c117 c118 c119 c120 c121 c122 c123 c124 c125 c126 c127 c128 c129 c130 c131 c132 c133 c134 c135 c136 c137 c138 c139 c140 c141 c142 c143 c144 c145 c146 c147 c148 c149 c150 c151 : Value) (w : World) (K : Act → World → Prop) (Q : Exit → Act → World → Prop)
    (hK : ∀ (u49 u50 u51 u52 u53 u54 u55 u56 u57 u58 : Value), K ⟨#[c0, c1, c2, c3, c4, c5, c6, c7, c8, c9, .int .i64 (cmpB a b), .int .i64 (cmpB b c), .int .i64 (cmpB a c), c13, .bool true, c15, c16, c17, c18, c19, c20, c21, c22, c23, c24, c25, c26, c27, c28, c29, c30, c31, c32, c33, c34, c35, c36, c37, c38, c39, c40, c41, c42, c43, c44, c45, c46, c47, c48, u49, u50, u51, u52, u53, u54, u55, u56, u57, u58, c59, c60, c61, c62, c63, c64, c65, c66, c67, c68, c69, c70, c71, c72, c73, c74, c75, c76, c77, c78, c79, c80, c81, c82, c83, c84, c85, c86, c87, c88, c89, c90, c91, c92, c93, c94, c95, c96, c97, c98, c99, c100, c101, c102, c103, c104, c105, c106, c107, c108, c109, c110, c111, c112, c113, c114, c115, c116, c117, c118, c119, c120, c121, c122, c123, c124, c125, c126, c127, c128, c129, c130, c131, c132, c133, c134, c135, c136, c137, c138, c139, c140, c141, c142, c143, c144, c145, c146, c147, c148, c149, c150, c151], []⟩ w) :
    C.wp Try.prog (Exit.then K Q) ⟨#[c0, c1, c2, c3, c4, c5, c6, c7, c8, c9, .int .i64 (cmpB a b), .int .i64 (cmpB b c), .int .i64 (cmpB a c), c13, c14, c15, c16, c17, c18, c19, c20, c21, c22, c23, c24, c25, c26, c27, c28, c29, c30, c31, c32, c33, c34, c35, c36, c37, c38, c39, c40, c41, c42, c43, c44, c45, c46, c47, c48, c49, c50, c51, c52, c53, c54, c55, c56, c57, c58, c59, c60, c61, c62, c63, c64, c65, c66, c67, c68, c69, c70, c71, c72, c73, c74, c75, c76, c77, c78, c79, c80, c81, c82, c83, c84, c85, c86, c87, c88, c89, c90, c91, c92, c93, c94, c95, c96, c97, c98, c99, c100, c101, c102, c103, c104, c105, c106, c107, c108, c109, c110, c111, c112, c113, c114, c115, c116, c117, c118, c119, c120, c121, c122, c123, c124, c125, c126, c127, c128, c129, c130, c131, c132, c133, c134, c135, c136, c137, c138, c139, c140, c141, c142, c143, c144, c145, c146, c147, c148, c149, c150, c151], []⟩ w := by
  have HK : Hid (∀ (u49 u50 u51 u52 u53 u54 u55 u56 u57 u58 : Value), K ⟨#[c0, c1, c2, c3, c4, c5, c6, c7, c8, c9, .int .i64 (cmpB a b), .int .i64 (cmpB b c), .int .i64 (cmpB a c), c13, .bool true, c15, c16, c17, c18, c19, c20, c21, c22, c23, c24, c25, c26, c27, c28, c29, c30, c31, c32, c33, c34, c35, c36, c37, c38, c39, c40, c41, c42, c43, c44, c45, c46, c47, c48, u49, u50, u51, u52, u53, u54, u55, u56, u57, u58, c59, c60, c61, c62, c63, c64, c65, c66, c67, c68, c69, c70, c71, c72, c73, c74, c75, c76, c77, c78, c79, c80, c81, c82, c83, c84, c85, c86, c87, c88, c89, c90, c91, c92, c93, c94, c95, c96, c97, c98, c99, c100, c101, c102, c103, c104, c105, c106, c107, c108, c109, c110, c111, c112, c113, c114, c115, c116, c117, c118, c119, c120, c121, c122, c123, c124, c125, c126, c127, c128, c129, c130, c131, c132, c133, c134, c135, c136, c137, c138, c139, c140, c141, c142, c143, c144, c145, c146, c147, c148, c149, c150, c151], []⟩ w) := hK
  clear hK
  rw [hC]
  clear hC
  conv => arg 2; whnf
  have O := (cmpB_on a b c).1
  by_cases h1 : 0 < cmpB a b
  · clear O
    go_wp2
    exact HK.out _ _ _ _ _ _ _ _ _ _
  · by_cases h2 : 0 < cmpB b c
    · clear O
      go_wp2
      exact HK.out _ _ _ _ _ _ _ _ _ _
    · have h3 : cmpB a c ≤ 0 := by omega
      clear O
      go_wp2
      exact HK.out _ _ _ _ _ _ _ _ _ _
set_option maxRecDepth 100000 in
set_option maxHeartbeats 4000000 in
theorem seg9 (a b c : Nat) (ha : a < 18446744073709551616) (hb : b < 18446744073709551616) (hc : c < 18446744073709551616) (C : Code) (hC : C = (Try.f8.body.bind (findRegion 9)).getD .skip) (c0 c1 c2 c3 c4 c5 c6 c7 c8 c9 c13 c14 c15 c16 c17 c18 c19 c20 c21 c22 c23 c24 c25 c26 c27 c28 c29 c30 c31 c32 c33 c34 c35 c36 c37 c38 c39 c40 c41 c42 c43 c44 c45 c46 c47 c48 c49 c50 c51 c52 c53 c54 c55 c56 c57 c58 c59 c60 c61 c62 c63 c64 c65 c66 c67 c68 c69 c70 c71 c72 c73 c74 c75 c76 c77 c78 c79 c80 c81 c82 c83 c84 c85 c86 c87 c88 c89 c90 c91 c92 c93 c94 c95 c96 c97 c98 c99 c100 c101 c102 c103 c104 c105 c106 c107 c108 c109 c110 c111 c112 c113 c114 c115 c116 c117 c118 c119 c120 c121 c122 c123 c124 c125 c126 c127 c128 c129 c130 c131 c132 c133 c134 c135 c136 c137 c138 c139 c140 c141 c142 c143 c144 c145 c146 c147 c148 c149 c150 c151 : Value) (w : World) (K : Act → World → Prop) (Q : Exit → Act → World → Prop)
    (hK : ∀ (u59 u60 u61 u62 u63 u64 u65 u66 u67 u68 : Value), K ⟨#[c0, c1, c2, c3, c4, c5, c6, c7, c8, c9, .int .i64 (cmpB a b), .int .i64 (cmpB b c), .int .i64 (cmpB a c), c13, c14, .bool true, c16, c17, c18, c19, c20, c21, c22, c23, c24, c25, c26, c27, c28, c29, c30, c31, c32, c33, c34, c35, c36, c37, c38, c39, c40, c41, c42, c43, c44, c45, c46, c47, c48, c49, c50, c51, c52, c53, c54, c55, c56, c57, c58, u59, u60, u61, u62, u63, u64, u65, u66, u67, u68, c69, c70, c71, c72, c73, c74, c75, c76, c77, c78, c79, c80, c81, c82, c83, c84, c85, c86, c87, c88, c89, c90, c91, c92, c93, c94, c95, c96, c97, c98, c99, c100, c101, c102, c103, c104, c105, c106, c107, c108, c109, c110, c111, c112, c113, c114, c115, c116, c117, c118, c119, c120, c121, c122, c123, c124, c125, c126, c127, c128, c129, c130, c131, c132, c133, c134, c135, c136, c137, c138, c139, c140, c141, c142, c143, c144, c145, c146, c147, c148, c149, c150, c151], []⟩ w) :
    C.wp Try.prog (Exit.then K Q) ⟨#[c0, c1, c2, c3, c4, c5, c6, c7, c8, c9, .int .i64 (cmpB a b), .int .i64 (cmpB b c), .int .i64 (cmpB a c), c13, c14, c15, c16, c17, c18, c19, c20, c21, c22, c23, c24, c25, c26, c27, c28, c29, c30, c31, c32, c33, c34, c35, c36, c37, c38, c39, c40, c41, c42, c43, c44, c45, c46, c47, c48, c49, c50, c51, c52, c53, c54, c55, c56, c57, c58, c59, c60, c61, c62, c63, c64, c65, c66, c67, c68, c69, c70, c71, c72, c73, c74, c75, c76, c77, c78, c79, c80, c81, c82, c83, c84, c85, c86, c87, c88, c89, c90, c91, c92, c93, c94, c95, c96, c97, c98, c99, c100, c101, c102, c103, c104, c105, c106, c107, c108, c109, c110, c111, c112, c113, c114, c115, c116, c117, c118, c119, c120, c121, c122, c123, c124, c125, c126, c127, c128, c129, c130, c131, c132, c133, c134, c135, c136, c137, c138, c139, c140, c141, c142, c143, c144, c145, c146, c147, c148, c149, c150, c151], []⟩ w := by
  have HK : Hid (∀ (u59 u60 u61 u62 u63 u64 u65 u66 u67 u68 : Value), K ⟨#[c0, c1, c2, c3, c4, c5, c6, c7, c8, c9, .int .i64 (cmpB a b), .int .i64 (cmpB b c), .int .i64 (cmpB a c), c13, c14, .bool true, c16, c17, c18, c19, c20, c21, c22, c23, c24, c25, c26, c27, c28, c29, c30, c31, c32, c33, c34, c35, c36, c37, c38, c39, c40, c41, c42, c43, c44, c45, c46, c47, c48, c49, c50, c51, c52, c53, c54, c55, c56, c57, c58, u59, u60, u61, u62, u63, u64, u65, u66, u67, u68, c69, c70, c71, c72, c73, c74, c75, c76, c77, c78, c79, c80, c81, c82, c83, c84, c85, c86, c87, c88, c89, c90, c91, c92, c93, c94, c95, c96, c97, c98, c99, c100, c101, c102, c103, c104, c105, c106, c107, c108, c109, c110, c111, c112, c113, c114, c115, c116, c117, c118, c119, c120, c121, c122, c123, c124, c125, c126, c127, c128, c129, c130, c131, c132, c133, c134, c135, c136, c137, c138, c139, c140, c141, c142, c143, c144, c145, c146, c147, c148, c149, c150, c151], []⟩ w) := hK
  clear hK
  rw [hC]
  clear hC
  conv => arg 2; whnf
  have O := (cmpB_on a b c).2
  by_cases h1 : 0 ≤ cmpB a b
  · clear O
    go_wp2
    exact HK.out _ _ _ _ _ _ _ _ _ _
  · by_cases h2 : 0 < cmpB b c
    · clear O
      go_wp2
      exact HK.out _ _ _ _ _ _ _ _ _ _
    · have h3 : cmpB a c < 0 := by omega
      clear O
      go_wp2
      exact HK.out _ _ _ _ _ _ _ _ _ _
set_option maxRecDepth 100000 in
set_option maxHeartbeats 4000000 in
theorem seg10 (a b c : Nat) (ha : a < 18446744073709551616) (hb : b < 18446744073709551616) (hc : c < 18446744073709551616) (C : Code) (hC : C = (Try.f8.body.bind (findRegion 10)).getD .skip) (c0 c1 c2 c3 c4 c5 c6 c8 c9 c10 c11 c12 c13 c14 c15 c16 c17 c18 c19 c20 c21 c22 c23 c24 c25 c26 c27 c28 c29 c30 c31 c32 c33 c34 c35 c36 c37 c38 c39 c40 c41 c42 c43 c44 c45 c46 c47 c48 c49 c50 c51 c52 c53 c54 c55 c56 c57 c58 c59 c60 c61 c62 c63 c64 c65 c66 c67 c68 c69 c70 c71 c72 c73 c74 c75 c76 c77 c78 c79 c80 c81 c82 c83 c84 c85 c86 c87 c88 c89 c90 c91 c92 c93 c94 c95 c96 c97 c98 c99 c100 c101 c102 c103 c104 c105 c106 c107 c108 c109 c110 c111 c112 c113 c114 c115 c116 c117 c118 c119 c120 c121 c122 c123 c124 c125 c126 c127 c128 c129 c130 c131 c132 c133 c134 c135 c136 c137 c138 c139 c140 c141 c142 c143 c144 c145 c146 c147 c148 c149 c150 c151 : Value) (w : World) (K : Act → World → Prop) (Q : Exit → Act → World → Prop)
    (hK : ∀ (u69 u70 u71 u72 u73 u74 u75 u76 u77 u78 : Value), K ⟨#[c0, c1, c2, c3, c4, c5, c6, .float .f64 a, c8, c9, c10, c11, c12, c13, c14, c15, .bool true, c17, c18, c19, c20, c21, c22, c23, c24, c25, c26, c27, c28, c29, c30, c31, c32, c33, c34, c35, c36, c37, c38, c39, c40, c41, c42, c43, c44, c45, c46, c47, c48, c49, c50, c51, c52, c53, c54, c55, c56, c57, c58, c59, c60, c61, c62, c63, c64, c65, c66, c67, c68, u69, u70, u71, u72, u73, u74, u75, u76, u77, u78, c79, c80, c81, c82, c83, c84, c85, c86, c87, c88, c89, c90, c91, c92, c93, c94, c95, c96, c97, c98, c99, c100, c101, c102, c103, c104, c105, c106, c107, c108, c109, c110, c111, c112, c113, c114, c115, c116, c117, c118, c119, c120, c121, c122, c123, c124, c125, c126, c127, c128, c129, c130, c131, c132, c133, c134, c135, c136, c137, c138, c139, c140, c141, c142, c143, c144, c145, c146, c147, c148, c149, c150, c151], []⟩ w) :
    C.wp Try.prog (Exit.then K Q) ⟨#[c0, c1, c2, c3, c4, c5, c6, .float .f64 a, c8, c9, c10, c11, c12, c13, c14, c15, c16, c17, c18, c19, c20, c21, c22, c23, c24, c25, c26, c27, c28, c29, c30, c31, c32, c33, c34, c35, c36, c37, c38, c39, c40, c41, c42, c43, c44, c45, c46, c47, c48, c49, c50, c51, c52, c53, c54, c55, c56, c57, c58, c59, c60, c61, c62, c63, c64, c65, c66, c67, c68, c69, c70, c71, c72, c73, c74, c75, c76, c77, c78, c79, c80, c81, c82, c83, c84, c85, c86, c87, c88, c89, c90, c91, c92, c93, c94, c95, c96, c97, c98, c99, c100, c101, c102, c103, c104, c105, c106, c107, c108, c109, c110, c111, c112, c113, c114, c115, c116, c117, c118, c119, c120, c121, c122, c123, c124, c125, c126, c127, c128, c129, c130, c131, c132, c133, c134, c135, c136, c137, c138, c139, c140, c141, c142, c143, c144, c145, c146, c147, c148, c149, c150, c151], []⟩ w := by
  have HK : Hid (∀ (u69 u70 u71 u72 u73 u74 u75 u76 u77 u78 : Value), K ⟨#[c0, c1, c2, c3, c4, c5, c6, .float .f64 a, c8, c9, c10, c11, c12, c13, c14, c15, .bool true, c17, c18, c19, c20, c21, c22, c23, c24, c25, c26, c27, c28, c29, c30, c31, c32, c33, c34, c35, c36, c37, c38, c39, c40, c41, c42, c43, c44, c45, c46, c47, c48, c49, c50, c51, c52, c53, c54, c55, c56, c57, c58, c59, c60, c61, c62, c63, c64, c65, c66, c67, c68, u69, u70, u71, u72, u73, u74, u75, u76, u77, u78, c79, c80, c81, c82, c83, c84, c85, c86, c87, c88, c89, c90, c91, c92, c93, c94, c95, c96, c97, c98, c99, c100, c101, c102, c103, c104, c105, c106, c107, c108, c109, c110, c111, c112, c113, c114, c115, c116, c117, c118, c119, c120, c121, c122, c123, c124, c125, c126, c127, c128, c129, c130, c131, c132, c133, c134, c135, c136, c137, c138, c139, c140, c141, c142, c143, c144, c145, c146, c147, c148, c149, c150, c151], []⟩ w) := hK
  clear hK
  rw [hC]
  clear hC
  conv => arg 2; whnf
  have hi : (9221120237041090561 : Nat) < 18446744073709551616 := by decide
  have hj : (18442240474082181120 : Nat) < 18446744073709551616 := by decide
  obtain ⟨E1, E2⟩ := cmpB_ends ha
  go_wp2_with (first | (go_at_call 15; refine (compare_any _ _ _ (by assumption) (by assumption)).mono ?_; rintro e w' ⟨rfl, hw⟩; subst w') | (go_at_call 14; refine (inf_neg _).mono ?_; rintro e w' ⟨rfl, hw⟩; subst w') | (go_at_call 31; refine (nan_std _).mono ?_; rintro e w' ⟨rfl, hw⟩; subst w'))
  exact HK.out _ _ _ _ _ _ _ _ _ _
end Go.Proofs.Ytfomenkepdeajaa.numberOrder
