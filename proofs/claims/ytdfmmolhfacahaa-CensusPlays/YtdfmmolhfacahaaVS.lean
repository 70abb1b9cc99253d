import Derived.Test.YtdfmmolhfacahaaVS1
import Derived.Test.YtdfmmolhfacahaaVS2
import Derived.Test.YtdfmmolhfacahaaVS3
import Derived.Test.YtdfmmolhfacahaaVS4
import Derived.Test.YtdfmmolhfacahaaVS5
import Derived.Test.YtdfmmolhfacahaaVS6
namespace Go.Proofs.Ytdfmmolhfacahaa
open Go.ChangeShapes Go.WideShapes Go.ChangeAt Go.RowKit

section
variable {W w w' : World} {X bm gm br gr xc yc xs ys : Nat} {A : Int} {ws ws' vs vs' : List Int} {o o' p p' : Bool} {n n' k k' : Int} {c c' e e' : Cs} {s s' u u' : Ss}
theorem kstep_any (hg : Go13 W w X bm gm br gr) (K A0 B0 T V : Int) : Calls Try.prog 21 #[.pointer (some ⟨X, 0, none⟩), .agg #[.int .i64 K, .int .i64 A0, .int .i64 B0, .int .i64 T, .int .u64 V]] w fun r w' => r = .returned (.bool true) ∧ Go13 W w' X bm gm br gr := by
  obtain ⟨xc, yc, xs, ys, A, ws, o, n, c, s, hc, hs, h⟩ := hg
  by_cases h1 : K = 1
  · subst h1; exact step_open h hc hs A0 B0 T V
  by_cases h6 : K = 6
  · subst h6; exact step_come h hc hs A0 B0 T V
  by_cases h7 : K = 7
  · subst h7; exact step_coming h hc hs A0 B0 T V
  by_cases h8 : K = 8
  · subst h8; exact step_look h hc hs A0 B0 T V
  by_cases h9 : K = 9
  · subst h9; exact step_scan h hc hs A0 B0 T V
  by_cases h10 : K = 10
  · subst h10; exact step_poke h hc hs A0 B0 T V
  by_cases h11 : K = 11
  · subst h11; exact step_clone h hc hs A0 B0 T V
  exact step_none h hc hs K A0 B0 T V h1 h6 h7 h8 h9 h10 h11
end
end Go.Proofs.Ytdfmmolhfacahaa
