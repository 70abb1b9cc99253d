import Derived.Test.YtdfmmolhfacahaaM2
import Derived.Deep.QuietTactic
import Derived.BigQuiet
namespace Go.Proofs.Ytdfmmolhfacahaa
open Go.ChangeShapes Go.WideShapes Go.ChangeAt Go.RowKit

set_option maxRecDepth 100000 in
set_option maxHeartbeats 1000000 in
theorem loadAct_any (w : World) (pm pa pt b g k n : Nat) (x : Int) (u : Value) (h0 : w.cell? ⟨pm, 0, none⟩ = some (.pointer (some ⟨b, 0, none⟩))) (h1 : w.cell? ⟨pa, 0, none⟩ = some (.int .i64 k)) (h2 : w.cell? ⟨b, 0, none⟩ = some (.slice (some ⟨g, 0, none⟩) n n)) (h3 : w.cell? ⟨g, k, none⟩ = some (.int .u64 x)) (hk : (k : Int) < (n : Int)) (h4 : w.cell? ⟨pt, 0, none⟩ = some u) (h5 : w.frozen? ⟨pt, 0, none⟩ = false) :
    Calls Try.prog 75 #[.pointer (some ⟨pm, 0, none⟩), .pointer (some ⟨pa, 0, none⟩), .pointer (some ⟨pt, 0, none⟩)] w fun e w' => e = .returned (.tuple #[]) ∧ w' = (w.setCell ⟨pt, 0, none⟩ (.int .u64 x)).drew := by
  go_enter Try.func75, Try.ntmps75
  go_wp2
  go_region
  all_goals (try go_wp2)
  all_goals go_end0
  all_goals exact ⟨rfl, rfl⟩
set_option maxRecDepth 100000 in
set_option maxHeartbeats 1000000 in
theorem storeAct_any (w : World) (pm pa pv b g k n : Nat) (x v : Int) (h0 : w.cell? ⟨pm, 0, none⟩ = some (.pointer (some ⟨b, 0, none⟩))) (h1 : w.cell? ⟨pa, 0, none⟩ = some (.int .i64 k)) (h2 : w.cell? ⟨b, 0, none⟩ = some (.slice (some ⟨g, 0, none⟩) n n)) (h3 : w.cell? ⟨g, k, none⟩ = some (.int .u64 x)) (hk : (k : Int) < (n : Int)) (h4 : w.cell? ⟨pv, 0, none⟩ = some (.int .u64 v)) (h5 : w.frozen? ⟨g, k, none⟩ = false) :
    Calls Try.prog 62 #[.pointer (some ⟨pv, 0, none⟩), .pointer (some ⟨pm, 0, none⟩), .pointer (some ⟨pa, 0, none⟩)] w fun e w' => e = .returned (.tuple #[]) ∧ w' = (w.setCell ⟨g, k, none⟩ (.int .u64 v)).drew := by
  go_enter Try.func62, Try.ntmps62
  go_wp2
  go_region
  all_goals (try go_wp2)
  all_goals go_end0
  all_goals exact ⟨rfl, rfl⟩
end Go.Proofs.Ytdfmmolhfacahaa
