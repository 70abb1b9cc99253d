import Derived.Test.YthnpgbmagfhgpaaDoorGr
import Derived.Test.YthnpgbmagfhgpaaDoorWalkA
import Derived.WalkKit
import Derived.ProofKit
import Derived.OpenShut
import Derived.WalkLawsBesides
import Derived.Laws.EntriesVeiled
namespace Go.Proofs.YthnpgbmagfhgpaaDoor
open Go.ChangeShapes Go.WideShapes Go.ChangeAt Go.RowKit Num
attribute [local go_sem] frombits_run bits_run

end Go.Proofs.YthnpgbmagfhgpaaDoor
