import Derived.Test.YtaliehikdidiaaaDoorGr
import Derived.Test.YtaliehikdidiaaaDoorWalkA
import Derived.WalkKit
import Derived.ProofKit
import Derived.OpenShut
import Derived.WalkLawsBesides
import Derived.Laws.EntriesVeiled
namespace Go.Proofs.YtaliehikdidiaaaDoor
open Go.ChangeShapes Go.WideShapes Go.ChangeAt Go.RowKit Num
attribute [local go_sem] frombits_run bits_run

end Go.Proofs.YtaliehikdidiaaaDoor
