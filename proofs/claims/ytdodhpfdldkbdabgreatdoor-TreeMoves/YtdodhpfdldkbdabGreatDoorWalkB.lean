import Derived.Test.YtdodhpfdldkbdabGreatDoorGr
import Derived.Test.YtdodhpfdldkbdabGreatDoorWalkA
import Derived.WalkKit
import Derived.ProofKit
import Derived.OpenShut
import Derived.WalkLawsBesides
import Derived.Laws.EntriesVeiled
namespace Go.Proofs.YtdodhpfdldkbdabGreatDoor
open Go.ChangeShapes Go.WideShapes Go.ChangeAt Go.RowKit Num
attribute [local go_sem] frombits_run bits_run

end Go.Proofs.YtdodhpfdldkbdabGreatDoor
