/-
  No cell of these rows narrows 'for every input' (looked for: loops, veiled, ifaces, maps, wideKeys, modest, calm, conditions, laid).
  DERIVED. THE GIVEN ROWS OF THIS SEAT. 6 by the template 'for every input the law returns true; each argument reads behind the call as it read before'; 0 by the template 'total and deterministic' (their statements: YtbeijepdklchaaaTotals.lean).
  GIVEN WITH THE SEED: the statements are not yours to turn. If you find one false, say at which input.
  Laid BY PROGRAM, IN A SANDBOX (cutbox-rows.mjs): the forced cells as the released guide's own fill.sh prints them over the translation d3fe68135c64b8ff… (all of the seat's roots in one cut). By AI agents, Wed Nov 11 2026. No macro, syntax, notation, axiom, sorry.
-/
import Derived.Test.YtbeijepdklchaaaChecked
import GoSem.Claim
import GoSem.ClaimJoined
import GoSem.ClaimMapViews
import Derived.JoinedTies
import Derived.KernelRfl
namespace Go.Proofs.Ytbeijepdklchaaa
/- THE CELL 'sum', in the pinned program and in every row, IS THE sha256 OF THE DUMP (.gsa) THAT YtbeijepdklchaaaProg.lean LOADS. Nothing in Lean hashes anything: it is a label: what it is worth is what the hold of that sum in a sandbox is worth. -/
noncomputable def Try.pinned : Pinned := { name := "ytbeijepdklchaaa", sum := "d3fe68135c64b8fffced9088d0ea73236a41b4200f3bb80ba29f088832730321", checked := Try.checked }
namespace Rows
def none {H : Type} : Left H := { results := [], args := [] }

/-- 'beadlelaw03.MemNumbers': WHATEVER THE INPUT: true; the input reads as it did. -/
def memNumbersSpec : ChangeSpec := { name := "memNumbers", fn := fun _ => fun
  | [] => { results := [.lit (.bool true)], args := [] }
  | _ => none }
def memNumbersRow : OpenClaim := { program := "ytbeijepdklchaaa", sum := "d3fe68135c64b8fffced9088d0ea73236a41b4200f3bb80ba29f088832730321", func := "beadle/beadlelaw03.MemNumbers", spec := "memNumbers", apart := false }
def MemNumbersSaid : Prop := memNumbersRow.holds Try.pinned (OpenSpec.ofChange memNumbersSpec)

/-- ITS FALSE NEIGHBOUR: 'it returns false'. Refute it at one input. -/
def memNumbersWrong : ChangeSpec := { name := "memNumbers", fn := fun _ => fun
  | [] => { results := [.lit (.bool false)], args := [] }
  | _ => none }
def MemNumbersWrongFalsely : Prop := memNumbersRow.holds Try.pinned (OpenSpec.ofChange memNumbersWrong)

/-- 'beadlelaw03.MemPlays': WHATEVER THE INPUT: true; the input reads as it did. -/
def memPlaysSpec : ChangeSpec := { name := "memPlays", fn := fun _ => fun
  | [d1, d2] => { results := [.lit (.bool true)], args := [d1, d2] }
  | _ => none }
def memPlaysRow : OpenClaim := { program := "ytbeijepdklchaaa", sum := "d3fe68135c64b8fffced9088d0ea73236a41b4200f3bb80ba29f088832730321", func := "beadle/beadlelaw03.MemPlays", spec := "memPlays", unfollowed := true, recurses := true, apart := false }
def MemPlaysSaid : Prop := memPlaysRow.holds Try.pinned (OpenSpec.ofChange memPlaysSpec)

/-- ITS FALSE NEIGHBOUR: 'it returns false'. Refute it at one input. -/
def memPlaysWrong : ChangeSpec := { name := "memPlays", fn := fun _ => fun
  | [d1, d2] => { results := [.lit (.bool false)], args := [d1, d2] }
  | _ => none }
def MemPlaysWrongFalsely : Prop := memPlaysRow.holds Try.pinned (OpenSpec.ofChange memPlaysWrong)

/-- 'beadlelaw03.MemPlaces': WHATEVER THE INPUT: true; the input reads as it did. -/
def memPlacesSpec : ChangeSpec := { name := "memPlaces", fn := fun _ => fun
  | [d] => { results := [.lit (.bool true)], args := [d] }
  | _ => none }
def memPlacesRow : OpenClaim := { program := "ytbeijepdklchaaa", sum := "d3fe68135c64b8fffced9088d0ea73236a41b4200f3bb80ba29f088832730321", func := "beadle/beadlelaw03.MemPlaces", spec := "memPlaces", unfollowed := true, recurses := true, apart := false }
def MemPlacesSaid : Prop := memPlacesRow.holds Try.pinned (OpenSpec.ofChange memPlacesSpec)

/-- ITS FALSE NEIGHBOUR: 'it returns false'. Refute it at one input. -/
def memPlacesWrong : ChangeSpec := { name := "memPlaces", fn := fun _ => fun
  | [d] => { results := [.lit (.bool false)], args := [d] }
  | _ => none }
def MemPlacesWrongFalsely : Prop := memPlacesRow.holds Try.pinned (OpenSpec.ofChange memPlacesWrong)

/-- 'beadlelaw03.MemDeals': WHATEVER THE INPUT: true; the input reads as it did. -/
def memDealsSpec : ChangeSpec := { name := "memDeals", fn := fun _ => fun
  | [d] => { results := [.lit (.bool true)], args := [d] }
  | _ => none }
def memDealsRow : OpenClaim := { program := "ytbeijepdklchaaa", sum := "d3fe68135c64b8fffced9088d0ea73236a41b4200f3bb80ba29f088832730321", func := "beadle/beadlelaw03.MemDeals", spec := "memDeals", unfollowed := true, recurses := true, apart := false }
def MemDealsSaid : Prop := memDealsRow.holds Try.pinned (OpenSpec.ofChange memDealsSpec)

/-- ITS FALSE NEIGHBOUR: 'it returns false'. Refute it at one input. -/
def memDealsWrong : ChangeSpec := { name := "memDeals", fn := fun _ => fun
  | [d] => { results := [.lit (.bool false)], args := [d] }
  | _ => none }
def MemDealsWrongFalsely : Prop := memDealsRow.holds Try.pinned (OpenSpec.ofChange memDealsWrong)

/-- 'beadlelaw03.MemOne': WHATEVER THE INPUT: true; the input reads as it did. -/
def memOneSpec : ChangeSpec := { name := "memOne", fn := fun _ => fun
  | [d1, d2] => { results := [.lit (.bool true)], args := [d1, d2] }
  | _ => none }
def memOneRow : OpenClaim := { program := "ytbeijepdklchaaa", sum := "d3fe68135c64b8fffced9088d0ea73236a41b4200f3bb80ba29f088832730321", func := "beadle/beadlelaw03.MemOne", spec := "memOne", unfollowed := true, recurses := true, apart := false }
def MemOneSaid : Prop := memOneRow.holds Try.pinned (OpenSpec.ofChange memOneSpec)

/-- ITS FALSE NEIGHBOUR: 'it returns false'. Refute it at one input. -/
def memOneWrong : ChangeSpec := { name := "memOne", fn := fun _ => fun
  | [d1, d2] => { results := [.lit (.bool false)], args := [d1, d2] }
  | _ => none }
def MemOneWrongFalsely : Prop := memOneRow.holds Try.pinned (OpenSpec.ofChange memOneWrong)

/-- 'beadlelaw03.MemFresh': WHATEVER THE INPUT: true; the input reads as it did. -/
def memFreshSpec : ChangeSpec := { name := "memFresh", fn := fun _ => fun
  | [d1, d2] => { results := [.lit (.bool true)], args := [d1, d2] }
  | _ => none }
def memFreshRow : OpenClaim := { program := "ytbeijepdklchaaa", sum := "d3fe68135c64b8fffced9088d0ea73236a41b4200f3bb80ba29f088832730321", func := "beadle/beadlelaw03.MemFresh", spec := "memFresh", unfollowed := true, recurses := true, apart := false }
def MemFreshSaid : Prop := memFreshRow.holds Try.pinned (OpenSpec.ofChange memFreshSpec)

/-- ITS FALSE NEIGHBOUR: 'it returns false'. Refute it at one input. -/
def memFreshWrong : ChangeSpec := { name := "memFresh", fn := fun _ => fun
  | [d1, d2] => { results := [.lit (.bool false)], args := [d1, d2] }
  | _ => none }
def MemFreshWrongFalsely : Prop := memFreshRow.holds Try.pinned (OpenSpec.ofChange memFreshWrong)

/- THE SECOND FORM. 'bulk': how many values and letters a reading holds, each counted each time it is reached (what is shared counts as often as it is met; a slice's spare places count too). A statement '..UptoSaid' is the law's where the arguments, and the package variables that the reading takes, are together of bulk at most 1048576: NARROWER than '..Said'. Prove '..Said' where nothing that the law and all that it calls make is longer than what came in: it says more and counts as full. Else prove '..UptoSaid'. A law counts once. -/
mutual
def uptoBulk {H : Type} : DataW H → Nat
  | .lit (.string bytes) => bytes.length + 1
  | .lit _ => 1
  | .nil => 1
  | .ptr d => uptoBulk d + 1
  | .slice elems spare => uptoBulkAll elems + uptoBulkAll spare + 1
  | .agg parts => uptoBulkAll parts + 1
  | .iface _ d => uptoBulk d + 1
  | .map entries => uptoBulkEntries entries + 1
  | .held _ => 1
def uptoBulkAll {H : Type} : List (DataW H) → Nat
  | [] => 0
  | d :: r => uptoBulk d + uptoBulkAll r
def uptoBulkEntries {H : Type} : List (Lit × DataW H) → Nat
  | [] => 0
  | x :: r => uptoBulkEntry x + uptoBulkEntries r
def uptoBulkEntry {H : Type} : Lit × DataW H → Nat
  | (.string bytes, d) => bytes.length + uptoBulk d + 1
  | (_, d) => uptoBulk d + 1
 end
def uptoSmall : (H : Type) → List (DataW H) → Bool := fun _ ds => decide (uptoBulkAll ds ≤ 1048576)
def OpenSpec.upto (s : _root_.Go.ChangeSpec) : _root_.Go.OpenSpec := { _root_.Go.OpenSpec.ofChange s with cond := some uptoSmall }

/-- 'beadlelaw03.MemNumbers', WHERE WHAT IT READS IS OF BULK AT MOST 1048576: true; the input reads as it did. -/
def memNumbersUptoRow : OpenClaim := { program := "ytbeijepdklchaaa", sum := "d3fe68135c64b8fffced9088d0ea73236a41b4200f3bb80ba29f088832730321", func := "beadle/beadlelaw03.MemNumbers", spec := "memNumbers", apart := false, narrowed := true }
def MemNumbersUptoSaid : Prop := memNumbersUptoRow.holds Try.pinned (OpenSpec.upto memNumbersSpec)

/-- 'beadlelaw03.MemPlays', WHERE WHAT IT READS IS OF BULK AT MOST 1048576: true; the input reads as it did. -/
def memPlaysUptoRow : OpenClaim := { program := "ytbeijepdklchaaa", sum := "d3fe68135c64b8fffced9088d0ea73236a41b4200f3bb80ba29f088832730321", func := "beadle/beadlelaw03.MemPlays", spec := "memPlays", unfollowed := true, recurses := true, apart := false, narrowed := true }
def MemPlaysUptoSaid : Prop := memPlaysUptoRow.holds Try.pinned (OpenSpec.upto memPlaysSpec)

/-- 'beadlelaw03.MemPlaces', WHERE WHAT IT READS IS OF BULK AT MOST 1048576: true; the input reads as it did. -/
def memPlacesUptoRow : OpenClaim := { program := "ytbeijepdklchaaa", sum := "d3fe68135c64b8fffced9088d0ea73236a41b4200f3bb80ba29f088832730321", func := "beadle/beadlelaw03.MemPlaces", spec := "memPlaces", unfollowed := true, recurses := true, apart := false, narrowed := true }
def MemPlacesUptoSaid : Prop := memPlacesUptoRow.holds Try.pinned (OpenSpec.upto memPlacesSpec)

/-- 'beadlelaw03.MemDeals', WHERE WHAT IT READS IS OF BULK AT MOST 1048576: true; the input reads as it did. -/
def memDealsUptoRow : OpenClaim := { program := "ytbeijepdklchaaa", sum := "d3fe68135c64b8fffced9088d0ea73236a41b4200f3bb80ba29f088832730321", func := "beadle/beadlelaw03.MemDeals", spec := "memDeals", unfollowed := true, recurses := true, apart := false, narrowed := true }
def MemDealsUptoSaid : Prop := memDealsUptoRow.holds Try.pinned (OpenSpec.upto memDealsSpec)

/-- 'beadlelaw03.MemOne', WHERE WHAT IT READS IS OF BULK AT MOST 1048576: true; the input reads as it did. -/
def memOneUptoRow : OpenClaim := { program := "ytbeijepdklchaaa", sum := "d3fe68135c64b8fffced9088d0ea73236a41b4200f3bb80ba29f088832730321", func := "beadle/beadlelaw03.MemOne", spec := "memOne", unfollowed := true, recurses := true, apart := false, narrowed := true }
def MemOneUptoSaid : Prop := memOneUptoRow.holds Try.pinned (OpenSpec.upto memOneSpec)

/-- 'beadlelaw03.MemFresh', WHERE WHAT IT READS IS OF BULK AT MOST 1048576: true; the input reads as it did. -/
def memFreshUptoRow : OpenClaim := { program := "ytbeijepdklchaaa", sum := "d3fe68135c64b8fffced9088d0ea73236a41b4200f3bb80ba29f088832730321", func := "beadle/beadlelaw03.MemFresh", spec := "memFresh", unfollowed := true, recurses := true, apart := false, narrowed := true }
def MemFreshUptoSaid : Prop := memFreshUptoRow.holds Try.pinned (OpenSpec.upto memFreshSpec)

end Rows
end Go.Proofs.Ytbeijepdklchaaa
