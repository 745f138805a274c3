/-
  No cell of these rows narrows 'for every input' (looked for: loops, veiled, ifaces, maps, wideKeys, modest, calm, conditions, laid).
  DERIVED. THE GIVEN ROWS OF THIS SEAT. 7 by the template 'for every input the law returns true; each argument reads behind the call as it read before'; 0 by the template 'total and deterministic' (their statements: YtafcajojepigiaaTotals.lean).
  GIVEN WITH THE SEED: the statements are not yours to turn. If you find one false, say at which input.
  Laid BY PROGRAM, IN A SANDBOX (cutbox-rows.mjs): the forced cells as the released guide's own fill.sh prints them over the translation b81cbd6680e7bc14… (all of the seat's roots in one cut). By AI agents, Wed Nov 11 2026. No macro, syntax, notation, axiom, sorry.
-/
import Derived.Test.YtafcajojepigiaaChecked
import GoSem.Claim
import GoSem.ClaimJoined
import GoSem.ClaimMapViews
import Derived.JoinedTies
import Derived.KernelRfl
namespace Go.Proofs.Ytafcajojepigiaa
/- THE CELL 'sum', in the pinned program and in every row, IS THE sha256 OF THE DUMP (.gsa) THAT YtafcajojepigiaaProg.lean LOADS. Nothing in Lean hashes anything: it is a label: what it is worth is what the hold of that sum in a sandbox is worth. -/
noncomputable def Try.pinned : Pinned := { name := "ytafcajojepigiaa", sum := "b81cbd6680e7bc144dece8b87adf11d0417b17e4dbc25b1d80abfc7ea9ca7000", checked := Try.checked }
namespace Rows
def none {H : Type} : Left H := { results := [], args := [] }

/-- 'corveelaw04.ShareCompares': WHATEVER THE INPUT: true; the input reads as it did. -/
def shareComparesSpec : ChangeSpec := { name := "shareCompares", fn := fun _ => fun
  | [d1, d2] => { results := [.lit (.bool true)], args := [d1, d2] }
  | _ => none }
def shareComparesRow : OpenClaim := { program := "ytafcajojepigiaa", sum := "b81cbd6680e7bc144dece8b87adf11d0417b17e4dbc25b1d80abfc7ea9ca7000", func := "corvee/corveelaw04.ShareCompares", spec := "shareCompares", unfollowed := true, recurses := true, apart := false }
def ShareComparesSaid : Prop := shareComparesRow.holds Try.pinned (OpenSpec.ofChange shareComparesSpec)

/-- ITS FALSE NEIGHBOUR: 'it returns false'. Refute it at one input. -/
def shareComparesWrong : ChangeSpec := { name := "shareCompares", fn := fun _ => fun
  | [d1, d2] => { results := [.lit (.bool false)], args := [d1, d2] }
  | _ => none }
def ShareComparesWrongFalsely : Prop := shareComparesRow.holds Try.pinned (OpenSpec.ofChange shareComparesWrong)

/-- 'corveelaw04.ShareDominates': WHATEVER THE INPUT: true; the input reads as it did. -/
def shareDominatesSpec : ChangeSpec := { name := "shareDominates", fn := fun _ => fun
  | [d1, d2] => { results := [.lit (.bool true)], args := [d1, d2] }
  | _ => none }
def shareDominatesRow : OpenClaim := { program := "ytafcajojepigiaa", sum := "b81cbd6680e7bc144dece8b87adf11d0417b17e4dbc25b1d80abfc7ea9ca7000", func := "corvee/corveelaw04.ShareDominates", spec := "shareDominates", unfollowed := true, recurses := true, apart := false }
def ShareDominatesSaid : Prop := shareDominatesRow.holds Try.pinned (OpenSpec.ofChange shareDominatesSpec)

/-- ITS FALSE NEIGHBOUR: 'it returns false'. Refute it at one input. -/
def shareDominatesWrong : ChangeSpec := { name := "shareDominates", fn := fun _ => fun
  | [d1, d2] => { results := [.lit (.bool false)], args := [d1, d2] }
  | _ => none }
def ShareDominatesWrongFalsely : Prop := shareDominatesRow.holds Try.pinned (OpenSpec.ofChange shareDominatesWrong)

/-- 'corveelaw04.ShareLowest': WHATEVER THE INPUT: true; the input reads as it did. -/
def shareLowestSpec : ChangeSpec := { name := "shareLowest", fn := fun _ => fun
  | [d] => { results := [.lit (.bool true)], args := [d] }
  | _ => none }
def shareLowestRow : OpenClaim := { program := "ytafcajojepigiaa", sum := "b81cbd6680e7bc144dece8b87adf11d0417b17e4dbc25b1d80abfc7ea9ca7000", func := "corvee/corveelaw04.ShareLowest", spec := "shareLowest", unfollowed := true, recurses := true, apart := false }
def ShareLowestSaid : Prop := shareLowestRow.holds Try.pinned (OpenSpec.ofChange shareLowestSpec)

/-- ITS FALSE NEIGHBOUR: 'it returns false'. Refute it at one input. -/
def shareLowestWrong : ChangeSpec := { name := "shareLowest", fn := fun _ => fun
  | [d] => { results := [.lit (.bool false)], args := [d] }
  | _ => none }
def ShareLowestWrongFalsely : Prop := shareLowestRow.holds Try.pinned (OpenSpec.ofChange shareLowestWrong)

/-- 'corveelaw04.ShareLadders': WHATEVER THE INPUT: true; the input reads as it did. -/
def shareLaddersSpec : ChangeSpec := { name := "shareLadders", fn := fun _ => fun
  | [d1, d2] => { results := [.lit (.bool true)], args := [d1, d2] }
  | _ => none }
def shareLaddersRow : OpenClaim := { program := "ytafcajojepigiaa", sum := "b81cbd6680e7bc144dece8b87adf11d0417b17e4dbc25b1d80abfc7ea9ca7000", func := "corvee/corveelaw04.ShareLadders", spec := "shareLadders", unfollowed := true, recurses := true, apart := false }
def ShareLaddersSaid : Prop := shareLaddersRow.holds Try.pinned (OpenSpec.ofChange shareLaddersSpec)

/-- ITS FALSE NEIGHBOUR: 'it returns false'. Refute it at one input. -/
def shareLaddersWrong : ChangeSpec := { name := "shareLadders", fn := fun _ => fun
  | [d1, d2] => { results := [.lit (.bool false)], args := [d1, d2] }
  | _ => none }
def ShareLaddersWrongFalsely : Prop := shareLaddersRow.holds Try.pinned (OpenSpec.ofChange shareLaddersWrong)

/-- 'corveelaw04.ShareLeast': WHATEVER THE INPUT: true; the input reads as it did. -/
def shareLeastSpec : ChangeSpec := { name := "shareLeast", fn := fun _ => fun
  | [d] => { results := [.lit (.bool true)], args := [d] }
  | _ => none }
def shareLeastRow : OpenClaim := { program := "ytafcajojepigiaa", sum := "b81cbd6680e7bc144dece8b87adf11d0417b17e4dbc25b1d80abfc7ea9ca7000", func := "corvee/corveelaw04.ShareLeast", spec := "shareLeast", unfollowed := true, recurses := true, apart := false }
def ShareLeastSaid : Prop := shareLeastRow.holds Try.pinned (OpenSpec.ofChange shareLeastSpec)

/-- ITS FALSE NEIGHBOUR: 'it returns false'. Refute it at one input. -/
def shareLeastWrong : ChangeSpec := { name := "shareLeast", fn := fun _ => fun
  | [d] => { results := [.lit (.bool false)], args := [d] }
  | _ => none }
def ShareLeastWrongFalsely : Prop := shareLeastRow.holds Try.pinned (OpenSpec.ofChange shareLeastWrong)

/-- 'corveelaw04.ShareOrders': WHATEVER THE INPUT: true; the input reads as it did. -/
def shareOrdersSpec : ChangeSpec := { name := "shareOrders", fn := fun _ => fun
  | [d1, d2, d3] => { results := [.lit (.bool true)], args := [d1, d2, d3] }
  | _ => none }
def shareOrdersRow : OpenClaim := { program := "ytafcajojepigiaa", sum := "b81cbd6680e7bc144dece8b87adf11d0417b17e4dbc25b1d80abfc7ea9ca7000", func := "corvee/corveelaw04.ShareOrders", spec := "shareOrders", unfollowed := true, recurses := true, apart := false }
def ShareOrdersSaid : Prop := shareOrdersRow.holds Try.pinned (OpenSpec.ofChange shareOrdersSpec)

/-- ITS FALSE NEIGHBOUR: 'it returns false'. Refute it at one input. -/
def shareOrdersWrong : ChangeSpec := { name := "shareOrders", fn := fun _ => fun
  | [d1, d2, d3] => { results := [.lit (.bool false)], args := [d1, d2, d3] }
  | _ => none }
def ShareOrdersWrongFalsely : Prop := shareOrdersRow.holds Try.pinned (OpenSpec.ofChange shareOrdersWrong)

/-- 'corveelaw04.ShareGrows': WHATEVER THE INPUT: true; the input reads as it did. -/
def shareGrowsSpec : ChangeSpec := { name := "shareGrows", fn := fun _ => fun
  | [d1, d2, d3] => { results := [.lit (.bool true)], args := [d1, d2, d3] }
  | _ => none }
def shareGrowsRow : OpenClaim := { program := "ytafcajojepigiaa", sum := "b81cbd6680e7bc144dece8b87adf11d0417b17e4dbc25b1d80abfc7ea9ca7000", func := "corvee/corveelaw04.ShareGrows", spec := "shareGrows", unfollowed := true, recurses := true, apart := false }
def ShareGrowsSaid : Prop := shareGrowsRow.holds Try.pinned (OpenSpec.ofChange shareGrowsSpec)

/-- ITS FALSE NEIGHBOUR: 'it returns false'. Refute it at one input. -/
def shareGrowsWrong : ChangeSpec := { name := "shareGrows", fn := fun _ => fun
  | [d1, d2, d3] => { results := [.lit (.bool false)], args := [d1, d2, d3] }
  | _ => none }
def ShareGrowsWrongFalsely : Prop := shareGrowsRow.holds Try.pinned (OpenSpec.ofChange shareGrowsWrong)

/- THE SECOND FORM. 'bulk': how many values and letters a reading holds, each counted each time it is reached (what is shared counts as often as it is met; a slice's spare places count too). A statement '..UptoSaid' is the law's where the arguments, and the package variables that the reading takes, are together of bulk at most 1048576: NARROWER than '..Said'. Prove '..Said' where nothing that the law and all that it calls make is longer than what came in: it says more and counts as full. Else prove '..UptoSaid'. A law counts once. -/
mutual
def uptoBulk {H : Type} : DataW H → Nat
  | .lit (.string bytes) => bytes.length + 1
  | .lit _ => 1
  | .nil => 1
  | .ptr d => uptoBulk d + 1
  | .slice elems spare => uptoBulkAll elems + uptoBulkAll spare + 1
  | .agg parts => uptoBulkAll parts + 1
  | .iface _ d => uptoBulk d + 1
  | .map entries => uptoBulkEntries entries + 1
  | .held _ => 1
def uptoBulkAll {H : Type} : List (DataW H) → Nat
  | [] => 0
  | d :: r => uptoBulk d + uptoBulkAll r
def uptoBulkEntries {H : Type} : List (Lit × DataW H) → Nat
  | [] => 0
  | x :: r => uptoBulkEntry x + uptoBulkEntries r
def uptoBulkEntry {H : Type} : Lit × DataW H → Nat
  | (.string bytes, d) => bytes.length + uptoBulk d + 1
  | (_, d) => uptoBulk d + 1
 end
def uptoSmall : (H : Type) → List (DataW H) → Bool := fun _ ds => decide (uptoBulkAll ds ≤ 1048576)
def OpenSpec.upto (s : _root_.Go.ChangeSpec) : _root_.Go.OpenSpec := { _root_.Go.OpenSpec.ofChange s with cond := some uptoSmall }

/-- 'corveelaw04.ShareCompares', WHERE WHAT IT READS IS OF BULK AT MOST 1048576: true; the input reads as it did. -/
def shareComparesUptoRow : OpenClaim := { program := "ytafcajojepigiaa", sum := "b81cbd6680e7bc144dece8b87adf11d0417b17e4dbc25b1d80abfc7ea9ca7000", func := "corvee/corveelaw04.ShareCompares", spec := "shareCompares", unfollowed := true, recurses := true, apart := false, narrowed := true }
def ShareComparesUptoSaid : Prop := shareComparesUptoRow.holds Try.pinned (OpenSpec.upto shareComparesSpec)

/-- 'corveelaw04.ShareDominates', WHERE WHAT IT READS IS OF BULK AT MOST 1048576: true; the input reads as it did. -/
def shareDominatesUptoRow : OpenClaim := { program := "ytafcajojepigiaa", sum := "b81cbd6680e7bc144dece8b87adf11d0417b17e4dbc25b1d80abfc7ea9ca7000", func := "corvee/corveelaw04.ShareDominates", spec := "shareDominates", unfollowed := true, recurses := true, apart := false, narrowed := true }
def ShareDominatesUptoSaid : Prop := shareDominatesUptoRow.holds Try.pinned (OpenSpec.upto shareDominatesSpec)

/-- 'corveelaw04.ShareLowest', WHERE WHAT IT READS IS OF BULK AT MOST 1048576: true; the input reads as it did. -/
def shareLowestUptoRow : OpenClaim := { program := "ytafcajojepigiaa", sum := "b81cbd6680e7bc144dece8b87adf11d0417b17e4dbc25b1d80abfc7ea9ca7000", func := "corvee/corveelaw04.ShareLowest", spec := "shareLowest", unfollowed := true, recurses := true, apart := false, narrowed := true }
def ShareLowestUptoSaid : Prop := shareLowestUptoRow.holds Try.pinned (OpenSpec.upto shareLowestSpec)

/-- 'corveelaw04.ShareLadders', WHERE WHAT IT READS IS OF BULK AT MOST 1048576: true; the input reads as it did. -/
def shareLaddersUptoRow : OpenClaim := { program := "ytafcajojepigiaa", sum := "b81cbd6680e7bc144dece8b87adf11d0417b17e4dbc25b1d80abfc7ea9ca7000", func := "corvee/corveelaw04.ShareLadders", spec := "shareLadders", unfollowed := true, recurses := true, apart := false, narrowed := true }
def ShareLaddersUptoSaid : Prop := shareLaddersUptoRow.holds Try.pinned (OpenSpec.upto shareLaddersSpec)

/-- 'corveelaw04.ShareLeast', WHERE WHAT IT READS IS OF BULK AT MOST 1048576: true; the input reads as it did. -/
def shareLeastUptoRow : OpenClaim := { program := "ytafcajojepigiaa", sum := "b81cbd6680e7bc144dece8b87adf11d0417b17e4dbc25b1d80abfc7ea9ca7000", func := "corvee/corveelaw04.ShareLeast", spec := "shareLeast", unfollowed := true, recurses := true, apart := false, narrowed := true }
def ShareLeastUptoSaid : Prop := shareLeastUptoRow.holds Try.pinned (OpenSpec.upto shareLeastSpec)

/-- 'corveelaw04.ShareOrders', WHERE WHAT IT READS IS OF BULK AT MOST 1048576: true; the input reads as it did. -/
def shareOrdersUptoRow : OpenClaim := { program := "ytafcajojepigiaa", sum := "b81cbd6680e7bc144dece8b87adf11d0417b17e4dbc25b1d80abfc7ea9ca7000", func := "corvee/corveelaw04.ShareOrders", spec := "shareOrders", unfollowed := true, recurses := true, apart := false, narrowed := true }
def ShareOrdersUptoSaid : Prop := shareOrdersUptoRow.holds Try.pinned (OpenSpec.upto shareOrdersSpec)

/-- 'corveelaw04.ShareGrows', WHERE WHAT IT READS IS OF BULK AT MOST 1048576: true; the input reads as it did. -/
def shareGrowsUptoRow : OpenClaim := { program := "ytafcajojepigiaa", sum := "b81cbd6680e7bc144dece8b87adf11d0417b17e4dbc25b1d80abfc7ea9ca7000", func := "corvee/corveelaw04.ShareGrows", spec := "shareGrows", unfollowed := true, recurses := true, apart := false, narrowed := true }
def ShareGrowsUptoSaid : Prop := shareGrowsUptoRow.holds Try.pinned (OpenSpec.upto shareGrowsSpec)

end Rows
end Go.Proofs.Ytafcajojepigiaa
