/-
  No cell of these rows narrows 'for every input' (looked for: loops, veiled, ifaces, maps, wideKeys, modest, calm, conditions, laid).
  DERIVED. THE GIVEN ROWS OF THIS SEAT. 5 by the template 'for every input the law returns true; each argument reads behind the call as it read before'; 0 by the template 'total and deterministic' (their statements: YthkofnahimlijaaTotals.lean).
  GIVEN WITH THE SEED: the statements are not yours to turn. If you find one false, say at which input.
  Laid BY PROGRAM, IN A SANDBOX (cutbox-rows.mjs): the forced cells as the released guide's own fill.sh prints them over the translation 40cd08acc8c7b922… (all of the seat's roots in one cut). By AI agents, Wed Nov 11 2026. No macro, syntax, notation, axiom, sorry.
-/
import Derived.Test.YthkofnahimlijaaChecked
import GoSem.Claim
import GoSem.ClaimJoined
import GoSem.ClaimMapViews
import Derived.JoinedTies
import Derived.KernelRfl
namespace Go.Proofs.Ythkofnahimlijaa
/- THE CELL 'sum', in the pinned program and in every row, IS THE sha256 OF THE DUMP (.gsa) THAT YthkofnahimlijaaProg.lean LOADS. Nothing in Lean hashes anything: it is a label: what it is worth is what the hold of that sum in a sandbox is worth. -/
noncomputable def Try.pinned : Pinned := { name := "ythkofnahimlijaa", sum := "40cd08acc8c7b922fdc34579cd288a979f990aab1285cb7e3b063da52b41aa99", checked := Try.checked }
namespace Rows
def none {H : Type} : Left H := { results := [], args := [] }

/-- 'corveelaw12.PlanMay': WHATEVER THE INPUT: true; the input reads as it did. -/
def planMaySpec : ChangeSpec := { name := "planMay", fn := fun _ => fun
  | [d1, d2] => { results := [.lit (.bool true)], args := [d1, d2] }
  | _ => none }
def planMayRow : OpenClaim := { program := "ythkofnahimlijaa", sum := "40cd08acc8c7b922fdc34579cd288a979f990aab1285cb7e3b063da52b41aa99", func := "corvee/corveelaw12.PlanMay", spec := "planMay", unfollowed := true, recurses := true, apart := false }
def PlanMaySaid : Prop := planMayRow.holds Try.pinned (OpenSpec.ofChange planMaySpec)

/-- ITS FALSE NEIGHBOUR: 'it returns false'. Refute it at one input. -/
def planMayWrong : ChangeSpec := { name := "planMay", fn := fun _ => fun
  | [d1, d2] => { results := [.lit (.bool false)], args := [d1, d2] }
  | _ => none }
def PlanMayWrongFalsely : Prop := planMayRow.holds Try.pinned (OpenSpec.ofChange planMayWrong)

/-- 'corveelaw12.PlanFits': WHATEVER THE INPUT: true; the input reads as it did. -/
def planFitsSpec : ChangeSpec := { name := "planFits", fn := fun _ => fun
  | [d] => { results := [.lit (.bool true)], args := [d] }
  | _ => none }
def planFitsRow : OpenClaim := { program := "ythkofnahimlijaa", sum := "40cd08acc8c7b922fdc34579cd288a979f990aab1285cb7e3b063da52b41aa99", func := "corvee/corveelaw12.PlanFits", spec := "planFits", unfollowed := true, recurses := true, apart := false }
def PlanFitsSaid : Prop := planFitsRow.holds Try.pinned (OpenSpec.ofChange planFitsSpec)

/-- ITS FALSE NEIGHBOUR: 'it returns false'. Refute it at one input. -/
def planFitsWrong : ChangeSpec := { name := "planFits", fn := fun _ => fun
  | [d] => { results := [.lit (.bool false)], args := [d] }
  | _ => none }
def PlanFitsWrongFalsely : Prop := planFitsRow.holds Try.pinned (OpenSpec.ofChange planFitsWrong)

/-- 'corveelaw12.PlanKeeps': WHATEVER THE INPUT: true; the input reads as it did. -/
def planKeepsSpec : ChangeSpec := { name := "planKeeps", fn := fun _ => fun
  | [d1, d2] => { results := [.lit (.bool true)], args := [d1, d2] }
  | _ => none }
def planKeepsRow : OpenClaim := { program := "ythkofnahimlijaa", sum := "40cd08acc8c7b922fdc34579cd288a979f990aab1285cb7e3b063da52b41aa99", func := "corvee/corveelaw12.PlanKeeps", spec := "planKeeps", unfollowed := true, recurses := true, apart := false }
def PlanKeepsSaid : Prop := planKeepsRow.holds Try.pinned (OpenSpec.ofChange planKeepsSpec)

/-- ITS FALSE NEIGHBOUR: 'it returns false'. Refute it at one input. -/
def planKeepsWrong : ChangeSpec := { name := "planKeeps", fn := fun _ => fun
  | [d1, d2] => { results := [.lit (.bool false)], args := [d1, d2] }
  | _ => none }
def PlanKeepsWrongFalsely : Prop := planKeepsRow.holds Try.pinned (OpenSpec.ofChange planKeepsWrong)

/-- 'corveelaw12.PlanEarly': WHATEVER THE INPUT: true; the input reads as it did. -/
def planEarlySpec : ChangeSpec := { name := "planEarly", fn := fun _ => fun
  | [d] => { results := [.lit (.bool true)], args := [d] }
  | _ => none }
def planEarlyRow : OpenClaim := { program := "ythkofnahimlijaa", sum := "40cd08acc8c7b922fdc34579cd288a979f990aab1285cb7e3b063da52b41aa99", func := "corvee/corveelaw12.PlanEarly", spec := "planEarly", unfollowed := true, recurses := true, apart := false }
def PlanEarlySaid : Prop := planEarlyRow.holds Try.pinned (OpenSpec.ofChange planEarlySpec)

/-- ITS FALSE NEIGHBOUR: 'it returns false'. Refute it at one input. -/
def planEarlyWrong : ChangeSpec := { name := "planEarly", fn := fun _ => fun
  | [d] => { results := [.lit (.bool false)], args := [d] }
  | _ => none }
def PlanEarlyWrongFalsely : Prop := planEarlyRow.holds Try.pinned (OpenSpec.ofChange planEarlyWrong)

/-- 'corveelaw12.PlanDown': WHATEVER THE INPUT: true; the input reads as it did. -/
def planDownSpec : ChangeSpec := { name := "planDown", fn := fun _ => fun
  | [d1, d2] => { results := [.lit (.bool true)], args := [d1, d2] }
  | _ => none }
def planDownRow : OpenClaim := { program := "ythkofnahimlijaa", sum := "40cd08acc8c7b922fdc34579cd288a979f990aab1285cb7e3b063da52b41aa99", func := "corvee/corveelaw12.PlanDown", spec := "planDown", unfollowed := true, recurses := true, apart := false }
def PlanDownSaid : Prop := planDownRow.holds Try.pinned (OpenSpec.ofChange planDownSpec)

/-- ITS FALSE NEIGHBOUR: 'it returns false'. Refute it at one input. -/
def planDownWrong : ChangeSpec := { name := "planDown", fn := fun _ => fun
  | [d1, d2] => { results := [.lit (.bool false)], args := [d1, d2] }
  | _ => none }
def PlanDownWrongFalsely : Prop := planDownRow.holds Try.pinned (OpenSpec.ofChange planDownWrong)

/- THE SECOND FORM. 'bulk': how many values and letters a reading holds, each counted each time it is reached (what is shared counts as often as it is met; a slice's spare places count too). A statement '..UptoSaid' is the law's where the arguments, and the package variables that the reading takes, are together of bulk at most 1048576: NARROWER than '..Said'. Prove '..Said' where nothing that the law and all that it calls make is longer than what came in: it says more and counts as full. Else prove '..UptoSaid'. A law counts once. -/
mutual
def uptoBulk {H : Type} : DataW H → Nat
  | .lit (.string bytes) => bytes.length + 1
  | .lit _ => 1
  | .nil => 1
  | .ptr d => uptoBulk d + 1
  | .slice elems spare => uptoBulkAll elems + uptoBulkAll spare + 1
  | .agg parts => uptoBulkAll parts + 1
  | .iface _ d => uptoBulk d + 1
  | .map entries => uptoBulkEntries entries + 1
  | .held _ => 1
def uptoBulkAll {H : Type} : List (DataW H) → Nat
  | [] => 0
  | d :: r => uptoBulk d + uptoBulkAll r
def uptoBulkEntries {H : Type} : List (Lit × DataW H) → Nat
  | [] => 0
  | x :: r => uptoBulkEntry x + uptoBulkEntries r
def uptoBulkEntry {H : Type} : Lit × DataW H → Nat
  | (.string bytes, d) => bytes.length + uptoBulk d + 1
  | (_, d) => uptoBulk d + 1
 end
def uptoSmall : (H : Type) → List (DataW H) → Bool := fun _ ds => decide (uptoBulkAll ds ≤ 1048576)
def OpenSpec.upto (s : _root_.Go.ChangeSpec) : _root_.Go.OpenSpec := { _root_.Go.OpenSpec.ofChange s with cond := some uptoSmall }

/-- 'corveelaw12.PlanMay', WHERE WHAT IT READS IS OF BULK AT MOST 1048576: true; the input reads as it did. -/
def planMayUptoRow : OpenClaim := { program := "ythkofnahimlijaa", sum := "40cd08acc8c7b922fdc34579cd288a979f990aab1285cb7e3b063da52b41aa99", func := "corvee/corveelaw12.PlanMay", spec := "planMay", unfollowed := true, recurses := true, apart := false, narrowed := true }
def PlanMayUptoSaid : Prop := planMayUptoRow.holds Try.pinned (OpenSpec.upto planMaySpec)

/-- 'corveelaw12.PlanFits', WHERE WHAT IT READS IS OF BULK AT MOST 1048576: true; the input reads as it did. -/
def planFitsUptoRow : OpenClaim := { program := "ythkofnahimlijaa", sum := "40cd08acc8c7b922fdc34579cd288a979f990aab1285cb7e3b063da52b41aa99", func := "corvee/corveelaw12.PlanFits", spec := "planFits", unfollowed := true, recurses := true, apart := false, narrowed := true }
def PlanFitsUptoSaid : Prop := planFitsUptoRow.holds Try.pinned (OpenSpec.upto planFitsSpec)

/-- 'corveelaw12.PlanKeeps', WHERE WHAT IT READS IS OF BULK AT MOST 1048576: true; the input reads as it did. -/
def planKeepsUptoRow : OpenClaim := { program := "ythkofnahimlijaa", sum := "40cd08acc8c7b922fdc34579cd288a979f990aab1285cb7e3b063da52b41aa99", func := "corvee/corveelaw12.PlanKeeps", spec := "planKeeps", unfollowed := true, recurses := true, apart := false, narrowed := true }
def PlanKeepsUptoSaid : Prop := planKeepsUptoRow.holds Try.pinned (OpenSpec.upto planKeepsSpec)

/-- 'corveelaw12.PlanEarly', WHERE WHAT IT READS IS OF BULK AT MOST 1048576: true; the input reads as it did. -/
def planEarlyUptoRow : OpenClaim := { program := "ythkofnahimlijaa", sum := "40cd08acc8c7b922fdc34579cd288a979f990aab1285cb7e3b063da52b41aa99", func := "corvee/corveelaw12.PlanEarly", spec := "planEarly", unfollowed := true, recurses := true, apart := false, narrowed := true }
def PlanEarlyUptoSaid : Prop := planEarlyUptoRow.holds Try.pinned (OpenSpec.upto planEarlySpec)

/-- 'corveelaw12.PlanDown', WHERE WHAT IT READS IS OF BULK AT MOST 1048576: true; the input reads as it did. -/
def planDownUptoRow : OpenClaim := { program := "ythkofnahimlijaa", sum := "40cd08acc8c7b922fdc34579cd288a979f990aab1285cb7e3b063da52b41aa99", func := "corvee/corveelaw12.PlanDown", spec := "planDown", unfollowed := true, recurses := true, apart := false, narrowed := true }
def PlanDownUptoSaid : Prop := planDownUptoRow.holds Try.pinned (OpenSpec.upto planDownSpec)

end Rows
end Go.Proofs.Ythkofnahimlijaa
