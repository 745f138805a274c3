/-
  No cell of these rows narrows 'for every input' (looked for: loops, veiled, ifaces, maps, wideKeys, modest, calm, conditions, laid).
  DERIVED. THE GIVEN ROWS OF THIS SEAT. 4 by the template 'for every input the law returns true; each argument reads behind the call as it read before'; 0 by the template 'total and deterministic' (their statements: YtadnbhjbaicjeaaTotals.lean).
  GIVEN WITH THE SEED: the statements are not yours to turn. If you find one false, say at which input.
  Laid BY PROGRAM, IN A SANDBOX (cutbox-rows.mjs): the forced cells as the released guide's own fill.sh prints them over the translation 8057d6858c896f59… (all of the seat's roots in one cut). By AI agents, Wed Nov 11 2026. No macro, syntax, notation, axiom, sorry.
-/
import Derived.Test.YtadnbhjbaicjeaaChecked
import GoSem.Claim
import GoSem.ClaimJoined
import GoSem.ClaimMapViews
import Derived.JoinedTies
import Derived.KernelRfl
namespace Go.Proofs.Ytadnbhjbaicjeaa
/- THE CELL 'sum', in the pinned program and in every row, IS THE sha256 OF THE DUMP (.gsa) THAT YtadnbhjbaicjeaaProg.lean LOADS. Nothing in Lean hashes anything: it is a label: what it is worth is what the hold of that sum in a sandbox is worth. -/
noncomputable def Try.pinned : Pinned := { name := "ytadnbhjbaicjeaa", sum := "8057d6858c896f5990caeb603ea28e358561e8faad8ae5ba5b64d7b8603dbf79", checked := Try.checked }
namespace Rows
def none {H : Type} : Left H := { results := [], args := [] }

/-- 'corveelaw06.ProfileBack': WHATEVER THE INPUT: true; the input reads as it did. -/
def profileBackSpec : ChangeSpec := { name := "profileBack", fn := fun _ => fun
  | [d1, d2, d3] => { results := [.lit (.bool true)], args := [d1, d2, d3] }
  | _ => none }
def profileBackRow : OpenClaim := { program := "ytadnbhjbaicjeaa", sum := "8057d6858c896f5990caeb603ea28e358561e8faad8ae5ba5b64d7b8603dbf79", func := "corvee/corveelaw06.ProfileBack", spec := "profileBack", unfollowed := true, recurses := true, apart := false }
def ProfileBackSaid : Prop := profileBackRow.holds Try.pinned (OpenSpec.ofChange profileBackSpec)

/-- ITS FALSE NEIGHBOUR: 'it returns false'. Refute it at one input. -/
def profileBackWrong : ChangeSpec := { name := "profileBack", fn := fun _ => fun
  | [d1, d2, d3] => { results := [.lit (.bool false)], args := [d1, d2, d3] }
  | _ => none }
def ProfileBackWrongFalsely : Prop := profileBackRow.holds Try.pinned (OpenSpec.ofChange profileBackWrong)

/-- 'corveelaw06.ProfileEarliest': WHATEVER THE INPUT: true; the input reads as it did. -/
def profileEarliestSpec : ChangeSpec := { name := "profileEarliest", fn := fun _ => fun
  | [d1, d2, d3] => { results := [.lit (.bool true)], args := [d1, d2, d3] }
  | _ => none }
def profileEarliestRow : OpenClaim := { program := "ytadnbhjbaicjeaa", sum := "8057d6858c896f5990caeb603ea28e358561e8faad8ae5ba5b64d7b8603dbf79", func := "corvee/corveelaw06.ProfileEarliest", spec := "profileEarliest", unfollowed := true, recurses := true, apart := false }
def ProfileEarliestSaid : Prop := profileEarliestRow.holds Try.pinned (OpenSpec.ofChange profileEarliestSpec)

/-- ITS FALSE NEIGHBOUR: 'it returns false'. Refute it at one input. -/
def profileEarliestWrong : ChangeSpec := { name := "profileEarliest", fn := fun _ => fun
  | [d1, d2, d3] => { results := [.lit (.bool false)], args := [d1, d2, d3] }
  | _ => none }
def ProfileEarliestWrongFalsely : Prop := profileEarliestRow.holds Try.pinned (OpenSpec.ofChange profileEarliestWrong)

/-- 'corveelaw06.ProfileGives': WHATEVER THE INPUT: true; the input reads as it did. -/
def profileGivesSpec : ChangeSpec := { name := "profileGives", fn := fun _ => fun
  | [d1, d2, d3] => { results := [.lit (.bool true)], args := [d1, d2, d3] }
  | _ => none }
def profileGivesRow : OpenClaim := { program := "ytadnbhjbaicjeaa", sum := "8057d6858c896f5990caeb603ea28e358561e8faad8ae5ba5b64d7b8603dbf79", func := "corvee/corveelaw06.ProfileGives", spec := "profileGives", unfollowed := true, recurses := true, apart := false }
def ProfileGivesSaid : Prop := profileGivesRow.holds Try.pinned (OpenSpec.ofChange profileGivesSpec)

/-- ITS FALSE NEIGHBOUR: 'it returns false'. Refute it at one input. -/
def profileGivesWrong : ChangeSpec := { name := "profileGives", fn := fun _ => fun
  | [d1, d2, d3] => { results := [.lit (.bool false)], args := [d1, d2, d3] }
  | _ => none }
def ProfileGivesWrongFalsely : Prop := profileGivesRow.holds Try.pinned (OpenSpec.ofChange profileGivesWrong)

/-- 'corveelaw06.ProfileNone': WHATEVER THE INPUT: true; the input reads as it did. -/
def profileNoneSpec : ChangeSpec := { name := "profileNone", fn := fun _ => fun
  | [d1, d2, d3] => { results := [.lit (.bool true)], args := [d1, d2, d3] }
  | _ => none }
def profileNoneRow : OpenClaim := { program := "ytadnbhjbaicjeaa", sum := "8057d6858c896f5990caeb603ea28e358561e8faad8ae5ba5b64d7b8603dbf79", func := "corvee/corveelaw06.ProfileNone", spec := "profileNone", unfollowed := true, recurses := true, apart := false }
def ProfileNoneSaid : Prop := profileNoneRow.holds Try.pinned (OpenSpec.ofChange profileNoneSpec)

/-- ITS FALSE NEIGHBOUR: 'it returns false'. Refute it at one input. -/
def profileNoneWrong : ChangeSpec := { name := "profileNone", fn := fun _ => fun
  | [d1, d2, d3] => { results := [.lit (.bool false)], args := [d1, d2, d3] }
  | _ => none }
def ProfileNoneWrongFalsely : Prop := profileNoneRow.holds Try.pinned (OpenSpec.ofChange profileNoneWrong)

/- THE SECOND FORM. 'bulk': how many values and letters a reading holds, each counted each time it is reached (what is shared counts as often as it is met; a slice's spare places count too). A statement '..UptoSaid' is the law's where the arguments, and the package variables that the reading takes, are together of bulk at most 1048576: NARROWER than '..Said'. Prove '..Said' where nothing that the law and all that it calls make is longer than what came in: it says more and counts as full. Else prove '..UptoSaid'. A law counts once. -/
mutual
def uptoBulk {H : Type} : DataW H → Nat
  | .lit (.string bytes) => bytes.length + 1
  | .lit _ => 1
  | .nil => 1
  | .ptr d => uptoBulk d + 1
  | .slice elems spare => uptoBulkAll elems + uptoBulkAll spare + 1
  | .agg parts => uptoBulkAll parts + 1
  | .iface _ d => uptoBulk d + 1
  | .map entries => uptoBulkEntries entries + 1
  | .held _ => 1
def uptoBulkAll {H : Type} : List (DataW H) → Nat
  | [] => 0
  | d :: r => uptoBulk d + uptoBulkAll r
def uptoBulkEntries {H : Type} : List (Lit × DataW H) → Nat
  | [] => 0
  | x :: r => uptoBulkEntry x + uptoBulkEntries r
def uptoBulkEntry {H : Type} : Lit × DataW H → Nat
  | (.string bytes, d) => bytes.length + uptoBulk d + 1
  | (_, d) => uptoBulk d + 1
 end
def uptoSmall : (H : Type) → List (DataW H) → Bool := fun _ ds => decide (uptoBulkAll ds ≤ 1048576)
def OpenSpec.upto (s : _root_.Go.ChangeSpec) : _root_.Go.OpenSpec := { _root_.Go.OpenSpec.ofChange s with cond := some uptoSmall }

/-- 'corveelaw06.ProfileBack', WHERE WHAT IT READS IS OF BULK AT MOST 1048576: true; the input reads as it did. -/
def profileBackUptoRow : OpenClaim := { program := "ytadnbhjbaicjeaa", sum := "8057d6858c896f5990caeb603ea28e358561e8faad8ae5ba5b64d7b8603dbf79", func := "corvee/corveelaw06.ProfileBack", spec := "profileBack", unfollowed := true, recurses := true, apart := false, narrowed := true }
def ProfileBackUptoSaid : Prop := profileBackUptoRow.holds Try.pinned (OpenSpec.upto profileBackSpec)

/-- 'corveelaw06.ProfileEarliest', WHERE WHAT IT READS IS OF BULK AT MOST 1048576: true; the input reads as it did. -/
def profileEarliestUptoRow : OpenClaim := { program := "ytadnbhjbaicjeaa", sum := "8057d6858c896f5990caeb603ea28e358561e8faad8ae5ba5b64d7b8603dbf79", func := "corvee/corveelaw06.ProfileEarliest", spec := "profileEarliest", unfollowed := true, recurses := true, apart := false, narrowed := true }
def ProfileEarliestUptoSaid : Prop := profileEarliestUptoRow.holds Try.pinned (OpenSpec.upto profileEarliestSpec)

/-- 'corveelaw06.ProfileGives', WHERE WHAT IT READS IS OF BULK AT MOST 1048576: true; the input reads as it did. -/
def profileGivesUptoRow : OpenClaim := { program := "ytadnbhjbaicjeaa", sum := "8057d6858c896f5990caeb603ea28e358561e8faad8ae5ba5b64d7b8603dbf79", func := "corvee/corveelaw06.ProfileGives", spec := "profileGives", unfollowed := true, recurses := true, apart := false, narrowed := true }
def ProfileGivesUptoSaid : Prop := profileGivesUptoRow.holds Try.pinned (OpenSpec.upto profileGivesSpec)

/-- 'corveelaw06.ProfileNone', WHERE WHAT IT READS IS OF BULK AT MOST 1048576: true; the input reads as it did. -/
def profileNoneUptoRow : OpenClaim := { program := "ytadnbhjbaicjeaa", sum := "8057d6858c896f5990caeb603ea28e358561e8faad8ae5ba5b64d7b8603dbf79", func := "corvee/corveelaw06.ProfileNone", spec := "profileNone", unfollowed := true, recurses := true, apart := false, narrowed := true }
def ProfileNoneUptoSaid : Prop := profileNoneUptoRow.holds Try.pinned (OpenSpec.upto profileNoneSpec)

end Rows
end Go.Proofs.Ytadnbhjbaicjeaa
