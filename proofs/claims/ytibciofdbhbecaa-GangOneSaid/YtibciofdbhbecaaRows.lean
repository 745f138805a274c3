/-
  No cell of these rows narrows 'for every input' (looked for: loops, veiled, ifaces, maps, wideKeys, modest, calm, conditions, laid).
  DERIVED. THE GIVEN ROWS OF THIS SEAT. 6 by the template 'for every input the law returns true; each argument reads behind the call as it read before'; 0 by the template 'total and deterministic' (their statements: YtibciofdbhbecaaTotals.lean).
  GIVEN WITH THE SEED: the statements are not yours to turn. If you find one false, say at which input.
  Laid BY PROGRAM, IN A SANDBOX (cutbox-rows.mjs): the forced cells as the released guide's own fill.sh prints them over the translation 33e9c3d0c62c8a65… (all of the seat's roots in one cut). By AI agents, Wed Nov 11 2026. No macro, syntax, notation, axiom, sorry.
-/
import Derived.Test.YtibciofdbhbecaaChecked
import GoSem.Claim
import GoSem.ClaimJoined
import GoSem.ClaimMapViews
import Derived.JoinedTies
import Derived.KernelRfl
namespace Go.Proofs.Ytibciofdbhbecaa
/- THE CELL 'sum', in the pinned program and in every row, IS THE sha256 OF THE DUMP (.gsa) THAT YtibciofdbhbecaaProg.lean LOADS. Nothing in Lean hashes anything: it is a label: what it is worth is what the hold of that sum in a sandbox is worth. -/
noncomputable def Try.pinned : Pinned := { name := "ytibciofdbhbecaa", sum := "33e9c3d0c62c8a65c46b059f1a2174628e7d5162502fe510fb3319463491dba7", checked := Try.checked }
namespace Rows
def none {H : Type} : Left H := { results := [], args := [] }

/-- 'corveelaw07.GangPlays': WHATEVER THE INPUT: true; the input reads as it did. -/
def gangPlaysSpec : ChangeSpec := { name := "gangPlays", fn := fun _ => fun
  | [d1, d2] => { results := [.lit (.bool true)], args := [d1, d2] }
  | _ => none }
def gangPlaysRow : OpenClaim := { program := "ytibciofdbhbecaa", sum := "33e9c3d0c62c8a65c46b059f1a2174628e7d5162502fe510fb3319463491dba7", func := "corvee/corveelaw07.GangPlays", spec := "gangPlays", unfollowed := true, recurses := true, apart := false }
def GangPlaysSaid : Prop := gangPlaysRow.holds Try.pinned (OpenSpec.ofChange gangPlaysSpec)

/-- ITS FALSE NEIGHBOUR: 'it returns false'. Refute it at one input. -/
def gangPlaysWrong : ChangeSpec := { name := "gangPlays", fn := fun _ => fun
  | [d1, d2] => { results := [.lit (.bool false)], args := [d1, d2] }
  | _ => none }
def GangPlaysWrongFalsely : Prop := gangPlaysRow.holds Try.pinned (OpenSpec.ofChange gangPlaysWrong)

/-- 'corveelaw07.GangTakes': WHATEVER THE INPUT: true; the input reads as it did. -/
def gangTakesSpec : ChangeSpec := { name := "gangTakes", fn := fun _ => fun
  | [d1, d2, d3] => { results := [.lit (.bool true)], args := [d1, d2, d3] }
  | _ => none }
def gangTakesRow : OpenClaim := { program := "ytibciofdbhbecaa", sum := "33e9c3d0c62c8a65c46b059f1a2174628e7d5162502fe510fb3319463491dba7", func := "corvee/corveelaw07.GangTakes", spec := "gangTakes", unfollowed := true, recurses := true, apart := false }
def GangTakesSaid : Prop := gangTakesRow.holds Try.pinned (OpenSpec.ofChange gangTakesSpec)

/-- ITS FALSE NEIGHBOUR: 'it returns false'. Refute it at one input. -/
def gangTakesWrong : ChangeSpec := { name := "gangTakes", fn := fun _ => fun
  | [d1, d2, d3] => { results := [.lit (.bool false)], args := [d1, d2, d3] }
  | _ => none }
def GangTakesWrongFalsely : Prop := gangTakesRow.holds Try.pinned (OpenSpec.ofChange gangTakesWrong)

/-- 'corveelaw07.GangFirst': WHATEVER THE INPUT: true; the input reads as it did. -/
def gangFirstSpec : ChangeSpec := { name := "gangFirst", fn := fun _ => fun
  | [d1, d2, d3] => { results := [.lit (.bool true)], args := [d1, d2, d3] }
  | _ => none }
def gangFirstRow : OpenClaim := { program := "ytibciofdbhbecaa", sum := "33e9c3d0c62c8a65c46b059f1a2174628e7d5162502fe510fb3319463491dba7", func := "corvee/corveelaw07.GangFirst", spec := "gangFirst", unfollowed := true, recurses := true, apart := false }
def GangFirstSaid : Prop := gangFirstRow.holds Try.pinned (OpenSpec.ofChange gangFirstSpec)

/-- ITS FALSE NEIGHBOUR: 'it returns false'. Refute it at one input. -/
def gangFirstWrong : ChangeSpec := { name := "gangFirst", fn := fun _ => fun
  | [d1, d2, d3] => { results := [.lit (.bool false)], args := [d1, d2, d3] }
  | _ => none }
def GangFirstWrongFalsely : Prop := gangFirstRow.holds Try.pinned (OpenSpec.ofChange gangFirstWrong)

/-- 'corveelaw07.GangOne': WHATEVER THE INPUT: true; the input reads as it did. -/
def gangOneSpec : ChangeSpec := { name := "gangOne", fn := fun _ => fun
  | [d1, d2, d3] => { results := [.lit (.bool true)], args := [d1, d2, d3] }
  | _ => none }
def gangOneRow : OpenClaim := { program := "ytibciofdbhbecaa", sum := "33e9c3d0c62c8a65c46b059f1a2174628e7d5162502fe510fb3319463491dba7", func := "corvee/corveelaw07.GangOne", spec := "gangOne", unfollowed := true, recurses := true, apart := false }
def GangOneSaid : Prop := gangOneRow.holds Try.pinned (OpenSpec.ofChange gangOneSpec)

/-- ITS FALSE NEIGHBOUR: 'it returns false'. Refute it at one input. -/
def gangOneWrong : ChangeSpec := { name := "gangOne", fn := fun _ => fun
  | [d1, d2, d3] => { results := [.lit (.bool false)], args := [d1, d2, d3] }
  | _ => none }
def GangOneWrongFalsely : Prop := gangOneRow.holds Try.pinned (OpenSpec.ofChange gangOneWrong)

/-- 'corveelaw07.GangMore': WHATEVER THE INPUT: true; the input reads as it did. -/
def gangMoreSpec : ChangeSpec := { name := "gangMore", fn := fun _ => fun
  | [d1, d2, d3] => { results := [.lit (.bool true)], args := [d1, d2, d3] }
  | _ => none }
def gangMoreRow : OpenClaim := { program := "ytibciofdbhbecaa", sum := "33e9c3d0c62c8a65c46b059f1a2174628e7d5162502fe510fb3319463491dba7", func := "corvee/corveelaw07.GangMore", spec := "gangMore", unfollowed := true, recurses := true, apart := false }
def GangMoreSaid : Prop := gangMoreRow.holds Try.pinned (OpenSpec.ofChange gangMoreSpec)

/-- ITS FALSE NEIGHBOUR: 'it returns false'. Refute it at one input. -/
def gangMoreWrong : ChangeSpec := { name := "gangMore", fn := fun _ => fun
  | [d1, d2, d3] => { results := [.lit (.bool false)], args := [d1, d2, d3] }
  | _ => none }
def GangMoreWrongFalsely : Prop := gangMoreRow.holds Try.pinned (OpenSpec.ofChange gangMoreWrong)

/-- 'corveelaw07.GangNone': WHATEVER THE INPUT: true; the input reads as it did. -/
def gangNoneSpec : ChangeSpec := { name := "gangNone", fn := fun _ => fun
  | [d] => { results := [.lit (.bool true)], args := [d] }
  | _ => none }
def gangNoneRow : OpenClaim := { program := "ytibciofdbhbecaa", sum := "33e9c3d0c62c8a65c46b059f1a2174628e7d5162502fe510fb3319463491dba7", func := "corvee/corveelaw07.GangNone", spec := "gangNone", unfollowed := true, recurses := true, apart := false }
def GangNoneSaid : Prop := gangNoneRow.holds Try.pinned (OpenSpec.ofChange gangNoneSpec)

/-- ITS FALSE NEIGHBOUR: 'it returns false'. Refute it at one input. -/
def gangNoneWrong : ChangeSpec := { name := "gangNone", fn := fun _ => fun
  | [d] => { results := [.lit (.bool false)], args := [d] }
  | _ => none }
def GangNoneWrongFalsely : Prop := gangNoneRow.holds Try.pinned (OpenSpec.ofChange gangNoneWrong)

/- THE SECOND FORM. 'bulk': how many values and letters a reading holds, each counted each time it is reached (what is shared counts as often as it is met; a slice's spare places count too). A statement '..UptoSaid' is the law's where the arguments, and the package variables that the reading takes, are together of bulk at most 1048576: NARROWER than '..Said'. Prove '..Said' where nothing that the law and all that it calls make is longer than what came in: it says more and counts as full. Else prove '..UptoSaid'. A law counts once. -/
mutual
def uptoBulk {H : Type} : DataW H → Nat
  | .lit (.string bytes) => bytes.length + 1
  | .lit _ => 1
  | .nil => 1
  | .ptr d => uptoBulk d + 1
  | .slice elems spare => uptoBulkAll elems + uptoBulkAll spare + 1
  | .agg parts => uptoBulkAll parts + 1
  | .iface _ d => uptoBulk d + 1
  | .map entries => uptoBulkEntries entries + 1
  | .held _ => 1
def uptoBulkAll {H : Type} : List (DataW H) → Nat
  | [] => 0
  | d :: r => uptoBulk d + uptoBulkAll r
def uptoBulkEntries {H : Type} : List (Lit × DataW H) → Nat
  | [] => 0
  | x :: r => uptoBulkEntry x + uptoBulkEntries r
def uptoBulkEntry {H : Type} : Lit × DataW H → Nat
  | (.string bytes, d) => bytes.length + uptoBulk d + 1
  | (_, d) => uptoBulk d + 1
 end
def uptoSmall : (H : Type) → List (DataW H) → Bool := fun _ ds => decide (uptoBulkAll ds ≤ 1048576)
def OpenSpec.upto (s : _root_.Go.ChangeSpec) : _root_.Go.OpenSpec := { _root_.Go.OpenSpec.ofChange s with cond := some uptoSmall }

/-- 'corveelaw07.GangPlays', WHERE WHAT IT READS IS OF BULK AT MOST 1048576: true; the input reads as it did. -/
def gangPlaysUptoRow : OpenClaim := { program := "ytibciofdbhbecaa", sum := "33e9c3d0c62c8a65c46b059f1a2174628e7d5162502fe510fb3319463491dba7", func := "corvee/corveelaw07.GangPlays", spec := "gangPlays", unfollowed := true, recurses := true, apart := false, narrowed := true }
def GangPlaysUptoSaid : Prop := gangPlaysUptoRow.holds Try.pinned (OpenSpec.upto gangPlaysSpec)

/-- 'corveelaw07.GangTakes', WHERE WHAT IT READS IS OF BULK AT MOST 1048576: true; the input reads as it did. -/
def gangTakesUptoRow : OpenClaim := { program := "ytibciofdbhbecaa", sum := "33e9c3d0c62c8a65c46b059f1a2174628e7d5162502fe510fb3319463491dba7", func := "corvee/corveelaw07.GangTakes", spec := "gangTakes", unfollowed := true, recurses := true, apart := false, narrowed := true }
def GangTakesUptoSaid : Prop := gangTakesUptoRow.holds Try.pinned (OpenSpec.upto gangTakesSpec)

/-- 'corveelaw07.GangFirst', WHERE WHAT IT READS IS OF BULK AT MOST 1048576: true; the input reads as it did. -/
def gangFirstUptoRow : OpenClaim := { program := "ytibciofdbhbecaa", sum := "33e9c3d0c62c8a65c46b059f1a2174628e7d5162502fe510fb3319463491dba7", func := "corvee/corveelaw07.GangFirst", spec := "gangFirst", unfollowed := true, recurses := true, apart := false, narrowed := true }
def GangFirstUptoSaid : Prop := gangFirstUptoRow.holds Try.pinned (OpenSpec.upto gangFirstSpec)

/-- 'corveelaw07.GangOne', WHERE WHAT IT READS IS OF BULK AT MOST 1048576: true; the input reads as it did. -/
def gangOneUptoRow : OpenClaim := { program := "ytibciofdbhbecaa", sum := "33e9c3d0c62c8a65c46b059f1a2174628e7d5162502fe510fb3319463491dba7", func := "corvee/corveelaw07.GangOne", spec := "gangOne", unfollowed := true, recurses := true, apart := false, narrowed := true }
def GangOneUptoSaid : Prop := gangOneUptoRow.holds Try.pinned (OpenSpec.upto gangOneSpec)

/-- 'corveelaw07.GangMore', WHERE WHAT IT READS IS OF BULK AT MOST 1048576: true; the input reads as it did. -/
def gangMoreUptoRow : OpenClaim := { program := "ytibciofdbhbecaa", sum := "33e9c3d0c62c8a65c46b059f1a2174628e7d5162502fe510fb3319463491dba7", func := "corvee/corveelaw07.GangMore", spec := "gangMore", unfollowed := true, recurses := true, apart := false, narrowed := true }
def GangMoreUptoSaid : Prop := gangMoreUptoRow.holds Try.pinned (OpenSpec.upto gangMoreSpec)

/-- 'corveelaw07.GangNone', WHERE WHAT IT READS IS OF BULK AT MOST 1048576: true; the input reads as it did. -/
def gangNoneUptoRow : OpenClaim := { program := "ytibciofdbhbecaa", sum := "33e9c3d0c62c8a65c46b059f1a2174628e7d5162502fe510fb3319463491dba7", func := "corvee/corveelaw07.GangNone", spec := "gangNone", unfollowed := true, recurses := true, apart := false, narrowed := true }
def GangNoneUptoSaid : Prop := gangNoneUptoRow.holds Try.pinned (OpenSpec.upto gangNoneSpec)

end Rows
end Go.Proofs.Ytibciofdbhbecaa
