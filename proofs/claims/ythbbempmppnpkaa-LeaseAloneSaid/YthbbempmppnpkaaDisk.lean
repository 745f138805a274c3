/- The disk's New, Claim, Swap at any disk that holds a claim alone. Condition: the disk stands in memory. -/
import Derived.Test.YthbbempmppnpkaaProg
import Derived.Test.YthbbempmppnpkaaKit
import Derived.OwnWalk
import Derived.BigQuiet
import Derived.Deep.QuietTactic
import Derived.Laws.StructEq
namespace Go.Proofs.Ythbbempmppnpkaa
open Go Go.RowKit
/-- A claim. -/
structure Clm where
  e : Int
  w : Int
  u : Int
def Clm.cells (c : Clm) : Array Value := #[.int .i64 c.e, .int .i64 c.w, .int .i64 c.u]
/-- A disk with this claim at block db. -/
def DK (w : World) (db : Nat) (c : Clm) : Prop := w.heap[db]? = some (.cells #[.int .i64 9, .int .i64 c.e, .int .i64 c.w, .int .i64 c.u, .slice none 0 0, .slice none 0 0, .slice none 0 0, .bool false, .int .i64 0] 61 (0, 0))
theorem DK.keep {w w' : World} {db : Nat} {c : Clm} (h : DK w db c) (hb : Below w.heap.size w w') : DK w' db c := keep0 hb h
theorem new_any (w : World) : Calls Try.prog 9 #[.int .i64 9] w fun e w' => e = .returned (.pointer (some ⟨w.heap.size, 0, none⟩)) ∧ DK w' w.heap.size ⟨0, 0, 0⟩ ∧ Below w.heap.size w w' := by
  go_enter Try.func9, Try.ntmps9
  go_wp2_with fail
  all_goals go_returns
  all_goals exact ⟨rfl, heap_new w _, by go_grown⟩
theorem dk_cells {w : World} {db : Nat} {c : Clm} (h : DK w db c) : w.cell? ⟨db, 1, none⟩ = some (.int .i64 c.e) ∧ w.cell? ⟨db, 2, none⟩ = some (.int .i64 c.w) ∧ w.cell? ⟨db, 3, none⟩ = some (.int .i64 c.u) := by
  refine ⟨?_, ?_, ?_⟩
  · rw [cell_of h 1]; rfl
  · rw [cell_of h 2]; rfl
  · rw [cell_of h 3]; rfl
theorem claim_any (db : Nat) (c : Clm) (w : World) (h : DK w db c) : Calls Try.prog 11 #[.pointer (some ⟨db, 0, none⟩)] w fun e w' => e = .returned (.agg c.cells) ∧ Below w.heap.size w w' := by
  obtain ⟨c1, c2, c3⟩ := dk_cells h
  obtain ⟨e, wh, u⟩ := c
  simp only at c1 c2 c3
  have hlt := lt_of h
  clear h
  go_enter Try.func11, Try.ntmps11
  go_wp2_with fail
  all_goals go_returns
  all_goals exact ⟨rfl, by go_grown⟩
end Go.Proofs.Ythbbempmppnpkaa
