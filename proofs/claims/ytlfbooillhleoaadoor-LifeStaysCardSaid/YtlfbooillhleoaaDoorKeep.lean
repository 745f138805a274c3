/- A block that was there stays across calls and new blocks; the five cells of a life. Conditions: none. -/
import Derived.Test.YtlfbooillhleoaaDoorAwake
namespace Go.Proofs.YtlfbooillhleoaaDoor
open Go Go.RowKit
theorem keep0 {w2 w3 : World} {c : Obj} {B : Nat} (hb : Below w2.heap.size w2 w3) (h : w2.heap[B]? = some c) : w3.heap[B]? = some c := by
  have hB : B < w2.heap.size := (Array.getElem?_eq_some_iff.1 h).1
  rw [hb.block B hB, h]
theorem keepA {w2 w3 : World} {o c : Obj} {B : Nat} (hb : Below (w2.alloc o).heap.size (w2.alloc o) w3) (h : w2.heap[B]? = some c) : w3.heap[B]? = some c := by
  have hB : B < w2.heap.size := (Array.getElem?_eq_some_iff.1 h).1
  rw [hb.block B (by simp; omega), Below.heap_alloc _ _ _ hB, h]
theorem newA {w2 w3 : World} {o : Obj} (hb : Below (w2.alloc o).heap.size (w2.alloc o) w3) : w3.heap[w2.heap.size]? = some o := by
  rw [hb.block _ (by simp), heap_new]
theorem unD {B : Nat} {a w3 : World} (hb : Below B a.drew w3) : Below B a w3 := ⟨hb.os, hb.tape, hb.output, hb.size, hb.block⟩
theorem lt_of {w : World} {B : Nat} {c : Obj} (h : w.heap[B]? = some c) : B < w.heap.size := (Array.getElem?_eq_some_iff.1 h).1
theorem five {w : World} {B : Nat} {a0 a1 a2 a3 a4 : Value} {T : TypeId} (h : w.heap[B]? = some (.cells #[a0, a1, a2, a3, a4] T (0, 0))) :
    w.cell? ⟨B, 0, none⟩ = some a0 ∧ w.cell? ⟨B, 1, none⟩ = some a1 ∧ w.cell? ⟨B, 2, none⟩ = some a2 ∧ w.cell? ⟨B, 3, none⟩ = some a3 ∧ w.cell? ⟨B, 4, none⟩ = some a4 := by
  refine ⟨?_, ?_, ?_, ?_, ?_⟩
  · rw [cell_of h 0]; rfl
  · rw [cell_of h 1]; rfl
  · rw [cell_of h 2]; rfl
  · rw [cell_of h 3]; rfl
  · rw [cell_of h 4]; rfl
theorem five_below {B g : Nat} {a w2 : World} (v0 v1 v2 v3 v4 : Value) (h : Below B a w2) (hg : B ≤ g) :
    Below B a (((((w2.setCell ⟨g, 0, none⟩ v0).setCell ⟨g, 1, none⟩ v1).setCell ⟨g, 2, none⟩ v2).setCell ⟨g, 3, none⟩ v3).setCell ⟨g, 4, none⟩ v4) :=
  ((((h.setCell (p := ⟨g, 0, none⟩) hg _).setCell (p := ⟨g, 1, none⟩) hg _).setCell (p := ⟨g, 2, none⟩) hg _).setCell (p := ⟨g, 3, none⟩) hg _).setCell (p := ⟨g, 4, none⟩) hg _
theorem fiveF {w : World} {B : Nat} {cs : Array Value} {T : TypeId} (h : w.heap[B]? = some (.cells cs T (0, 0))) :
    w.frozen? ⟨B, 0, none⟩ = false ∧ w.frozen? ⟨B, 1, none⟩ = false ∧ w.frozen? ⟨B, 2, none⟩ = false ∧ w.frozen? ⟨B, 3, none⟩ = false ∧ w.frozen? ⟨B, 4, none⟩ = false :=
  ⟨free_of h 0, free_of h 1, free_of h 2, free_of h 3, free_of h 4⟩
end Go.Proofs.YtlfbooillhleoaaDoor
