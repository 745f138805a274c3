/- Small facts on worlds that every walk of this seat uses: a block that was there stays across calls, new blocks and draws; the cells of small structs. Conditions: none. -/
import Derived.WalkKit
import Derived.Handy
import Derived.WalkLawsBesides
import Derived.WalkSpells
import Derived.Laws.Tables
import Derived.Laws.Rows
namespace Go.Proofs.Ythkofnahimlijaa
open Go Go.RowKit
theorem hid {p : Prop} (h : p) : Hid p := h
theorem ret_bool {a b : Bool} (h : a = b) : Ending.returned (.bool a) = .returned (.bool b) := by rw [h]
theorem ret_i64 {a b : Int} (h : a = b) : Ending.returned (.int .i64 a) = .returned (.int .i64 b) := by rw [h]
theorem below_step {B : Nat} {w W w1 : World} (h : Below B w W) (hB : B ≤ W.heap.size) (hb : Below W.heap.size W w1) : Below B w w1 := h.trans (hb.mono hB)
theorem unD {B : Nat} {a w3 : World} (hb : Below B a.drew w3) : Below B a w3 := ⟨hb.os, hb.tape, hb.output, hb.size, hb.block⟩
theorem heap_new (w : World) (o : Obj) : (w.alloc o).heap[w.heap.size]? = some o := by
  show (w.heap.push o)[w.heap.size]? = some o
  simp
theorem cell_of {w : World} {B : Nat} {cs : Array Value} {t : TypeId} {f : Nat × Nat} (h : w.heap[B]? = some (.cells cs t f)) (i : Nat) : w.cell? ⟨B, i, none⟩ = cs[i]? := by simp [World.cell?, h]
theorem free_of {w : World} {B : Nat} {cs : Array Value} {t : TypeId} (h : w.heap[B]? = some (.cells cs t (0, 0))) (i : Nat) : w.frozen? ⟨B, i, none⟩ = false := by simp [World.frozen?, h]
theorem lt_of {w : World} {B : Nat} {c : Obj} (h : w.heap[B]? = some c) : B < w.heap.size := (Array.getElem?_eq_some_iff.1 h).1
theorem keep0 {w2 w3 : World} {c : Obj} {B : Nat} (hb : Below w2.heap.size w2 w3) (h : w2.heap[B]? = some c) : w3.heap[B]? = some c := by
  rw [hb.block B (lt_of h), h]
theorem keepA {w2 w3 : World} {o c : Obj} {B : Nat} (hb : Below (w2.alloc o).heap.size (w2.alloc o) w3) (h : w2.heap[B]? = some c) : w3.heap[B]? = some c := by
  have hB := lt_of h
  rw [hb.block B (by simp; omega), Below.heap_alloc _ _ _ hB, h]
theorem newA {w2 w3 : World} {o : Obj} (hb : Below (w2.alloc o).heap.size (w2.alloc o) w3) : w3.heap[w2.heap.size]? = some o := by
  rw [hb.block _ (by simp), heap_new]
theorem two {w : World} {B : Nat} {a0 a1 : Value} {T : TypeId} (h : w.heap[B]? = some (.cells #[a0, a1] T (0, 0))) : w.cell? ⟨B, 0, none⟩ = some a0 ∧ w.cell? ⟨B, 1, none⟩ = some a1 := by
  refine ⟨?_, ?_⟩
  · rw [cell_of h 0]; rfl
  · rw [cell_of h 1]; rfl
theorem twoF {w : World} {B : Nat} {cs : Array Value} {T : TypeId} (h : w.heap[B]? = some (.cells cs T (0, 0))) : w.frozen? ⟨B, 0, none⟩ = false ∧ w.frozen? ⟨B, 1, none⟩ = false :=
  ⟨free_of h 0, free_of h 1⟩
theorem two_set {w2 : World} {B : Nat} {T : TypeId} {a0 a1 : Value} (v0 v1 : Value) (h : w2.heap[B]? = some (.cells #[a0, a1] T (0, 0))) :
    ((w2.setCell ⟨B, 0, none⟩ v0).setCell ⟨B, 1, none⟩ v1).heap[B]? = some (.cells #[v0, v1] T (0, 0)) := by
  have h0 := heap_setCell_same w2 B 0 _ T v0 h
  have h1 := heap_setCell_same _ B 1 _ T v1 h0
  simpa using h1
theorem two_other {w2 : World} {B k : Nat} (v0 v1 : Value) (h : k ≠ B) : ((w2.setCell ⟨B, 0, none⟩ v0).setCell ⟨B, 1, none⟩ v1).heap[k]? = w2.heap[k]? := by
  rw [heap_setCell_other _ _ _ _ h, heap_setCell_other _ _ _ _ h]
theorem two_below {B g : Nat} {a w2 : World} (v0 v1 : Value) (h : Below B a w2) (hg : B ≤ g) : Below B a ((w2.setCell ⟨g, 0, none⟩ v0).setCell ⟨g, 1, none⟩ v1) :=
  (h.setCell (p := ⟨g, 0, none⟩) hg _).setCell (p := ⟨g, 1, none⟩) hg _
theorem below_setRow {B : Nat} {a w : World} (h : Below B a w) {g : Nat} (hg : B ≤ g) (cs : Array Value) : Below B a (w.setRow g cs) :=
  ⟨h.os, h.tape, h.output, by have := h.size; simpa [World.setRow] using this, fun k hk => (setRow_other w g k cs (by omega)).trans (h.block k hk)⟩
theorem results_row_tmp {P : Program} {fn : Func} {p u : Tmp} {ty : TypeId} (h : fn.results = #[.cell p ty, .tmp u]) (tmps : Array Value) (w : World) (g : Nat) (t : TypeId) (cs : Array Value) (fr : Nat × Nat) (d : TypeDesc)
    (v : Value) (hp : tmps.getD p undef = .pointer (some ⟨g, 0, none⟩)) (hv : tmps.getD u undef = v) (hg : w.heap[g]? = some (.cells cs t fr))
    (hu : P.underlying ty = some d) (hd : (match d with | .struct _ | .array _ _ => true | _ => false) = true) (hi : (P.info? ty).map (·.size) = some cs.size) :
    (results fn tmps).run P w = .ok (.tuple #[.agg cs, v]) w := by
  subst hv
  have hp' : tmps[p]?.getD undef = .pointer (some ⟨g, 0, none⟩) := by simpa using hp
  simp [results, h, hp', asAddr, run_loadVar_row w g t ty cs fr d hg hu hd hi]
end Go.Proofs.Ythkofnahimlijaa
