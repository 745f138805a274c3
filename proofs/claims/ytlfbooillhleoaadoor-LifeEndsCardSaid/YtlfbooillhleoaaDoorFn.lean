/- What Next gives, as a plain function of the life and the sign. Condition: none. -/
import Derived.Test.YtlfbooillhleoaaDoorParts
namespace Go.Proofs.YtlfbooillhleoaaDoor
open Go Go.RowKit

structure LR where
  s : Int
  a : Int
  l : Int
  b : Bool
  t : Bool
  e : Int
def rv (r : LR) : Value := .tuple #[.agg #[.int .i64 r.s, .int .i64 r.a, .int .i64 r.l, .bool r.b, .bool r.t], .int .i64 r.e]
def nx (s sg : Int) : Int :=
  if s = 1 then (if sg = 1 then 2 else if sg = 3 then 3 else if sg = 6 then 8 else if sg = 7 then 8 else 0)
  else if s = 2 then (if sg = 2 then 1 else if sg = 6 then 8 else if sg = 7 then 8 else 0)
  else if s = 3 then (if sg = 4 then 4 else if sg = 5 then 4 else if sg = 6 then 4 else if sg = 8 then 5 else 0)
  else if s = 4 then (if sg = 4 then 4 else if sg = 5 then 4 else if sg = 6 then 4 else 0)
  else 0
def nextF (s a l : Int) (b t : Bool) (sg : Int) : LR :=
  if rightB s a l b t = false then ⟨0, 0, 0, false, false, 1⟩
  else if s = 4 ∧ sg = 8 then ⟨if t then 8 else if b then 6 else if 0 < l then 1 else 7, a, if t then l else if b then l else if 0 < l then l - 1 else l, false, false, 0⟩
  else if s = 4 ∧ sg = 6 ∧ t = true then ⟨0, 0, 0, false, false, 100⟩
  else if nx s sg = 0 then ⟨0, 0, 0, false, false, 100⟩
  else ⟨nx s sg, if sg = 3 then a + 1 else a, l, if sg = 4 then true else b, if sg = 6 ∧ nx s sg = 4 then true else t, 0⟩

theorem bcell {W w1 : World} (hb : Below W.heap.size W w1) : (∀ b o, b < W.heap.size → w1.cell? ⟨b, o, none⟩ = W.cell? ⟨b, o, none⟩) ∧ (∀ b o, b < W.heap.size → w1.frozen? ⟨b, o, none⟩ = W.frozen? ⟨b, o, none⟩) :=
  ⟨fun b o h => hb.cell (p := ⟨b, o, none⟩) h, fun b o h => hb.frozen (p := ⟨b, o, none⟩) h⟩
theorem below_step {B : Nat} {w W w1 : World} (h : Below B w W) (hB : B ≤ W.heap.size) (hb : Below W.heap.size W w1) : Below B w w1 := h.trans (hb.mono hB)
theorem ret_rv {r r' : LR} (h : r = r') : Ending.returned (rv r) = .returned (rv r') := by rw [h]
theorem right_bd {s a l : Int} {b t : Bool} (h : rightB s a l b t = true) : 1 ≤ s ∧ s ≤ 8 ∧ 0 ≤ a ∧ 0 ≤ l ∧ a + l ≤ 6 := by
  simp only [rightB, decide_eq_true_iff] at h
  obtain ⟨h1, h2, h3, h4, h5, _⟩ := h
  refine ⟨h1, h2, h3, h4, ?_⟩
  split at h5 <;> omega

theorem ret_rv' {s a l e : Int} {b t : Bool} {r : LR} (h : r = ⟨s, a, l, b, t, e⟩) : Ending.returned (.tuple #[.agg #[.int .i64 s, .int .i64 a, .int .i64 l, .bool b, .bool t], .int .i64 e]) = .returned (rv r) := by rw [h]; rfl
end Go.Proofs.YtlfbooillhleoaaDoor
